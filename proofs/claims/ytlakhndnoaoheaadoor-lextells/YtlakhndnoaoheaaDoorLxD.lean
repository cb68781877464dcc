/-
  lex: wordsBetween.
-/
import Derived.Test.YtlakhndnoaoheaaDoorLxC
namespace Go.Proofs.YtlakhndnoaoheaaDoor.Lx
open Go.RowKit

set_option linter.unusedVariables false

set_option maxHeartbeats 2000000 in
theorem wordsBetween_any (s : ByteArray) (i n : Nat) (w : World) (hi : i ≤ n) (hn : n ≤ s.size) (hs : s.size ≤ 5000) (h10 : ∀ j, i ≤ j → j < n → byteAt s j ≠ 10) (he : n = s.size ∨ (n < s.size ∧ byteAt s n = 10)) :
    Calls Tryd.prog 16 #[.string s, .int .i64 i, .int .i64 n] w fun e w' => WordsIs s i n w e w' := by
  have H10 := hid h10
  have HE := hid he
  clear h10 he
  go_enter Tryd.func16, Tryd.ntmps16
  go_wp2
  go_step3
  go_wp2
  go_step3
  go_wp2
  go_loopg [7, 8] (n - i) (fun g x a wr => ∃ (v : Value) (k : Nat) (ws : List (Nat × Nat)), v = x ∧ g = n - k ∧ a = .int .i64 k ∧ WSt s i n w wr v k ws)
  case atStart => exact ⟨_, i, [], rfl, rfl, rfl, Nat.le_refl _, hi, World.ownsRow_nil _ _ _ _, Below.refl _ _, rfl, rfl⟩
  case round =>
    obtain ⟨v, k, ws, rfl, hg, rfl, st⟩ := hrel
    have ge := st.ge
    have le := st.le
    have STX := hid st
    by_cases lk : k < n
    · have lk' : k < s.size := by omega
      have hx := index_str s lk'
      have hcc := at_str s lk'
      have n10 := H10.out k ge lk
      cases hsep : isSep (byteAt s k) with
      | true =>
        by_cases h35 : byteAt s k = 35
        · have HR := hid (show WordsIs s i n w (.returned v) wr from STX.out.fin (by
            rw [rem_sep0 lk' n10 hsep, show (false || decide (byteAt s k = 35)) = true by simp [h35], rem_skip hn (n - (k + 1)) (k + 1) (by omega) (fun j h1 h2 => H10.out j (by omega) h2), rem_eol HE.out]
            rfl))
          have e1 : (byteAt s k == 35) = true := by simpa using h35
          clear h35 hsep n10 st
          go_wp2
          all_goals first
            | ((try rw [Exit.noGoto_ret]); go_ret; exact HR.out)
            | (exfalso; clear HR STX H10 HE; go_light; simp_all <;> omega)
        · have hb : byteAt s k = 9 ∨ byteAt s k = 32 := by simp [isSep] at hsep; omega
          have HR := hid (show WSt s i n w wr v (k + 1) ws from ⟨by omega, by omega, STX.out.own, STX.out.low, by rw [← rem_blank lk' hb]; exact STX.out.r1, by rw [← rem_blank lk' hb]; exact STX.out.r2⟩)
          have e1 : (byteAt s k == 35) = false := by simpa using h35
          have HB := hid hb
          clear hb h35 hsep n10 st
          go_wp2
          all_goals first
            | (go_roundg (n - (k + 1)); (case measure => omega); (case rel => exact ⟨_, k + 1, ws, rfl, rfl, by go_num, HR.out⟩))
            | (exfalso; have := HB.out; clear HR STX H10 HE HB; go_light; simp_all <;> omega)
      | false =>
        have e1 : (byteAt s k == 35) = false := by simp [isSep] at hsep; simp [hsep]
        have e2 : (byteAt s k == 9) = false := by simp [isSep] at hsep; simp [hsep]
        have e3 : (byteAt s k == 32) = false := by simp [isSep] at hsep; simp [hsep]
        have HS := hid hsep
        have hcl : k ≤ n := by omega
        clear hsep n10 st
        go_wp2_with fail
        refine (endOfWord_any s k n _ hcl hn hs).mono ?_
        rintro e w1 ⟨⟨q, rfl, hq⟩, rfl⟩
        obtain ⟨q1, q2, q3, q4⟩ := hq
        have kq : k < q := by
          rcases Nat.lt_or_eq_of_le q1 with h | h
          · exact h
          · subst h
            rcases q4 with h | h
            · omega
            · rw [HS.out] at h; cases h.2
        have HQ3 := hid q3
        have HQ4 := hid q4
        clear q1 q3 q4
        have hsz : (s.extract k q).size ≤ 281474976710656 := by simp [ByteArray.size_extract]; omega
        obtain ⟨tx, htx⟩ : ∃ tx, s.extract k q = tx := ⟨_, rfl⟩
        rw [htx] at hsz
        have HTX := hid htx
        go_wp2_with fail
        refine (clone_any tx _ hsz).mono ?_
        rintro e w2 ⟨rfl, hb2⟩
        have own2 := owns_on hb2 STX.out.own
        have z2 : w.heap.size ≤ w2.heap.size := Nat.le_trans STX.out.low.size hb2.size
        have OWN := hid own2
        have LOW := hid (more STX.out.low hb2)
        have hsm := STX.out.small
        have vl := hid STX.out.own.lt
        clear own2 hb2 htx
        go_wp2_with (at_builtin; refine append_gen undWords infoWord rfl (by decide) (by decide) rfl (.tmp 28) (.tmp 36) rfl w.heap.size v ws.length _ rfl OWN.out rfl #[.string tx, .int .i64 k] rfl (by intro u hu; simp at hu; rcases hu with rfl | rfl <;> rfl) (by omega) z2 ?_; intro v' w4 own4 gr4 at4)
        have HR := hid (show WSt s i n w w4 v' q (ws ++ [(k, q)]) from ⟨by omega, by omega, by
            have := own4
            rw [List.length_append, List.flatMap_append]
            simpa [wdc, HTX.out] using this, by
            refine (LOW.out.alloc z2 _).grown gr4 (by simp; omega) (fun g hg => (vl.out g hg).1), by
            rw [STX.out.r1, rem_one kq (by omega) (fun j h1 h2 => ⟨H10.out j (by omega) (by omega), HQ3.out j h1 h2⟩) (by rcases HQ4.out with rfl | h; rcases HE.out with h | h; exact .inl (by omega); exact .inr (.inl h.2); exact .inr (.inr h.2))]; simp, by
            rw [STX.out.r2, rem_one kq (by omega) (fun j h1 h2 => ⟨H10.out j (by omega) (by omega), HQ3.out j h1 h2⟩) (by rcases HQ4.out with rfl | h; rcases HE.out with h | h; exact .inl (by omega); exact .inr (.inl h.2); exact .inr (.inr h.2))]⟩)
        clear own4 gr4 at4
        go_wp2_with fail
        go_roundg (n - q)
        case measure => omega
        case rel => exact ⟨v', q, _, rfl, rfl, rfl, HR.out⟩
    · obtain rfl : k = n := by omega
      have HR := hid (show WordsIs s i k w (.returned v) wr from STX.out.fin (by rw [rem_eol HE.out]; rfl))
      clear st
      go_wp2
      (try rw [Exit.noGoto_ret])
      go_ret
      exact HR.out

end Go.Proofs.YtlakhndnoaoheaaDoor.Lx
