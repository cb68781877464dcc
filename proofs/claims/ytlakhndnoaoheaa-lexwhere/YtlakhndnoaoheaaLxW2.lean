/-
  LexWhere where each byte may stand, walked.
-/
import Derived.Test.YtlakhndnoaoheaaLxW
import Derived.BigQuiet
import Derived.Deep.QuietTactic
namespace Go.Proofs.Ytlakhndnoaoheaa.Lx
open Go.RowKit

set_option linter.unusedVariables false

set_option maxRecDepth 10000 in
set_option maxHeartbeats 4000000 in
theorem whereGood (s : ByteArray) (w : World) (hs : s.size ≤ 1000) (hgood : Good s) :
    Calls Try.prog 3 #[.string s] w fun e w' => e = .returned (.bool true) ∧ Below w.heap.size w w' := by
  have t0 : decide ((1000 : Int) < (s.size : Int)) = false := by simp; omega
  have HG := hid hgood
  clear hgood
  go_enter Try.func3, Try.ntmps3
  go_wp2_with fail
  refine (first_true _).mono ?_
  rintro e w1 ⟨rfl, hb1⟩
  go_wp2_with fail
  refine (lines_good s _ (by omega) HG.out).mono ?_
  rintro e w2 ⟨⟨sa, sn, sc⟩, rfl, hb2, hn, f, hrow, hel⟩
  have LOW := hid (more hb1 hb2)
  have HN := hid (show sn = (linesOf (bts s) s.size).length from hn)
  have hsn : sn ≤ s.size := by have := lines_len (bts s) s.size; rw [HN.out]; exact this
  have HROW := hid hrow
  have HEL := hid (show ∀ i, i < sn → ElW s (linesOf (bts s) s.size) w2 i (f i) from hel)
  clear hb1 hb2 hn hrow hel
  go_wp2_with fail
  go_loop [6] (fun x => ∃ i : Nat, i ≤ s.size ∧ x = .int .i64 i) (fun x => s.size - (intOf x).toNat)
  case atStart => exact ⟨0, Nat.zero_le _, rfl⟩
  case round =>
    obtain ⟨i, hi, rfl⟩ := hrel
    by_cases lk : i < s.size
    · have hx := index_str s lk
      have hcc := at_str s lk
      have H3 := hid (ok_cases (HG.out i lk))
      go_wp2_with fail
      all_goals first
        | (go_round; (case rel => exact ⟨i + 1, by omega, by go_num⟩); (case measure => simp [intOf]; omega))
        | (exfalso; have := H3.out; clear H3 HG HN HROW HEL LOW; go_light; simp_all <;> omega)
    · obtain rfl : i = s.size := by omega
      clear lk hi
      go_wp2_with fail
      go_loopg [8, 9, 10] sn (fun g x y z wr => ∃ i to : Nat, g = sn - i ∧ x = .int .i64 to ∧ y = .bool false ∧ z = .int .i64 i ∧ i ≤ sn ∧ Kst (bts s) s.size i 0 to ∧ Below w2.heap.size w2 wr)
      case atStart => exact ⟨0, 0, rfl, rfl, rfl, rfl, Nat.zero_le _, Kst.start _ _, Below.refl _ _⟩
      case round =>
        obtain ⟨i, to, hg, rfl, rfl, rfl, hi, hk, hb⟩ := hrel
        have hto := hk.1
        have HK := hid hk
        have HB := hid hb
        clear hk hb
        by_cases li : i < sn
        · obtain ⟨b, o, ix, hc⟩ := HROW.out.idx undLines sizeLine i i rfl li
          obtain ⟨⟨wa, wn, wc⟩, hf⟩ : ∃ t, f i = t := ⟨_, rfl⟩
          have he := HEL.out i li
          rw [hf] at hc he
          obtain ⟨hn0, hr0⟩ := he
          have hn1 : wn = ((linesOf (bts s) s.size).getD i []).length := hn0
          have hp := lines_at (b := bts s) (n := s.size) (i := i) (by rw [← HN.out]; exact li)
          rw [← hn1] at hp
          obtain ⟨hp1, hp2⟩ := hp
          have HN1 := hid hn1
          have HR0 := hid hr0
          have hcr : wr.cell? ⟨b, o, none⟩ = some (.slice wa wn wc) := cell_on HB.out hc
          have HC := hid hc
          have t1 : (wn == 0) = false := by simp; omega
          have t1' : ((wn : Int) == 0) = false := by rw [beq_eq_false_iff_ne]; omega
          have t2 : ¬ wn = 0 := by omega
          clear hc hf hn0 hn1 hr0
          go_wp2_with fail
          go_loopg [8, 9, 11] wn (fun g x y z wx => ∃ k to : Nat, g = wn - k ∧ x = .int .i64 to ∧ y = .bool false ∧ z = .int .i64 k ∧ k ≤ wn ∧ Kst (bts s) s.size i k to ∧ Below w2.heap.size w2 wx)
          case atStart => exact ⟨0, to, rfl, rfl, rfl, rfl, Nat.zero_le _, HK.out, HB.out⟩
          case round =>
            obtain ⟨k, to, hg2, rfl, rfl, rfl, hk1, hkst, hb⟩ := hrel
            have hcx : wr.cell? ⟨b, o, none⟩ = some (.slice wa wn wc) := cell_on hb HC.out
            have HB2 := hid hb
            have HK2 := hid hkst
            clear hb hkst
            by_cases lk : k < wn
            · obtain ⟨b2, o2, ix2, hw⟩ := HR0.out.idx undWords sizeWord k k rfl lk
              have hj := HK2.out.jst (by rw [← HN.out]; exact li) (by rw [← HN1.out]; exact lk)
              obtain ⟨⟨p, q⟩, hx⟩ : ∃ x, ((linesOf (bts s) s.size).getD i []).getD k (0, 0) = x := ⟨_, rfl⟩
              rw [hx] at hw hj
              have hto2 := HK2.out.1
              obtain ⟨g1, g2, g3⟩ := hj.ge (by omega)
              simp only at g1 g2 g3
              obtain ⟨tx, htx⟩ : ∃ tx, s.extract p q = tx := ⟨_, rfl⟩
              have hsz : tx.size = q - p := by rw [← htx, ByteArray.size_extract]; omega
              have c0 : wr.cell? ⟨b2, o2, none⟩ = some (.string tx) := by rw [← htx]; exact cell_on HB2.out hw.c0
              have c1 : wr.cell? ⟨b2, o2 + 1, none⟩ = some (.int .i64 p) := cell_on HB2.out hw.c1
              obtain rfl : q = p + tx.size := by omega
              have HJ := hid hj
              have hpos : 0 < tx.size := by omega
              clear hj hx hw hsz g2
              have t3 : ¬ tx.size = 0 := by omega
              have t3' : ((tx.size : Int) == 0) = false := by rw [beq_eq_false_iff_ne]; omega
              have t3'' : (tx.size == 0) = false := by rw [beq_eq_false_iff_ne]; omega
              have t4' : decide (p < to) = false := by simp; omega
              have t6 : IntKind.i64.wrap ((s.size : Int) - (tx.size : Int)) = (s.size : Int) - (tx.size : Int) := by rw [IntKind.wrap_i64]; omega
              have t7 : IntKind.i64.wrap ((p : Int) + (tx.size : Int)) = (p : Int) + (tx.size : Int) := by rw [IntKind.wrap_i64]; omega
              have hsl : ∀ wx, (Instr.slice 9 (.string s) (some (.int .i64 (p : Int))) (some (.int .i64 ((p : Int) + (tx.size : Int)))) none).run Try.prog wx = .ok (.string tx) wx := fun wx => by
                rw [run_slice_string (h := by kernel_rfl) (h0 := by omega) (h1 := by omega) (h2 := by omega), show ((p : Int) + (tx.size : Int)).toNat = p + tx.size by omega, Int.toNat_natCast, htx]
              have t4 : decide ((p : Int) < (to : Int)) = false := by simp; omega
              have t5 : decide ((s.size : Int) - (tx.size : Int) < (p : Int)) = false := by simp; omega
              obtain ⟨W, hW⟩ : ∃ W, wr.alloc (.cells #[.string tx, .int .i64 p] 31) = W := ⟨_, rfl⟩
              obtain ⟨B, hB⟩ : ∃ B, wr.heap.size = B := ⟨_, rfl⟩
              have d0 : W.cell? ⟨B, 0, none⟩ = some (.string tx) := by rw [← hW, ← hB]; simp
              have d1 : W.cell? ⟨B, 1, none⟩ = some (.int .i64 p) := by rw [← hW, ← hB]; simp
              have HBW := hid (show Below wr.heap.size wr W by rw [← hW]; exact new (same wr) _)
              go_wp2_with fail
              go_quiet (fail)
              generalize hW2 : W.drewN nq = W2
              have d0' : W2.cell? ⟨B, 0, none⟩ = some (.string tx) := by rw [← hW2]; exact d0
              have d1' : W2.cell? ⟨B, 1, none⟩ = some (.int .i64 p) := by rw [← hW2]; exact d1
              have HBW2 := hid (show Below wr.heap.size wr W2 by rw [← hW2]; exact below_drewN HBW.out _)
              clear d0 d1
              go_wp2_with fail
              clear hW2 hW hB
              go_loop [9, 13, 14] (fun x y z => ∃ (j lines : Nat) (note : Bool), x = .bool note ∧ y = .int .i64 lines ∧ z = .int .i64 j ∧ lines ≤ j ∧ j ≤ p ∧ Jst (bts s) s.size i k lines j note (p, p + tx.size) (((linesOf (bts s) s.size).getD i []).drop (k + 1)) ((linesOf (bts s) s.size).drop (i + 1))) (fun x y z => p - (intOf z).toNat)
              case atStart => exact ⟨to, 0, false, rfl, rfl, rfl, Nat.zero_le _, g1, HJ.out⟩
              case round =>
                obtain ⟨j, lines, note, rfl, rfl, rfl, hlj, htj, hj⟩ := hrel
                by_cases lj : j < p
                · have ls : j < s.size := by omega
                  have hx := index_str s ls
                  have hcc := at_str s ls
                  rcases hj.step lj with ⟨h1, h2, h3⟩ | ⟨h1, h3⟩ | ⟨h1, h2, h4, h3⟩
                  · replace h1 : byteAt s j = 10 := h1
                    have e1 : (byteAt s j == 10) = true := by simpa using h1
                    have H3 := hid h3
                    clear hj h1 h3
                    go_wp2_with fail
                    go_round
                    case rel => exact ⟨j + 1, lines + 1, false, rfl, by go_num, by go_num, by omega, by omega, H3.out⟩
                    case measure => simp [intOf]; omega
                  · replace h1 : byteAt s j = 35 := h1
                    have e1 : (byteAt s j == 10) = false := by rw [beq_eq_false_iff_ne]; omega
                    have e2 : (byteAt s j == 35) = true := by simpa using h1
                    have H3 := hid h3
                    clear hj h1 h3
                    go_wp2_with fail
                    go_round
                    case rel => exact ⟨j + 1, lines, true, rfl, rfl, by go_num, by omega, by omega, H3.out⟩
                    case measure => simp [intOf]; omega
                  · replace h1 : byteAt s j ≠ 10 := h1
                    replace h2 : byteAt s j ≠ 35 := h2
                    have e1 : (byteAt s j == 10) = false := by rw [beq_eq_false_iff_ne]; omega
                    have e2 : (byteAt s j == 35) = false := by rw [beq_eq_false_iff_ne]; omega
                    have H3 := hid h3
                    have H4 := hid h4
                    clear hj h1 h2 h3 h4
                    cases note with
                    | true =>
                      go_wp2_with fail
                      go_round
                      case rel => exact ⟨j + 1, lines, true, rfl, rfl, by go_num, by omega, by omega, H3.out⟩
                      case measure => simp [intOf]; omega
                    | false =>
                      by_cases h9 : byteAt s j = 9
                      · have e3 : (byteAt s j != 9) = false := by simpa using h9
                        clear h9
                        go_wp2_with fail
                        go_round
                        case rel => exact ⟨j + 1, lines, false, rfl, rfl, by go_num, by omega, by omega, H3.out⟩
                        case measure => simp [intOf]; omega
                      · have h32 : byteAt s j = 32 := by
                          rcases H4.out with h | h | h
                          · cases h
                          · exact absurd h h9
                          · exact h
                        have e3 : (byteAt s j != 9) = true := by simpa using h9
                        have e4 : (byteAt s j != 32) = false := by simpa using h32
                        clear h9 h32
                        go_wp2_with fail
                        go_round
                        case rel => exact ⟨j + 1, lines, false, rfl, rfl, by go_num, by omega, by omega, H3.out⟩
                        case measure => simp [intOf]; omega
                · obtain rfl : j = p := by omega
                  obtain ⟨rfl, q1, q2, q3⟩ := hj.word rfl (by simp only; omega)
                  simp only at q3
                  have HF := hid (show Kst (bts s) s.size i (k + 1) (j + tx.size) from ⟨g3, .inr (.inr ⟨by omega, q3⟩)⟩)
                  have HLOW := hid (show Below w2.heap.size w2 W2 from more HB2.out HBW2.out)
                  clear hj q3 lj
                  by_cases hk0 : 0 < k
                  · obtain rfl := q1 hk0
                    have e5 : decide (0 < k) = true := by simpa using hk0
                    have e6 : (k == 0) = false := by rw [beq_eq_false_iff_ne]; omega
                    go_wp2_with fail
                    go_roundg (wn - (k + 1))
                    case measure => omega
                    case rel => first | exact ⟨k + 1, j + tx.size, rfl, by go_num, rfl, by go_num, by omega, HF.out, HLOW.out⟩ | ((repeat apply Exists.intro); exact ⟨⟨_, _, rfl, by go_num, rfl, by go_num, by omega, HF.out, HLOW.out⟩, rfl⟩)
                  · obtain rfl : k = 0 := by omega
                    by_cases hi0 : 0 < i
                    · have hl0 := q2 rfl hi0
                      have e5 : (lines == 0) = false := by rw [beq_eq_false_iff_ne]; omega
                      have e6 : decide (0 < i) = true := by simpa using hi0
                      go_wp2_with fail
                      go_roundg (wn - (0 + 1))
                      case measure => omega
                      case rel => first | exact ⟨0 + 1, j + tx.size, rfl, by go_num, rfl, by go_num, by omega, HF.out, HLOW.out⟩ | ((repeat apply Exists.intro); exact ⟨⟨_, _, rfl, by go_num, rfl, by go_num, by omega, HF.out, HLOW.out⟩, rfl⟩)
                    · obtain rfl : i = 0 := by omega
                      go_wp2_with fail
                      go_roundg (wn - (0 + 1))
                      case measure => omega
                      case rel => first | exact ⟨0 + 1, j + tx.size, rfl, by go_num, rfl, by go_num, by omega, HF.out, HLOW.out⟩ | ((repeat apply Exists.intro); exact ⟨⟨_, _, rfl, by go_num, rfl, by go_num, by omega, HF.out, HLOW.out⟩, rfl⟩)
            · obtain rfl : k = wn := by omega
              have HF := hid (HK2.out.line HN1.out hp1)
              go_wp2_with fail
              go_roundg (sn - (i + 1))
              case measure => omega
              case rel => exact ⟨i + 1, to, rfl, rfl, rfl, by go_num, by omega, HF.out, HB2.out⟩
        · obtain rfl : i = sn := by omega
          have HE := hid (HK.out.last HN.out)
          clear li
          go_wp2_with fail
          go_loop [9, 15] (fun x z => ∃ (j : Nat) (note : Bool), x = .bool note ∧ z = .int .i64 j ∧ j ≤ s.size ∧ conz (rem (bts s) s.size j note none) = []) (fun x z => s.size - (intOf z).toNat)
          case atStart => exact ⟨to, false, rfl, rfl, hto, HE.out⟩
          case round =>
            obtain ⟨j, note, rfl, rfl, hj1, hj⟩ := hrel
            have H0 := hid hj
            clear hj
            by_cases ls : j < s.size
            · have hx := index_str s ls
              have hcc := at_str s ls
              rcases rest_step H0.out ls with ⟨h1, h3⟩ | ⟨h1, h3⟩ | ⟨h1, h2, h4, h3⟩
              · replace h1 : byteAt s j = 10 := h1
                have e1 : (byteAt s j == 10) = true := by simpa using h1
                have H3 := hid h3
                clear h1 h3
                go_wp2_with fail
                go_round
                case rel => exact ⟨j + 1, false, rfl, by go_num, by omega, H3.out⟩
                case measure => simp [intOf]; omega
              · replace h1 : byteAt s j = 35 := h1
                have e1 : (byteAt s j == 10) = false := by rw [beq_eq_false_iff_ne]; omega
                have e2 : (byteAt s j == 35) = true := by simpa using h1
                have H3 := hid h3
                clear h1 h3
                go_wp2_with fail
                go_round
                case rel => exact ⟨j + 1, true, rfl, by go_num, by omega, H3.out⟩
                case measure => simp [intOf]; omega
              · replace h1 : byteAt s j ≠ 10 := h1
                replace h2 : byteAt s j ≠ 35 := h2
                have e1 : (byteAt s j == 10) = false := by rw [beq_eq_false_iff_ne]; omega
                have e2 : (byteAt s j == 35) = false := by rw [beq_eq_false_iff_ne]; omega
                have H3 := hid h3
                have H4 := hid h4
                clear h1 h2 h3 h4
                cases note with
                | true =>
                  go_wp2_with fail
                  go_round
                  case rel => exact ⟨j + 1, true, rfl, by go_num, by omega, H3.out⟩
                  case measure => simp [intOf]; omega
                | false =>
                  by_cases h9 : byteAt s j = 9
                  · have e3 : (byteAt s j != 9) = false := by simpa using h9
                    clear h9
                    go_wp2_with fail
                    go_round
                    case rel => exact ⟨j + 1, false, rfl, by go_num, by omega, H3.out⟩
                    case measure => simp [intOf]; omega
                  · have h32 : byteAt s j = 32 := by
                      rcases H4.out with h | h | h
                      · cases h
                      · exact absurd h h9
                      · exact h
                    have e3 : (byteAt s j != 9) = true := by simpa using h9
                    have e4 : (byteAt s j != 32) = false := by simpa using h32
                    clear h9 h32
                    go_wp2_with fail
                    go_round
                    case rel => exact ⟨j + 1, false, rfl, by go_num, by omega, H3.out⟩
                    case measure => simp [intOf]; omega
            · obtain rfl : j = s.size := by omega
              go_wp2_with fail
              go_ret
              exact ⟨rfl, more LOW.out HB.out⟩

theorem lexWhere_any (s : ByteArray) (w : World) : Calls Try.prog 3 #[.string s] w fun e w' => e = .returned (.bool true) ∧ Below w.heap.size w w' := by
  by_cases hl : (1000 : Int) < s.size
  · exact whereLong s w hl
  rcases good_or_bad s with h | ⟨k, h⟩
  · exact whereGood s w (by omega) h
  · exact whereBad s w (by omega) k h (fun w => lines_bad s w (by omega) h)

end Go.Proofs.Ytlakhndnoaoheaa.Lx
