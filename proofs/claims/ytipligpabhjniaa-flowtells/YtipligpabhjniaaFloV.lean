/-
  By the document: plnref3.Loops; plnkeep.Bools.
-/
import Derived.Test.YtipligpabhjniaaFloU
import Derived.Deep.RegionHeld3
import Derived.BigQuiet
import Derived.Deep.QuietTactic
namespace Go.Proofs.Ytipligpabhjniaa.Flo
open Go.RowKit View Rd Copy Num Ty Srt

set_option linter.unusedVariables false

/-- An operation is taken first; where it leaves its value is told. -/
theorem takeAt {P : Program} {ops : Array Oper} {Q : Exit → Act → World → Prop} {md : Region.Mode} {S : World → Prop} {i : Nat} {oi : Oper} {d : Option Tmp} {v : Value} {fuel : Nat} {listed : Array Bool} {a : Act} {w : World} (hi : ops[i]? = some oi) (hd : oi.dst = d)
    (hs : Region.noSelect ops = true) (hf : Region.free md ops listed i = true) (hr : (Region.ready md ops listed).contains i = true)
    (hQ : ∀ c a w, Q (.panic c) (a.put d v) w → Q (.panic c) a w) (hy : YieldsIf P ops S oi v a) (hS : S w)
    (h : wpAnyH P md ops Q S fuel (listed.setIfInBounds i true) (a.put d v) w) : wpAnyH P md ops Q S (fuel + 1) listed a w := by
  subst hd
  exact wpAnyH_take hi hs hf hr hQ hy hS h

/-- Another condition, which says more, from here on. -/
theorem wpAnyH_switch {P : Program} {ops : Array Oper} {Q : Exit → Act → World → Prop} {md : Region.Mode} {S S' : World → Prop} (h : ∀ w, S' w → S w) :
    ∀ (fuel : Nat) (listed : Array Bool) (a : Act) (w : World), wpAnyH P md ops Q S' fuel listed a w → wpAnyH P md ops Q S fuel listed a w
  | 0, _, _, _, H => H
  | fuel + 1, _, _, _, H => ⟨H.1, fun i hi => wpOp_mono (fun a' w' h' => ⟨h w' h'.1, wpAnyH_switch h fuel _ a' w' h'.2⟩) (H.2 i hi)⟩

theorem bool_of {b : Bool} {p : Prop} [Decidable p] (h : b = true ↔ p) : b = decide p := by
  cases b with
  | true => simp [h.1 rfl]
  | false => simp; exact fun hp => by simpa using h.2 hp

/-- It goes round. -/
def Rnd (F : FV) : Prop := ∃ x, x < F.blk.n ∧ Way (su F) 0 x ∧ ∃ t ∈ su F x, Way (su F) t x

open Classical in
set_option maxRecDepth 10000 in
set_option maxHeartbeats 2000000 in
theorem loops_ref (F : FV) (w : World) (hF : In w F) (hl : Light F) :
    Calls Try.prog 21 #[F.val] w fun e w' => ∃ b : Bool, e = .returned (.bool b) ∧ (b = true ↔ Rnd F) ∧ Below w.heap.size w w' := by
  have HF := hid hF
  have HL := hid hl
  have gb := hl.blk
  clear hF hl
  go_enter Try.func21, Try.ntmps21
  go_wp2_with fail
  refine (reach_ref F _ (HF.out.on (new (same w) _)) HL.out).mono ?_
  rintro e w1 ⟨f, ⟨M, rfl, hr, hM, hb1⟩, hf⟩
  have hf2 : ∀ i, i < F.blk.n → (f i = true ↔ Way (su F) 0 i) := fun i hi => by
    have := hf i hi
    rw [suL_neg (show (-1 : Int) < 0 by decide)] at this
    exact this.trans ⟨fun h => h.2.2, fun h => ⟨by unfold isB; simp; omega, by decide, h⟩⟩
  have HFF := hid hf2
  have HR := hid hr
  have F1 := hid ((FuncAt.alloc w F).on hb1)
  have B1 := hid (View.more (new (same w) _) hb1)
  clear hr hM hb1 hf hf2
  go_wp2_with fail
  go_loopw [4] (fun i wr => ∃ b : Nat, b ≤ F.blk.n ∧ i = .int .i64 b ∧ (∀ x, x < b → Way (su F) 0 x → ∀ t ∈ su F x, ¬ Way (su F) t x) ∧ Below w1.heap.size w1 wr) (fun i _ => F.blk.n - (intOf i).toNat)
  case atStart => exact ⟨0, Nat.zero_le _, rfl, fun x hx => by omega, same w1⟩
  case round =>
    obtain ⟨b, hbn, rfl, hno, hb⟩ := hrel
    have HN := hid hno
    clear hno
    obtain ⟨c0, c1, c2, c3, c4⟩ := F1.out.on hb
    by_cases hlt : b < F.blk.n
    · have hbb := bool_at (g := M) hlt
      have hrc := cell_on hb (HR.out.cell hlt)
      by_cases hfb : f b = true
      case neg =>
        have hfb' : f b = false := by simpa using hfb
        rw [hfb'] at hrc
        have FB := hid hfb
        clear hfb hfb'
        go_wp2_with fail
        go_round
        case rel => exact ⟨b + 1, by omega, by go_num, fun x hx hw => by
          by_cases e : x = b
          · subst e; exact absurd ((HFF.out x hlt).2 hw) FB.out
          · exact HN.out x (by omega) hw, hb⟩
        case measure => simp [intOf]; omega
      rw [hfb] at hrc
      have FB := hid hfb
      clear hfb
      go_wp2_with fail
      refine (next_ref F b _ (HF.out.on (View.more B1.out hb)) HL.out).mono ?_
      rintro e w3 ⟨s3, rfl, hsn, hsi, hsm, hb3⟩
      rw [suI_nat] at hsn hsi
      have hle := su_le HL.out b
      have hs20 : s3.n ≤ 20 := by omega
      have SN := hid hsn
      have SI := hid hsi
      have B3 := hid (View.more hb hb3)
      clear hsn hsi hsm hle hb3 hbb hrc c0 c1 c2 c3 c4
      go_wp2_with fail
      go_loopw [6] (fun i wr => ∃ k : Nat, k ≤ s3.n ∧ i = .int .i64 k ∧ (∀ j, j < k → ¬ Way (su F) ((su F b).getD j 0) b) ∧ Below w3.heap.size w3 wr) (fun i _ => s3.n - (intOf i).toNat)
      case atStart => exact ⟨0, Nat.zero_le _, rfl, fun j hj => by omega, same w3⟩
      case round =>
        clear hb
        obtain ⟨k, hk, rfl, hno, hbx⟩ := hrel
        have HN2 := hid hno
        clear hno
        have BX := hid (View.more B3.out hbx)
        by_cases hlt2 : k < s3.n
        · obtain ⟨ib, io, hiy, hcell⟩ := (SI.out.on hbx).at hlt2
          have hkl : k < (su F b).length := by have := SN.out; omega
          have hx := su_lt F b _ (getD_mem hkl)
          have hmX := getD_mem hkl
          obtain ⟨X, hX⟩ : ∃ X, (su F b).getD k 0 = X := ⟨_, rfl⟩
          rw [hX] at hx hmX
          simp only [hX] at hcell
          have HX := hid (And.intro hX hmX)
          have FW := hid (F1.out.on BX.out)
          have IW := hid (HF.out.on (View.more B1.out BX.out))
          have A0 : ∀ wx, Below wr.heap.size wr wx → wx.cell? ⟨w.heap.size, 0, none⟩ = some (.string F.name) := fun wx h => cell_on h FW.out.c0
          have A1 : ∀ wx, Below wr.heap.size wr wx → wx.cell? ⟨w.heap.size, 1, none⟩ = some (.bool F.out) := fun wx h => cell_on h FW.out.c1
          have A2 : ∀ wx, Below wr.heap.size wr wx → wx.cell? ⟨w.heap.size, 2, none⟩ = some (.slice F.par.a F.par.n F.par.c) := fun wx h => cell_on h FW.out.c2
          have A3 : ∀ wx, Below wr.heap.size wr wx → wx.cell? ⟨w.heap.size, 3, none⟩ = some (.int .i64 F.res) := fun wx h => cell_on h FW.out.c3
          have A4 : ∀ wx, Below wr.heap.size wr wx → wx.cell? ⟨w.heap.size, 4, none⟩ = some (.slice F.blk.a F.blk.n F.blk.c) := fun wx h => cell_on h FW.out.c4
          have A5 : ∀ wx, Below wr.heap.size wr wx → wx.cell? ⟨ib, io, none⟩ = some (.int .i64 X) := fun wx h => cell_on h hcell
          have st0 : Below wr.heap.size wr wr.drew := Below.drew (same _)
          obtain ⟨E, hE⟩ : ∃ E, decide (Way (su F) X b) = E := ⟨_, rfl⟩
          have EW := hid hE
          clear hX hmX hE hcell
          go_wp2_with fail
          cases E with
          | true =>
            refine wp_region_noPanic ?_
            refine wp_region_held_drew (S := fun wx => Below wr.heap.size wr wx) (by kernel_rfl) st0 (fun hS => ?_)
            refine takeAt (i := 0) (d := some 29) (v := ?va0) rfl (by rfl) (by kernel_rfl) (by kernel_rfl) (by kernel_rfl) (fun _ _ _ h => h) (Or.inl ⟨by rfl, ?ya0⟩) hS ?_
            case ya0 => intro wx hSw; (go_simp) <;> with_reducible rfl
            simp only [Act.put, List.setIfInBounds_toArray, List.set_cons_zero, List.set_cons_succ]
            refine takeAt (i := 1) (d := some 30) (v := ?va1) rfl (by rfl) (by kernel_rfl) (by kernel_rfl) (by kernel_rfl) (fun _ _ _ h => h) (Or.inl ⟨by rfl, ?ya1⟩) hS ?_
            case ya1 => intro wx hSw; (go_simp) <;> with_reducible rfl
            simp only [Act.put, List.setIfInBounds_toArray, List.set_cons_zero, List.set_cons_succ]
            refine takeAt (i := 2) (d := some 31) (v := ?va2) rfl (by rfl) (by kernel_rfl) (by kernel_rfl) (by kernel_rfl) (fun _ _ _ h => h) (Or.inl ⟨by rfl, ?ya2⟩) hS ?_
            case ya2 => intro wx hSw; (go_simp) <;> with_reducible rfl
            simp only [Act.put, List.setIfInBounds_toArray, List.set_cons_zero, List.set_cons_succ]
            refine takeAt (i := 3) (d := some 32) (v := ?va3) rfl (by rfl) (by kernel_rfl) (by kernel_rfl) (by kernel_rfl) (fun _ _ _ h => h) (Or.inl ⟨by rfl, ?ya3⟩) hS ?_
            case ya3 => intro wx hSw; (go_simp) <;> with_reducible rfl
            simp only [Act.put, List.setIfInBounds_toArray, List.set_cons_zero, List.set_cons_succ]
            refine takeAt (i := 4) (d := some 33) (v := ?va4) rfl (by rfl) (by kernel_rfl) (by kernel_rfl) (by kernel_rfl) (fun _ _ _ h => h) (Or.inl ⟨by rfl, ?ya4⟩) hS ?_
            case ya4 => intro wx hSw; (go_simp) <;> with_reducible rfl
            simp only [Act.put, List.setIfInBounds_toArray, List.set_cons_zero, List.set_cons_succ]
            refine takeAt (i := 6) (d := some 35) (v := ?va6) rfl (by rfl) (by kernel_rfl) (by kernel_rfl) (by kernel_rfl) (fun _ _ _ h => h) (Or.inl ⟨by rfl, ?ya6⟩) hS ?_
            case ya6 => intro wx hSw; (go_simp) <;> with_reducible rfl
            simp only [Act.put, List.setIfInBounds_toArray, List.set_cons_zero, List.set_cons_succ]
            refine wpAnyH_ready (rs := [5]) (by kernel_rfl) (by simp) ?_
            refine AllReadyH.cons rfl (fun K hK => ?_) AllReadyH.nil
            go_simp
            refine (from_ref F X (-1) _ (IW.out.on st0) HL.out).mono ?_
            rintro e w5 ⟨f5, ⟨M5, rfl, hr5, hM5, hb5⟩, hf5⟩
            have st1 : Below wr.heap.size wr w5 := View.more st0 hb5
            have hc5 := hr5.cell hlt
            have h5e : f5 b = decide (Way (su F) X b) := by
              have := hf5 b hlt
              rw [suL_neg (show (-1 : Int) < 0 by decide)] at this
              refine bool_of (this.trans ⟨fun h => h.2.2, fun h => ⟨?_, ?_, h⟩⟩)
              · unfold isB; simp; omega
              · omega
            rw [h5e, EW.out] at hc5
            have hbb5 := bool_at (g := M5) hlt
            clear hr5 hM5 hb5 hf5 h5e
            go_wp2_with fail
            refine hK.out _ _ st1 (fun _ => ?_)
            clear hK K
            replace hS := st1
            try simp only [Act.put, List.setIfInBounds_toArray, List.set_cons_zero, List.set_cons_succ]
            refine takeAt (i := 7) (d := some 36) (v := ?va7) rfl (by rfl) (by kernel_rfl) (by kernel_rfl) (by kernel_rfl) (fun _ _ _ h => h) (Or.inl ⟨by rfl, ?ya7⟩) hS ?_
            case ya7 => intro wx hSw; (go_simp) <;> with_reducible rfl
            simp only [Act.put, List.setIfInBounds_toArray, List.set_cons_zero, List.set_cons_succ]
            refine wpAnyH_ready (rs := [8]) (by kernel_rfl) (by simp) ?_
            refine AllReadyH.cons rfl (fun K hK => ?_) AllReadyH.nil
            go_simp
            refine hK.out _ _ st1 (fun _ => ?_)
            clear hK K
            replace hS := st1
            try simp only [Act.put, List.setIfInBounds_toArray, List.set_cons_zero, List.set_cons_succ]
            refine wpAnyH_done (by kernel_rfl) ?_ _
            refine NoPanic.normal ?_
            have ST := hid st1
            clear hS st0 st1 A0 A1 A2 A3 A4 A5 hc5 hbb5
            go_wp2_with fail
            go_ret
            exact ⟨true, rfl, by simp; exact ⟨b, hlt, (HFF.out b hlt).1 FB.out, X, HX.out.2, of_decide_eq_true EW.out⟩, View.more B1.out (View.more BX.out ST.out)⟩
          | false =>
            refine wp_region_noPanic ?_
            refine wp_region_held_drew (S := fun wx => Below wr.heap.size wr wx) (by kernel_rfl) st0 (fun hS => ?_)
            refine takeAt (i := 0) (d := some 29) (v := ?vb0) rfl (by rfl) (by kernel_rfl) (by kernel_rfl) (by kernel_rfl) (fun _ _ _ h => h) (Or.inl ⟨by rfl, ?yb0⟩) hS ?_
            case yb0 => intro wx hSw; (go_simp) <;> with_reducible rfl
            simp only [Act.put, List.setIfInBounds_toArray, List.set_cons_zero, List.set_cons_succ]
            refine takeAt (i := 1) (d := some 30) (v := ?vb1) rfl (by rfl) (by kernel_rfl) (by kernel_rfl) (by kernel_rfl) (fun _ _ _ h => h) (Or.inl ⟨by rfl, ?yb1⟩) hS ?_
            case yb1 => intro wx hSw; (go_simp) <;> with_reducible rfl
            simp only [Act.put, List.setIfInBounds_toArray, List.set_cons_zero, List.set_cons_succ]
            refine takeAt (i := 2) (d := some 31) (v := ?vb2) rfl (by rfl) (by kernel_rfl) (by kernel_rfl) (by kernel_rfl) (fun _ _ _ h => h) (Or.inl ⟨by rfl, ?yb2⟩) hS ?_
            case yb2 => intro wx hSw; (go_simp) <;> with_reducible rfl
            simp only [Act.put, List.setIfInBounds_toArray, List.set_cons_zero, List.set_cons_succ]
            refine takeAt (i := 3) (d := some 32) (v := ?vb3) rfl (by rfl) (by kernel_rfl) (by kernel_rfl) (by kernel_rfl) (fun _ _ _ h => h) (Or.inl ⟨by rfl, ?yb3⟩) hS ?_
            case yb3 => intro wx hSw; (go_simp) <;> with_reducible rfl
            simp only [Act.put, List.setIfInBounds_toArray, List.set_cons_zero, List.set_cons_succ]
            refine takeAt (i := 4) (d := some 33) (v := ?vb4) rfl (by rfl) (by kernel_rfl) (by kernel_rfl) (by kernel_rfl) (fun _ _ _ h => h) (Or.inl ⟨by rfl, ?yb4⟩) hS ?_
            case yb4 => intro wx hSw; (go_simp) <;> with_reducible rfl
            simp only [Act.put, List.setIfInBounds_toArray, List.set_cons_zero, List.set_cons_succ]
            refine takeAt (i := 6) (d := some 35) (v := ?vb6) rfl (by rfl) (by kernel_rfl) (by kernel_rfl) (by kernel_rfl) (fun _ _ _ h => h) (Or.inl ⟨by rfl, ?yb6⟩) hS ?_
            case yb6 => intro wx hSw; (go_simp) <;> with_reducible rfl
            simp only [Act.put, List.setIfInBounds_toArray, List.set_cons_zero, List.set_cons_succ]
            refine wpAnyH_ready (rs := [5]) (by kernel_rfl) (by simp) ?_
            refine AllReadyH.cons rfl (fun K hK => ?_) AllReadyH.nil
            go_simp
            refine (from_ref F X (-1) _ (IW.out.on st0) HL.out).mono ?_
            rintro e w5 ⟨f5, ⟨M5, rfl, hr5, hM5, hb5⟩, hf5⟩
            have st1 : Below wr.heap.size wr w5 := View.more st0 hb5
            have hc5 := hr5.cell hlt
            have h5e : f5 b = decide (Way (su F) X b) := by
              have := hf5 b hlt
              rw [suL_neg (show (-1 : Int) < 0 by decide)] at this
              refine bool_of (this.trans ⟨fun h => h.2.2, fun h => ⟨?_, ?_, h⟩⟩)
              · unfold isB; simp; omega
              · omega
            rw [h5e, EW.out] at hc5
            have hbb5 := bool_at (g := M5) hlt
            clear hr5 hM5 hb5 hf5 h5e
            go_wp2_with fail
            refine hK.out _ _ st1 (fun _ => ?_)
            clear hK K
            replace hS := st1
            try simp only [Act.put, List.setIfInBounds_toArray, List.set_cons_zero, List.set_cons_succ]
            refine takeAt (i := 7) (d := some 36) (v := ?vb7) rfl (by rfl) (by kernel_rfl) (by kernel_rfl) (by kernel_rfl) (fun _ _ _ h => h) (Or.inl ⟨by rfl, ?yb7⟩) hS ?_
            case yb7 => intro wx hSw; (go_simp) <;> with_reducible rfl
            simp only [Act.put, List.setIfInBounds_toArray, List.set_cons_zero, List.set_cons_succ]
            refine wpAnyH_ready (rs := [8]) (by kernel_rfl) (by simp) ?_
            refine AllReadyH.cons rfl (fun K hK => ?_) AllReadyH.nil
            go_simp
            refine hK.out _ _ st1 (fun _ => ?_)
            clear hK K
            replace hS := st1
            try simp only [Act.put, List.setIfInBounds_toArray, List.set_cons_zero, List.set_cons_succ]
            refine wpAnyH_done (by kernel_rfl) ?_ _
            refine NoPanic.normal ?_
            have ST := hid st1
            clear hS st0 st1 A0 A1 A2 A3 A4 A5 hc5 hbb5
            go_wp2_with fail
            go_round
            case rel => exact ⟨k + 1, by omega, by go_num, fun j hj => by
              by_cases e : j = k
              · subst e; rw [HX.out.1]; exact of_decide_eq_false EW.out
              · exact HN2.out j (by omega), View.more hbx ST.out⟩
            case measure => simp [intOf]; omega
        · obtain rfl : k = s3.n := by omega
          go_wp2_with fail
          go_round
          case rel => exact ⟨b + 1, by omega, by go_num, fun x hx hw t ht => by
            by_cases e : x = b
            · subst e
              obtain ⟨j, hj, e'⟩ := List.getElem_of_mem ht
              have h3 := HN2.out j (by rw [SN.out]; exact hj)
              have hg : (su F x).getD j 0 = t := by simp only [List.getD, List.getElem?_eq_getElem hj, e', Option.getD_some]
              rw [hg] at h3
              exact h3
            · exact HN.out x (by omega) hw t ht, BX.out⟩
          case measure => simp [intOf]; omega
    · obtain rfl : b = F.blk.n := by omega
      go_wp2_with fail
      go_ret
      exact ⟨false, rfl, by simp; rintro ⟨x, hx, hw, t, ht, hv⟩; exact HN.out x hx hw t ht hv, View.more B1.out hb⟩

set_option maxHeartbeats 1000000 in
theorem bools_any (n M M2 : Nat) (f g : Nat → Bool) (w : World) (h1 : w.rowIs M 4 n (fun i => .bool (f i))) (h2 : w.rowIs M2 4 n (fun i => .bool (g i))) (hn : n ≤ 1000) (he : ∀ i, i < n → f i = g i) :
    Calls Try.prog 15 #[.slice (some ⟨M, 0, none⟩) n n, .slice (some ⟨M2, 0, none⟩) n n] w fun e w' => e = .returned (.bool true) ∧ Below w.heap.size w w' := by
  have H1 := hid h1
  have H2 := hid h2
  have HE := hid he
  clear h1 h2 he
  have tn : ((n : Int) != (n : Int)) = false := by simp
  go_enter Try.func15, Try.ntmps15
  go_wp2_with fail
  go_loopw [5] (fun i wr => ∃ k : Nat, k ≤ n ∧ i = .int .i64 k ∧ Below w.heap.size w wr) (fun i _ => n - (intOf i).toNat)
  case atStart => exact ⟨0, Nat.zero_le _, rfl, same w⟩
  case round =>
    obtain ⟨k, hk, rfl, hb⟩ := hrel
    by_cases hlt : k < n
    · have e1 := cell_on hb (H1.out.cell hlt)
      have e2 := cell_on hb (H2.out.cell hlt)
      rw [HE.out k hlt] at e1
      have b1 := bool_at (g := M) hlt
      have b2 := bool_at (g := M2) hlt
      have t1 : (g k != g k) = false := by simp
      go_wp2_with fail
      go_quiet (fail)
      go_wp2_with fail
      exact ⟨⟨k + 1, by omega, by go_num, below_drewN hb _⟩, by simp [intOf]; omega⟩
    · obtain rfl : k = n := by omega
      go_wp2_with fail
      go_ret
      exact ⟨rfl, hb⟩

end Go.Proofs.Ytipligpabhjniaa.Flo
