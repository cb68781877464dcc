/-
  Wgb, Wgc: laid together.
-/
import Derived.Test.YtbmfimojhcdnbaaGreatJ11
import Derived.Test.YtbmfimojhcdnbaaGreatJ22
import Derived.Test.YtbmfimojhcdnbaaGreatJ21
/-
  wf: chapter 6's examples: plnlaw6.first answers true.
-/
namespace Go.Proofs.YtbmfimojhcdnbaaGreat.Wf
open Go.RowKit View Rd Num Opn Copy Srt Go.Proofs.YtbmfimojhcdnbaaGreat.Mod Go.Proofs.YtbmfimojhcdnbaaGreat.Chk Go.Proofs.YtbmfimojhcdnbaaGreat.Flo

set_option linter.unusedVariables false

abbrev jF (N : Nat) : FV := oneF (N + 1 + 1) (N + 1) (jumpI N) (fun _ => 0)
abbrev rF (N : Nat) : FV := oneF (N + 1 + 1 + 1 + 1 + 1 + 1) (N + 1 + 1 + 1 + 1 + 1) retI (fun _ => 0)
abbrev jM (N : Nat) : MV := oneM (N + 1 + 1 + 1) (jF N)
abbrev rM (N : Nat) : MV := oneM (N + 1 + 1 + 1 + 1 + 1 + 1 + 1) (rF N)

abbrev wJ (w : World) : World := ((((w.alloc (.cells #[.int .i64 0] 3)).alloc (.cells (jumpI w.heap.size).cells 50)).alloc (.cells #[.slice (some ⟨w.heap.size + 1, 0, none⟩) 1 1] 47)).alloc (.cells (fcells (jF w.heap.size)) 43)).alloc (.cells (mcells (jM w.heap.size)) 27)
abbrev wR (w : World) : World := ((((wJ w).alloc (.cells retI.cells 50)).alloc (.cells #[.slice (some ⟨w.heap.size + 1 + 1 + 1 + 1 + 1, 0, none⟩) 1 1] 47)).alloc (.cells (fcells (rF w.heap.size)) 43)).alloc (.cells (mcells (rM w.heap.size)) 27)

theorem in_J (w : World) : InM (wR w) (jM w.heap.size) := by
  refine InM.on (new (new (new (new (new (same _) _) _) _) _) _) (inM_one (lit_fn _ (jF w.heap.size) _ (by simp)) (in_one ?_ ?_ (litN _ _) ?_))
  · exact (lit_blk _ ⟨some ⟨w.heap.size + 1, 0, none⟩, 1, 1⟩ _ (by simp)).on (new (same _) _)
  · exact (lit_ins _ (jumpI w.heap.size) _ (by simp)).on (new (new (same _) _) _)
  · exact (lit1 w 0 (fun _ => 0) rfl _ rfl).on (new (new (new (same _) _) _) _)

theorem in_R (w : World) : InM (wR w) (rM w.heap.size) := by
  refine InM.on (new (same _) _) (inM_one (lit_fn _ (rF w.heap.size) _ (by simp)) (in_one ?_ ?_ (litN _ _) (litN _ _)))
  · exact (lit_blk _ ⟨some ⟨w.heap.size + 1 + 1 + 1 + 1 + 1, 0, none⟩, 1, 1⟩ _ (by simp)).on (new (same _) _)
  · exact (lit_ins _ retI _ (by simp)).on (new (new (same _) _) _)

/-- A module's box. -/
def MCell (M : MV) (w : World) (b : Nat) : Prop := w.cell? ⟨b, 0, none⟩ = some (.slice M.ext.a M.ext.n M.ext.c) ∧ w.cell? ⟨b, 1, none⟩ = some (.slice M.glo.a M.glo.n M.glo.c) ∧ w.cell? ⟨b, 2, none⟩ = some (.slice M.tab.a M.tab.n M.tab.c) ∧ w.cell? ⟨b, 3, none⟩ = some (.slice M.fns.a M.fns.n M.fns.c)

theorem mcell_alloc (M : MV) (w : World) (N : Nat) (hN : w.heap.size = N) : MCell M (w.alloc (.cells (mcells M) 27)) N := by
  subst hN
  exact ⟨by simp, by simp, by simp, by simp⟩

theorem MCell.on {M : MV} {w w' : World} {b : Nat} (hb : Below w.heap.size w w') (h : MCell M w b) : MCell M w' b := ⟨cell_on hb h.1, cell_on hb h.2.1, cell_on hb h.2.2.1, cell_on hb h.2.2.2⟩

theorem name_a1 : NameOk ⟨#[97, 49]⟩ := by
  refine ⟨by decide, by decide, by decide +kernel, by decide +kernel, fun i hi => ?_⟩
  have hi' : i < 2 := hi
  have : i = 0 ∨ i = 1 := by omega
  rcases this with rfl | rfl <;> decide +kernel

theorem chk_J (N : Nat) (w : World) (h : InM w (jM N)) : Calls Tryz.prog 10 #[.agg #[.slice none 0 0, .slice none 0 0, .slice none 0 0, .slice (some ⟨N + 1 + 1 + 1, 0, none⟩) 1 1]] w fun e w' => e = .returned (.int .i64 5) ∧ Below w.heap.size w w' := by
  have hs : SmallM (jM N) := small_one (N + 1 + 1 + 1) (N + 1 + 1) (N + 1) (jumpI N) (fun _ => 0) (Nat.zero_le _) (show 1 ≤ 20 by omega)
  have hj : ∀ i, i < (jM N).fns.n → Jng ((jM N).F i) := jng_one
  have he : errM (jM N) = 5 := err_jump _ _ _ _
  refine Calls.mono (wcheck_any (jM N) w h hs hj) ?_
  rintro e w1 ⟨r, rfl, hr, hb⟩
  exact ⟨by rw [hr, he], hb⟩

theorem chk_R (N : Nat) (w : World) (h : InM w (rM N)) : Calls Tryz.prog 10 #[.agg #[.slice none 0 0, .slice none 0 0, .slice none 0 0, .slice (some ⟨N + 1 + 1 + 1 + 1 + 1 + 1 + 1, 0, none⟩) 1 1]] w fun e w' => e = .returned (.int .i64 0) ∧ Below w.heap.size w w' := by
  have hs : SmallM (rM N) := small_one _ (N + 1 + 1 + 1 + 1 + 1 + 1) (N + 1 + 1 + 1 + 1 + 1) retI (fun _ => 0) (Nat.zero_le _) (Nat.zero_le _)
  have hj : ∀ i, i < (rM N).fns.n → Jng ((rM N).F i) := jng_one
  have he : errM (rM N) = 0 := err_ok (fit_ret _ _ _ _)
  refine Calls.mono (wcheck_any (rM N) w h hs hj) ?_
  rintro e w1 ⟨r, rfl, hr, hb⟩
  exact ⟨by rw [hr, he], hb⟩

theorem chk_no (w : World) : Calls Tryz.prog 10 #[.agg #[.slice none 0 0, .slice none 0 0, .slice none 0 0, .slice none 0 0]] w fun e w' => e = .returned (.int .i64 0) ∧ Below w.heap.size w w' := by
  have he : errM noM = 0 := err_ok fit_no
  refine Calls.mono (wcheck_any noM w inM_no small_no (fun i hi => absurd (show i < 0 from hi) (by omega))) ?_
  rintro e w1 ⟨r, rfl, hr, hb⟩
  exact ⟨by rw [hr, he], hb⟩

set_option maxRecDepth 10000 in
set_option maxHeartbeats 1000000 in
theorem first_any (w : World) : Calls Tryz.prog 6 #[] w fun e w' => e = .returned (.bool true) ∧ Below w.heap.size w w' := by
  have IJ0 := in_J w
  have IR0 := in_R w
  have CJ0 : MCell (jM w.heap.size) (wR w) (w.heap.size + 1 + 1 + 1 + 1) := (mcell_alloc _ _ _ (by simp)).on (new (new (new (new (same _) _) _) _) _)
  have CR0 : MCell (rM w.heap.size) (wR w) (w.heap.size + 1 + 1 + 1 + 1 + 1 + 1 + 1 + 1) := mcell_alloc _ _ _ (by simp)
  have LW0 : Below w.heap.size w (wR w) := new (new (new (new (new (new (new (new (new (same w) _) _) _) _) _) _) _) _) _
  obtain ⟨W, hW⟩ : ∃ W, wR w = W := ⟨_, rfl⟩
  rw [hW] at IJ0 IR0 CJ0 CR0 LW0
  have IJ := hid IJ0
  have IR := hid IR0
  have CJ := hid CJ0
  have CR := hid CR0
  have LW := hid LW0
  clear IJ0 IR0 CJ0 CR0 LW0
  simp only [wR, wJ, jM, jF, rM, rF, oneM, oneF, jumpI, retI] at hW
  go_enter Tryz.func6, Tryz.ntmps6
  go_wp2_with first
    | (go_at_call 12; have hq := st3; refine (wname_any ⟨#[97, 49]⟩ _ (by decide)).mono ?_; rintro e w4 ⟨r, rfl, hr, hw⟩; have hr' := hr.2 name_a1; subst hr'; have st4 : Below W.heap.size W w4 := by rw [hw]; exact hq
       clear hr hw st3)
    | (go_at_call 10; have hq := st2; refine (chk_R w.heap.size _ (IR.out.on hq)).mono ?_; rintro e w3 ⟨rfl, hb⟩; have st3 := View.more hq hb; clear hb st2)
    | (go_at_call 10; have hq := st1; refine (chk_J w.heap.size _ (IJ.out.on hq)).mono ?_; rintro e w2 ⟨rfl, hb⟩; have st2 := View.more hq hb; obtain ⟨l0, l1, l2, l3⟩ := CR.out.on st2; clear hb st1)
    | (go_at_call 10; refine (chk_no W).mono ?_; rintro e w1 ⟨rfl, hb⟩; have st1 : Below W.heap.size W w1 := hb; obtain ⟨k0, k1, k2, k3⟩ := CJ.out.on st1; clear hb)
  go_ret
  exact ⟨rfl, View.more LW.out st4⟩

end Go.Proofs.YtbmfimojhcdnbaaGreat.Wf

/-
  wf: the walk of WfTells.
-/
namespace Go.Proofs.YtbmfimojhcdnbaaGreat.Wf
open Go.RowKit View Rd Num Opn Copy Srt Go.Proofs.YtbmfimojhcdnbaaGreat.Mod Go.Proofs.YtbmfimojhcdnbaaGreat.Chk Go.Proofs.YtbmfimojhcdnbaaGreat.Flo

set_option linter.unusedVariables false

theorem jng_of {M : MV} (h : FitsM M) : ∀ i, i < M.fns.n → Jng (M.F i) := fun i hi j hj k hk t ht => (h.fns i hi).into j hj k hk t ht

set_option maxRecDepth 10000 in
set_option maxHeartbeats 4000000 in
theorem wfTells_any (M : MV) (s : ByteArray) (op : Int) (w : World) (hM : InM w M) (hf : FitsM M) : Calls Tryz.prog 3 #[M.val, .string s, .int .i64 op] w fun e w' => e = .returned (.bool true) ∧ Below w.heap.size w w' := by
  obtain ⟨W, hW⟩ : ∃ W, w.alloc (.cells (mcells M) 27) = W := ⟨_, rfl⟩
  have LW := hid (show Below w.heap.size w W by rw [← hW]; exact new (same w) _)
  have MC := hid (show MCell M W w.heap.size by rw [← hW]; exact mcell_alloc M w _ rfl)
  have HM := hid (hM.on LW.out)
  have HJ := hid (jng_of hf)
  clear hM hf
  go_enter Tryz.func3, Tryz.ntmps3
  go_wp2_with fail
  clear hW
  refine (first_any W).mono ?_
  rintro e w1 ⟨rfl, hb⟩
  have B1 := hid hb
  obtain ⟨m0, m1, m2, m3⟩ := MC.out.on hb
  clear hb
  go_wp2_with fail
  clear m0 m1 m2 m3
  refine (small_any M w1 (HM.out.on B1.out)).mono ?_
  rintro e w2 ⟨r, rfl, hr, hb⟩
  have B2 := hid (View.more B1.out hb)
  have HR := hid hr
  clear hb hr
  cases r with
  | false =>
    go_wp2_with fail
    refine (first_any w2).mono ?_
    rintro e w3 ⟨rfl, hb⟩
    have B3 := hid (View.more B2.out hb)
    clear hb
    go_wp2_with fail
    go_ret
    exact ⟨rfl, View.more LW.out B3.out⟩
  | true =>
  have HS := hid (HR.out rfl)
  clear HR
  by_cases hs : 60 < s.size
  · have t1 : decide ((60 : Int) < s.size) = true := by simp; omega
    clear hs
    go_wp2_with fail
    refine (first_any w2).mono ?_
    rintro e w3 ⟨rfl, hb⟩
    have B3 := hid (View.more B2.out hb)
    clear hb
    go_wp2_with fail
    go_ret
    exact ⟨rfl, View.more LW.out B3.out⟩
  have t1 : decide ((60 : Int) < s.size) = false := by simp; omega
  have hs1 : s.size ≤ 60 := by omega
  have HZ := hid hs1
  clear hs hs1
  go_wp2_with fail
  obtain ⟨x, hx⟩ : ∃ x, mk op = x := ⟨_, rfl⟩
  refine (markW_any op w2).mono ?_
  rintro e w3 ⟨rfl, hw⟩
  rw [hw, hx]
  clear hw
  go_wp2_with fail
  refine (mark_any op w2).mono ?_
  rintro e w4 ⟨rfl, hw⟩
  rw [hw, hx]
  clear hw hx
  obtain ⟨eb, heb⟩ : ∃ eb, endB op = eb := ⟨_, rfl⟩
  have HM2 := hid (HM.out.on B2.out)
  have k0 : ∀ wx, Below W.heap.size W wx → wx.cell? ⟨w.heap.size, 0, none⟩ = some (.slice M.ext.a M.ext.n M.ext.c) := fun wx h => (MC.out.on h).1
  have k1 : ∀ wx, Below W.heap.size W wx → wx.cell? ⟨w.heap.size, 1, none⟩ = some (.slice M.glo.a M.glo.n M.glo.c) := fun wx h => (MC.out.on h).2.1
  have k2 : ∀ wx, Below W.heap.size W wx → wx.cell? ⟨w.heap.size, 2, none⟩ = some (.slice M.tab.a M.tab.n M.tab.c) := fun wx h => (MC.out.on h).2.2.1
  have k3 : ∀ wx, Below W.heap.size W wx → wx.cell? ⟨w.heap.size, 3, none⟩ = some (.slice M.fns.a M.fns.n M.fns.c) := fun wx h => (MC.out.on h).2.2.2
  have st0 : Below W.heap.size W w2.drew := Below.drew B2.out
  go_wp2_with fail
  go_region_held3 (fun wx => Below W.heap.size W wx) (first | exact st0 | exact st1)
    (first
    | (go_at_call 15; refine (ends_any op _).mono ?_; rintro e w9 ⟨rfl, hw⟩; rw [hw, heb]; clear hw)
    | (go_at_call 14; refine (endsW_any op _).mono ?_; rintro e w8 ⟨rfl, hw⟩; rw [hw, heb]; clear hw)
    | (go_at_call 13; refine (name_any s _ HZ.out).mono ?_; rintro e w7 ⟨r7, rfl, hr7, hw⟩; obtain rfl : r7 = r6 := Bool.eq_iff_iff.2 (hr7.trans H6.out.symm); rw [hw]; clear hw hr7)
    | (go_at_call 12; refine (wname_any s _ (by have := HZ.out; omega)).mono ?_; rintro e w6 ⟨r6, rfl, hr6, hw⟩; have H6 := hid hr6; rw [hw]; clear hw hr6)
    | (go_at_call 11; refine (check_exact M _ (HM.out.on (by assumption)) HS.out).mono ?_; rintro e w5 ⟨r5, rfl, hr5, hb⟩; obtain rfl : r5 = r4 := by rw [hr5, H4.out]
       have st1 := View.more (by assumption) hb; clear hb hr5)
    | (go_at_call 10; refine (wcheck_any M _ (HM.out.on (by assumption)) HS.out HJ.out).mono ?_; rintro e w4 ⟨r4, rfl, hr4, hb⟩; have H4 := hid hr4; have st1 := View.more (by assumption) hb; clear hb hr4))
  go_wp2_with fail
  go_ret
  exact ⟨rfl, View.more LW.out (by assumption)⟩

end Go.Proofs.YtbmfimojhcdnbaaGreat.Wf
