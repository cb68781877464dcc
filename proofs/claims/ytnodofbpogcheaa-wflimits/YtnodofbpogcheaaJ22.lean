/-
  Wgb, Wlg: laid together.
-/
import Derived.Test.YtnodofbpogcheaaJ9
import Derived.Test.YtnodofbpogcheaaJ21
import Derived.Test.YtnodofbpogcheaaJ20
import Derived.Test.YtnodofbpogcheaaJ11
import Derived.Test.YtnodofbpogcheaaWlb1
import Derived.Test.YtnodofbpogcheaaWlb2
import Derived.Test.YtnodofbpogcheaaJ12
import Derived.Test.YtnodofbpogcheaaWlb4
import Derived.Test.YtnodofbpogcheaaWlb5
/-
  wf: chapter 6's examples: plnlaw6.first answers true.
-/
namespace Go.Proofs.Ytnodofbpogcheaa.Wf
open Go.RowKit View Rd Num Opn Copy Srt Go.Proofs.Ytnodofbpogcheaa.Mod Go.Proofs.Ytnodofbpogcheaa.Chk Go.Proofs.Ytnodofbpogcheaa.Flo

set_option linter.unusedVariables false

abbrev jF (N : Nat) : FV := oneF (N + 1 + 1) (N + 1) (jumpI N) (fun _ => 0)
abbrev rF (N : Nat) : FV := oneF (N + 1 + 1 + 1 + 1 + 1 + 1) (N + 1 + 1 + 1 + 1 + 1) retI (fun _ => 0)
abbrev jM (N : Nat) : MV := oneM (N + 1 + 1 + 1) (jF N)
abbrev rM (N : Nat) : MV := oneM (N + 1 + 1 + 1 + 1 + 1 + 1 + 1) (rF N)

abbrev wJ (w : World) : World := ((((w.alloc (.cells #[.int .i64 0] 3)).alloc (.cells (jumpI w.heap.size).cells 39)).alloc (.cells #[.slice (some ⟨w.heap.size + 1, 0, none⟩) 1 1] 37)).alloc (.cells (fcells (jF w.heap.size)) 33)).alloc (.cells (mcells (jM w.heap.size)) 27)
abbrev wR (w : World) : World := ((((wJ w).alloc (.cells retI.cells 39)).alloc (.cells #[.slice (some ⟨w.heap.size + 1 + 1 + 1 + 1 + 1, 0, none⟩) 1 1] 37)).alloc (.cells (fcells (rF w.heap.size)) 33)).alloc (.cells (mcells (rM w.heap.size)) 27)

theorem in_J (w : World) : InM (wR w) (jM w.heap.size) := by
  refine InM.on (new (new (new (new (new (same _) _) _) _) _) _) (inM_one (lit_fn _ (jF w.heap.size) _ (by simp)) (in_one ?_ ?_ (litN _ _) ?_))
  · exact (lit_blk _ ⟨some ⟨w.heap.size + 1, 0, none⟩, 1, 1⟩ _ (by simp)).on (new (same _) _)
  · exact (lit_ins _ (jumpI w.heap.size) _ (by simp)).on (new (new (same _) _) _)
  · exact (lit1 w 0 (fun _ => 0) rfl _ rfl).on (new (new (new (same _) _) _) _)

theorem in_R (w : World) : InM (wR w) (rM w.heap.size) := by
  refine InM.on (new (same _) _) (inM_one (lit_fn _ (rF w.heap.size) _ (by simp)) (in_one ?_ ?_ (litN _ _) (litN _ _)))
  · exact (lit_blk _ ⟨some ⟨w.heap.size + 1 + 1 + 1 + 1 + 1, 0, none⟩, 1, 1⟩ _ (by simp)).on (new (same _) _)
  · exact (lit_ins _ retI _ (by simp)).on (new (new (same _) _) _)

/-- A module's box. -/
def MCell (M : MV) (w : World) (b : Nat) : Prop := w.cell? ⟨b, 0, none⟩ = some (.slice M.ext.a M.ext.n M.ext.c) ∧ w.cell? ⟨b, 1, none⟩ = some (.slice M.glo.a M.glo.n M.glo.c) ∧ w.cell? ⟨b, 2, none⟩ = some (.slice M.tab.a M.tab.n M.tab.c) ∧ w.cell? ⟨b, 3, none⟩ = some (.slice M.fns.a M.fns.n M.fns.c)

theorem mcell_alloc (M : MV) (w : World) (N : Nat) (hN : w.heap.size = N) : MCell M (w.alloc (.cells (mcells M) 27)) N := by
  subst hN
  exact ⟨by simp, by simp, by simp, by simp⟩

theorem MCell.on {M : MV} {w w' : World} {b : Nat} (hb : Below w.heap.size w w') (h : MCell M w b) : MCell M w' b := ⟨cell_on hb h.1, cell_on hb h.2.1, cell_on hb h.2.2.1, cell_on hb h.2.2.2⟩

theorem name_a1 : NameOk ⟨#[97, 49]⟩ := by
  refine ⟨by decide, by decide, by decide +kernel, by decide +kernel, fun i hi => ?_⟩
  have hi' : i < 2 := hi
  have : i = 0 ∨ i = 1 := by omega
  rcases this with rfl | rfl <;> decide +kernel

theorem chk_J (N : Nat) (w : World) (h : InM w (jM N)) : Calls Try.prog 15 #[.agg #[.slice none 0 0, .slice none 0 0, .slice none 0 0, .slice (some ⟨N + 1 + 1 + 1, 0, none⟩) 1 1]] w fun e w' => e = .returned (.int .i64 5) ∧ Below w.heap.size w w' := by
  have hs : SmallM (jM N) := small_one (N + 1 + 1 + 1) (N + 1 + 1) (N + 1) (jumpI N) (fun _ => 0) (Nat.zero_le _) (show 1 ≤ 20 by omega)
  have hj : ∀ i, i < (jM N).fns.n → Jng ((jM N).F i) := jng_one
  have he : errM (jM N) = 5 := err_jump _ _ _ _
  refine Calls.mono (wcheck_any (jM N) w h hs hj) ?_
  rintro e w1 ⟨r, rfl, hr, hb⟩
  exact ⟨by rw [hr, he], hb⟩

theorem chk_R (N : Nat) (w : World) (h : InM w (rM N)) : Calls Try.prog 15 #[.agg #[.slice none 0 0, .slice none 0 0, .slice none 0 0, .slice (some ⟨N + 1 + 1 + 1 + 1 + 1 + 1 + 1, 0, none⟩) 1 1]] w fun e w' => e = .returned (.int .i64 0) ∧ Below w.heap.size w w' := by
  have hs : SmallM (rM N) := small_one _ (N + 1 + 1 + 1 + 1 + 1 + 1) (N + 1 + 1 + 1 + 1 + 1) retI (fun _ => 0) (Nat.zero_le _) (Nat.zero_le _)
  have hj : ∀ i, i < (rM N).fns.n → Jng ((rM N).F i) := jng_one
  have he : errM (rM N) = 0 := err_ok (fit_ret _ _ _ _)
  refine Calls.mono (wcheck_any (rM N) w h hs hj) ?_
  rintro e w1 ⟨r, rfl, hr, hb⟩
  exact ⟨by rw [hr, he], hb⟩

theorem chk_no (w : World) : Calls Try.prog 15 #[.agg #[.slice none 0 0, .slice none 0 0, .slice none 0 0, .slice none 0 0]] w fun e w' => e = .returned (.int .i64 0) ∧ Below w.heap.size w w' := by
  have he : errM noM = 0 := err_ok fit_no
  refine Calls.mono (wcheck_any noM w inM_no small_no (fun i hi => absurd (show i < 0 from hi) (by omega))) ?_
  rintro e w1 ⟨r, rfl, hr, hb⟩
  exact ⟨by rw [hr, he], hb⟩

set_option maxRecDepth 10000 in
set_option maxHeartbeats 1000000 in
theorem first_any (w : World) : Calls Try.prog 13 #[] w fun e w' => e = .returned (.bool true) ∧ Below w.heap.size w w' := by
  have IJ0 := in_J w
  have IR0 := in_R w
  have CJ0 : MCell (jM w.heap.size) (wR w) (w.heap.size + 1 + 1 + 1 + 1) := (mcell_alloc _ _ _ (by simp)).on (new (new (new (new (same _) _) _) _) _)
  have CR0 : MCell (rM w.heap.size) (wR w) (w.heap.size + 1 + 1 + 1 + 1 + 1 + 1 + 1 + 1) := mcell_alloc _ _ _ (by simp)
  have LW0 : Below w.heap.size w (wR w) := new (new (new (new (new (new (new (new (new (same w) _) _) _) _) _) _) _) _) _
  obtain ⟨W, hW⟩ : ∃ W, wR w = W := ⟨_, rfl⟩
  rw [hW] at IJ0 IR0 CJ0 CR0 LW0
  have IJ := hid IJ0
  have IR := hid IR0
  have CJ := hid CJ0
  have CR := hid CR0
  have LW := hid LW0
  clear IJ0 IR0 CJ0 CR0 LW0
  simp only [wR, wJ, jM, jF, rM, rF, oneM, oneF, jumpI, retI] at hW
  go_enter Try.func13, Try.ntmps13
  go_wp2_with first
    | (go_at_call 40; have hq := st3; refine (wname_any ⟨#[97, 49]⟩ _ (by decide)).mono ?_; rintro e w4 ⟨r, rfl, hr, hw⟩; have hr' := hr.2 name_a1; subst hr'; have st4 : Below W.heap.size W w4 := by rw [hw]; exact hq
       clear hr hw st3)
    | (go_at_call 15; have hq := st2; refine (chk_R w.heap.size _ (IR.out.on hq)).mono ?_; rintro e w3 ⟨rfl, hb⟩; have st3 := View.more hq hb; clear hb st2)
    | (go_at_call 15; have hq := st1; refine (chk_J w.heap.size _ (IJ.out.on hq)).mono ?_; rintro e w2 ⟨rfl, hb⟩; have st2 := View.more hq hb; obtain ⟨l0, l1, l2, l3⟩ := CR.out.on st2; clear hb st1)
    | (go_at_call 15; refine (chk_no W).mono ?_; rintro e w1 ⟨rfl, hb⟩; have st1 : Below W.heap.size W w1 := hb; obtain ⟨k0, k1, k2, k3⟩ := CJ.out.on st1; clear hb)
  go_ret
  exact ⟨rfl, View.more LW.out st4⟩

end Go.Proofs.Ytnodofbpogcheaa.Wf

/-
  WfLimits, walked.
-/
namespace Go.Proofs.Ytnodofbpogcheaa.Wf
open Go.RowKit View Rd Num Copy Go.Proofs.Ytnodofbpogcheaa.Mod Go.Proofs.Ytnodofbpogcheaa.Chk Go.Proofs.Ytnodofbpogcheaa.Flo

theorem red8 (a : Int) {n : Nat} (hn : 0 < n) : ∃ x : Nat, x < n ∧ ∃ a0 : Nat, bits .and .i64 a 255 = (a0 : Int) ∧ (a0 : Int).tmod (n : Int) = (x : Int) := by
  refine ⟨(a % 256).toNat % n, Nat.mod_lt _ hn, (a % 256).toNat, ?_, ?_⟩
  · rw [Low.low8]; omega
  · rw [Int.tmod_eq_emod_of_nonneg (by omega)]
    omega

theorem wfLimits_any (which : Int) (over : Bool) (w : World) : Calls Try.prog 4 #[.int .i64 which, .bool over] w fun e w' => e = .returned (.bool true) ∧ Below w.heap.size w w' := by
  have hck : ChkC := fun M w h hs hj => wcheck_any M w h hs hj
  have hfi := first_any
  obtain ⟨x, hx, a0, h1, h2⟩ := red8 which (show 0 < 6 by decide)
  have hx' : x = 0 ∨ x = 1 ∨ x = 2 ∨ x = 3 ∨ x = 4 ∨ x = 5 := by omega
  rcases hx' with rfl | rfl | rfl | rfl | rfl | rfl <;> cases over
  · exact lim0_false which w hck hfi a0 h1 h2
  · exact lim0_true which w hck hfi a0 h1 h2
  · exact lim1_false which w hck hfi a0 h1 h2
  · exact lim1_true which w hck hfi a0 h1 h2
  · exact lim2_false which w hck hfi a0 h1 h2
  · exact lim2_true which w hck hfi a0 h1 h2
  · exact lim3_false which w hck hfi a0 h1 h2
  · exact lim3_true which w hck hfi a0 h1 h2
  · exact lim4_false which w hck hfi a0 h1 h2
  · exact lim4_true which w hck hfi a0 h1 h2
  · exact lim5_false which w hck hfi a0 h1 h2
  · exact lim5_true which w hck hfi a0 h1 h2

end Go.Proofs.Ytnodofbpogcheaa.Wf
