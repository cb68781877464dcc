/-
  Which Ins may be, by the document: plnref3.form, part 3.
-/
import Derived.Test.YtolipafcoolpgaaGreatChkP
namespace Go.Proofs.YtolipafcoolpgaaGreat.Chk
open Go.RowKit View Rd Num Opn Copy Go.Proofs.YtolipafcoolpgaaGreat.Mod

set_option linter.unusedVariables false

set_option maxRecDepth 10000 in
set_option maxHeartbeats 4000000 in
theorem form_3 (v : IV) (w : World) (hop : v.op = 3) (h1 : 0 ≤ v.ty) (h2 : v.ty ≤ 4) : Calls Tryz.prog 105 #[v.val] w fun e w' => e = .returned (.bool (formB v)) ∧ Below w.heap.size w w' := by
 have d1 : decide (v.ty < 0) = false := by simp; omega
 have d2 : decide (4 < v.ty) = false := by simp; omega
 obtain ⟨B, hB⟩ : ∃ B, formB v = B := ⟨_, rfl⟩
 rw [hB]
 have HB := hid hB
 have H12 := hid (And.intro h1 h2)
 clear h1 h2 hB
 go_enter Tryz.func105, Tryz.ntmps105
 go_wp2_with fail
 refine (mark_any 3 _).mono ?_
 rintro e w' ⟨rfl, rfl⟩
 simp only [show mk 3 = ⟨0, 0, true, false⟩ from rfl]
 go_wp2
 all_goals go_ret
 all_goals refine ⟨?_, new (same w) _⟩
 all_goals rw [← HB.out]
 all_goals have q1 := H12.out.1
 all_goals have q2 := H12.out.2
 all_goals clear HB H12
 all_goals go_light
 all_goals (first | (simp_all [formB, swB, mk, endB]; done) | (simp_all [formB, swB, mk, endB]; omega) | (clear d1 d2; show Ending.returned (Value.bool _) = Ending.returned (Value.bool _); congr 2; rw [Bool.eq_iff_iff]; unfold formB swB; rw [hop]; simp [mk, endB] at *; omega))

set_option maxRecDepth 10000 in
set_option maxHeartbeats 4000000 in
theorem form_7 (v : IV) (w : World) (hop : v.op = 7) (h1 : 0 ≤ v.ty) (h2 : v.ty ≤ 4) : Calls Tryz.prog 105 #[v.val] w fun e w' => e = .returned (.bool (formB v)) ∧ Below w.heap.size w w' := by
 have d1 : decide (v.ty < 0) = false := by simp; omega
 have d2 : decide (4 < v.ty) = false := by simp; omega
 obtain ⟨B, hB⟩ : ∃ B, formB v = B := ⟨_, rfl⟩
 rw [hB]
 have HB := hid hB
 have H12 := hid (And.intro h1 h2)
 clear h1 h2 hB
 go_enter Tryz.func105, Tryz.ntmps105
 go_wp2_with fail
 refine (mark_any 7 _).mono ?_
 rintro e w' ⟨rfl, rfl⟩
 simp only [show mk 7 = ⟨2, 0, false, false⟩ from rfl]
 go_wp2
 all_goals go_ret
 all_goals refine ⟨?_, new (same w) _⟩
 all_goals rw [← HB.out]
 all_goals have q1 := H12.out.1
 all_goals have q2 := H12.out.2
 all_goals clear HB H12
 all_goals go_light
 all_goals (first | (simp_all [formB, swB, mk, endB]; done) | (simp_all [formB, swB, mk, endB]; omega) | (clear d1 d2; show Ending.returned (Value.bool _) = Ending.returned (Value.bool _); congr 2; rw [Bool.eq_iff_iff]; unfold formB swB; rw [hop]; simp [mk, endB] at *; omega))

set_option maxRecDepth 10000 in
set_option maxHeartbeats 4000000 in
theorem form_11 (v : IV) (w : World) (hop : v.op = 11) (h1 : 0 ≤ v.ty) (h2 : v.ty ≤ 4) : Calls Tryz.prog 105 #[v.val] w fun e w' => e = .returned (.bool (formB v)) ∧ Below w.heap.size w w' := by
 have d1 : decide (v.ty < 0) = false := by simp; omega
 have d2 : decide (4 < v.ty) = false := by simp; omega
 obtain ⟨B, hB⟩ : ∃ B, formB v = B := ⟨_, rfl⟩
 rw [hB]
 have HB := hid hB
 have H12 := hid (And.intro h1 h2)
 clear h1 h2 hB
 go_enter Tryz.func105, Tryz.ntmps105
 go_wp2_with fail
 refine (mark_any 11 _).mono ?_
 rintro e w' ⟨rfl, rfl⟩
 simp only [show mk 11 = ⟨2, 0, false, false⟩ from rfl]
 go_wp2
 all_goals go_ret
 all_goals refine ⟨?_, new (same w) _⟩
 all_goals rw [← HB.out]
 all_goals have q1 := H12.out.1
 all_goals have q2 := H12.out.2
 all_goals clear HB H12
 all_goals go_light
 all_goals (first | (simp_all [formB, swB, mk, endB]; done) | (simp_all [formB, swB, mk, endB]; omega) | (clear d1 d2; show Ending.returned (Value.bool _) = Ending.returned (Value.bool _); congr 2; rw [Bool.eq_iff_iff]; unfold formB swB; rw [hop]; simp [mk, endB] at *; omega))

set_option maxRecDepth 10000 in
set_option maxHeartbeats 4000000 in
theorem form_15 (v : IV) (w : World) (hop : v.op = 15) (h1 : 0 ≤ v.ty) (h2 : v.ty ≤ 4) : Calls Tryz.prog 105 #[v.val] w fun e w' => e = .returned (.bool (formB v)) ∧ Below w.heap.size w w' := by
 have d1 : decide (v.ty < 0) = false := by simp; omega
 have d2 : decide (4 < v.ty) = false := by simp; omega
 obtain ⟨B, hB⟩ : ∃ B, formB v = B := ⟨_, rfl⟩
 rw [hB]
 have HB := hid hB
 have H12 := hid (And.intro h1 h2)
 clear h1 h2 hB
 go_enter Tryz.func105, Tryz.ntmps105
 go_wp2_with fail
 refine (mark_any 15 _).mono ?_
 rintro e w' ⟨rfl, rfl⟩
 simp only [show mk 15 = ⟨2, 0, false, false⟩ from rfl]
 go_wp2
 all_goals go_ret
 all_goals refine ⟨?_, new (same w) _⟩
 all_goals rw [← HB.out]
 all_goals have q1 := H12.out.1
 all_goals have q2 := H12.out.2
 all_goals clear HB H12
 all_goals go_light
 all_goals (first | (simp_all [formB, swB, mk, endB]; done) | (simp_all [formB, swB, mk, endB]; omega) | (clear d1 d2; show Ending.returned (Value.bool _) = Ending.returned (Value.bool _); congr 2; rw [Bool.eq_iff_iff]; unfold formB swB; rw [hop]; simp [mk, endB] at *; omega))

set_option maxRecDepth 10000 in
set_option maxHeartbeats 4000000 in
theorem form_19 (v : IV) (w : World) (hop : v.op = 19) (h1 : 0 ≤ v.ty) (h2 : v.ty ≤ 4) : Calls Tryz.prog 105 #[v.val] w fun e w' => e = .returned (.bool (formB v)) ∧ Below w.heap.size w w' := by
 have d1 : decide (v.ty < 0) = false := by simp; omega
 have d2 : decide (4 < v.ty) = false := by simp; omega
 obtain ⟨B, hB⟩ : ∃ B, formB v = B := ⟨_, rfl⟩
 rw [hB]
 have HB := hid hB
 have H12 := hid (And.intro h1 h2)
 clear h1 h2 hB
 go_enter Tryz.func105, Tryz.ntmps105
 go_wp2_with fail
 refine (mark_any 19 _).mono ?_
 rintro e w' ⟨rfl, rfl⟩
 simp only [show mk 19 = ⟨2, 0, false, false⟩ from rfl]
 go_wp2
 all_goals go_ret
 all_goals refine ⟨?_, new (same w) _⟩
 all_goals rw [← HB.out]
 all_goals have q1 := H12.out.1
 all_goals have q2 := H12.out.2
 all_goals clear HB H12
 all_goals go_light
 all_goals (first | (simp_all [formB, swB, mk, endB]; done) | (simp_all [formB, swB, mk, endB]; omega) | (clear d1 d2; show Ending.returned (Value.bool _) = Ending.returned (Value.bool _); congr 2; rw [Bool.eq_iff_iff]; unfold formB swB; rw [hop]; simp [mk, endB] at *; omega))

set_option maxRecDepth 10000 in
set_option maxHeartbeats 4000000 in
theorem form_23 (v : IV) (w : World) (hop : v.op = 23) (h1 : 0 ≤ v.ty) (h2 : v.ty ≤ 4) : Calls Tryz.prog 105 #[v.val] w fun e w' => e = .returned (.bool (formB v)) ∧ Below w.heap.size w w' := by
 have d1 : decide (v.ty < 0) = false := by simp; omega
 have d2 : decide (4 < v.ty) = false := by simp; omega
 obtain ⟨B, hB⟩ : ∃ B, formB v = B := ⟨_, rfl⟩
 rw [hB]
 have HB := hid hB
 have H12 := hid (And.intro h1 h2)
 clear h1 h2 hB
 go_enter Tryz.func105, Tryz.ntmps105
 go_wp2_with fail
 refine (mark_any 23 _).mono ?_
 rintro e w' ⟨rfl, rfl⟩
 simp only [show mk 23 = ⟨-1, 0, true, false⟩ from rfl]
 go_wp2
 all_goals go_ret
 all_goals refine ⟨?_, new (same w) _⟩
 all_goals rw [← HB.out]
 all_goals have q1 := H12.out.1
 all_goals have q2 := H12.out.2
 all_goals clear HB H12
 all_goals go_light
 all_goals (first | (simp_all [formB, swB, mk, endB]; done) | (simp_all [formB, swB, mk, endB]; omega) | (clear d1 d2; show Ending.returned (Value.bool _) = Ending.returned (Value.bool _); congr 2; rw [Bool.eq_iff_iff]; unfold formB swB; rw [hop]; simp [mk, endB] at *; omega))

set_option maxRecDepth 10000 in
set_option maxHeartbeats 4000000 in
theorem form_27 (v : IV) (w : World) (hop : v.op = 27) (h1 : 0 ≤ v.ty) (h2 : v.ty ≤ 4) : Calls Tryz.prog 105 #[v.val] w fun e w' => e = .returned (.bool (formB v)) ∧ Below w.heap.size w w' := by
 have d1 : decide (v.ty < 0) = false := by simp; omega
 have d2 : decide (4 < v.ty) = false := by simp; omega
 obtain ⟨B, hB⟩ : ∃ B, formB v = B := ⟨_, rfl⟩
 rw [hB]
 have HB := hid hB
 have H12 := hid (And.intro h1 h2)
 clear h1 h2 hB
 go_enter Tryz.func105, Tryz.ntmps105
 go_wp2_with fail
 refine (mark_any 27 _).mono ?_
 rintro e w' ⟨rfl, rfl⟩
 simp only [show mk 27 = ⟨0, 1, false, false⟩ from rfl]
 go_wp2
 all_goals go_ret
 all_goals refine ⟨?_, new (same w) _⟩
 all_goals rw [← HB.out]
 all_goals have q1 := H12.out.1
 all_goals have q2 := H12.out.2
 all_goals clear HB H12
 all_goals go_light
 all_goals (first | (simp_all [formB, swB, mk, endB]; done) | (simp_all [formB, swB, mk, endB]; omega) | (clear d1 d2; show Ending.returned (Value.bool _) = Ending.returned (Value.bool _); congr 2; rw [Bool.eq_iff_iff]; unfold formB swB; rw [hop]; simp [mk, endB] at *; omega))

end Go.Proofs.YtolipafcoolpgaaGreat.Chk
