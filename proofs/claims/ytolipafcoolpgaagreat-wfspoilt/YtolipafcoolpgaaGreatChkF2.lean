/-
  Which Ins may be, by the document: plnref3.form, part 2.
-/
import Derived.Test.YtolipafcoolpgaaGreatChkP
namespace Go.Proofs.YtolipafcoolpgaaGreat.Chk
open Go.RowKit View Rd Num Opn Copy Go.Proofs.YtolipafcoolpgaaGreat.Mod

set_option linter.unusedVariables false

set_option maxRecDepth 10000 in
set_option maxHeartbeats 4000000 in
theorem form_2 (v : IV) (w : World) (hop : v.op = 2) (h1 : 0 ≤ v.ty) (h2 : v.ty ≤ 4) : Calls Tryz.prog 105 #[v.val] w fun e w' => e = .returned (.bool (formB v)) ∧ Below w.heap.size w w' := by
 have d1 : decide (v.ty < 0) = false := by simp; omega
 have d2 : decide (4 < v.ty) = false := by simp; omega
 obtain ⟨B, hB⟩ : ∃ B, formB v = B := ⟨_, rfl⟩
 rw [hB]
 have HB := hid hB
 have H12 := hid (And.intro h1 h2)
 clear h1 h2 hB
 go_enter Tryz.func105, Tryz.ntmps105
 go_wp2_with fail
 refine (mark_any 2 _).mono ?_
 rintro e w' ⟨rfl, rfl⟩
 simp only [show mk 2 = ⟨0, 0, true, false⟩ from rfl]
 go_wp2
 all_goals go_ret
 all_goals refine ⟨?_, new (same w) _⟩
 all_goals rw [← HB.out]
 all_goals have q1 := H12.out.1
 all_goals have q2 := H12.out.2
 all_goals clear HB H12
 all_goals go_light
 all_goals (first | (simp_all [formB, swB, mk, endB]; done) | (simp_all [formB, swB, mk, endB]; omega) | (clear d1 d2; show Ending.returned (Value.bool _) = Ending.returned (Value.bool _); congr 2; rw [Bool.eq_iff_iff]; unfold formB swB; rw [hop]; simp [mk, endB] at *; omega))

set_option maxRecDepth 10000 in
set_option maxHeartbeats 4000000 in
theorem form_6 (v : IV) (w : World) (hop : v.op = 6) (h1 : 0 ≤ v.ty) (h2 : v.ty ≤ 4) : Calls Tryz.prog 105 #[v.val] w fun e w' => e = .returned (.bool (formB v)) ∧ Below w.heap.size w w' := by
 have d1 : decide (v.ty < 0) = false := by simp; omega
 have d2 : decide (4 < v.ty) = false := by simp; omega
 obtain ⟨B, hB⟩ : ∃ B, formB v = B := ⟨_, rfl⟩
 rw [hB]
 have HB := hid hB
 have H12 := hid (And.intro h1 h2)
 clear h1 h2 hB
 go_enter Tryz.func105, Tryz.ntmps105
 go_wp2_with fail
 refine (mark_any 6 _).mono ?_
 rintro e w' ⟨rfl, rfl⟩
 simp only [show mk 6 = ⟨2, 0, false, false⟩ from rfl]
 go_wp2
 all_goals go_ret
 all_goals refine ⟨?_, new (same w) _⟩
 all_goals rw [← HB.out]
 all_goals have q1 := H12.out.1
 all_goals have q2 := H12.out.2
 all_goals clear HB H12
 all_goals go_light
 all_goals (first | (simp_all [formB, swB, mk, endB]; done) | (simp_all [formB, swB, mk, endB]; omega) | (clear d1 d2; show Ending.returned (Value.bool _) = Ending.returned (Value.bool _); congr 2; rw [Bool.eq_iff_iff]; unfold formB swB; rw [hop]; simp [mk, endB] at *; omega))

set_option maxRecDepth 10000 in
set_option maxHeartbeats 4000000 in
theorem form_10 (v : IV) (w : World) (hop : v.op = 10) (h1 : 0 ≤ v.ty) (h2 : v.ty ≤ 4) : Calls Tryz.prog 105 #[v.val] w fun e w' => e = .returned (.bool (formB v)) ∧ Below w.heap.size w w' := by
 have d1 : decide (v.ty < 0) = false := by simp; omega
 have d2 : decide (4 < v.ty) = false := by simp; omega
 obtain ⟨B, hB⟩ : ∃ B, formB v = B := ⟨_, rfl⟩
 rw [hB]
 have HB := hid hB
 have H12 := hid (And.intro h1 h2)
 clear h1 h2 hB
 go_enter Tryz.func105, Tryz.ntmps105
 go_wp2_with fail
 refine (mark_any 10 _).mono ?_
 rintro e w' ⟨rfl, rfl⟩
 simp only [show mk 10 = ⟨2, 0, false, false⟩ from rfl]
 go_wp2
 all_goals go_ret
 all_goals refine ⟨?_, new (same w) _⟩
 all_goals rw [← HB.out]
 all_goals have q1 := H12.out.1
 all_goals have q2 := H12.out.2
 all_goals clear HB H12
 all_goals go_light
 all_goals (first | (simp_all [formB, swB, mk, endB]; done) | (simp_all [formB, swB, mk, endB]; omega) | (clear d1 d2; show Ending.returned (Value.bool _) = Ending.returned (Value.bool _); congr 2; rw [Bool.eq_iff_iff]; unfold formB swB; rw [hop]; simp [mk, endB] at *; omega))

set_option maxRecDepth 10000 in
set_option maxHeartbeats 4000000 in
theorem form_14 (v : IV) (w : World) (hop : v.op = 14) (h1 : 0 ≤ v.ty) (h2 : v.ty ≤ 4) : Calls Tryz.prog 105 #[v.val] w fun e w' => e = .returned (.bool (formB v)) ∧ Below w.heap.size w w' := by
 have d1 : decide (v.ty < 0) = false := by simp; omega
 have d2 : decide (4 < v.ty) = false := by simp; omega
 obtain ⟨B, hB⟩ : ∃ B, formB v = B := ⟨_, rfl⟩
 rw [hB]
 have HB := hid hB
 have H12 := hid (And.intro h1 h2)
 clear h1 h2 hB
 go_enter Tryz.func105, Tryz.ntmps105
 go_wp2_with fail
 refine (mark_any 14 _).mono ?_
 rintro e w' ⟨rfl, rfl⟩
 simp only [show mk 14 = ⟨2, 0, false, false⟩ from rfl]
 go_wp2
 all_goals go_ret
 all_goals refine ⟨?_, new (same w) _⟩
 all_goals rw [← HB.out]
 all_goals have q1 := H12.out.1
 all_goals have q2 := H12.out.2
 all_goals clear HB H12
 all_goals go_light
 all_goals (first | (simp_all [formB, swB, mk, endB]; done) | (simp_all [formB, swB, mk, endB]; omega) | (clear d1 d2; show Ending.returned (Value.bool _) = Ending.returned (Value.bool _); congr 2; rw [Bool.eq_iff_iff]; unfold formB swB; rw [hop]; simp [mk, endB] at *; omega))

set_option maxRecDepth 10000 in
set_option maxHeartbeats 4000000 in
theorem form_18 (v : IV) (w : World) (hop : v.op = 18) (h1 : 0 ≤ v.ty) (h2 : v.ty ≤ 4) : Calls Tryz.prog 105 #[v.val] w fun e w' => e = .returned (.bool (formB v)) ∧ Below w.heap.size w w' := by
 have d1 : decide (v.ty < 0) = false := by simp; omega
 have d2 : decide (4 < v.ty) = false := by simp; omega
 obtain ⟨B, hB⟩ : ∃ B, formB v = B := ⟨_, rfl⟩
 rw [hB]
 have HB := hid hB
 have H12 := hid (And.intro h1 h2)
 clear h1 h2 hB
 go_enter Tryz.func105, Tryz.ntmps105
 go_wp2_with fail
 refine (mark_any 18 _).mono ?_
 rintro e w' ⟨rfl, rfl⟩
 simp only [show mk 18 = ⟨0, 0, false, true⟩ from rfl]
 go_wp2
 all_goals go_ret
 all_goals refine ⟨?_, new (same w) _⟩
 all_goals rw [← HB.out]
 all_goals have q1 := H12.out.1
 all_goals have q2 := H12.out.2
 all_goals clear HB H12
 all_goals go_light
 all_goals (first | (simp_all [formB, swB, mk, endB]; done) | (simp_all [formB, swB, mk, endB]; omega) | (clear d1 d2; show Ending.returned (Value.bool _) = Ending.returned (Value.bool _); congr 2; rw [Bool.eq_iff_iff]; unfold formB swB; rw [hop]; simp [mk, endB] at *; omega))

set_option maxRecDepth 10000 in
set_option maxHeartbeats 4000000 in
theorem form_22 (v : IV) (w : World) (hop : v.op = 22) (h1 : 0 ≤ v.ty) (h2 : v.ty ≤ 4) : Calls Tryz.prog 105 #[v.val] w fun e w' => e = .returned (.bool (formB v)) ∧ Below w.heap.size w w' := by
 have d1 : decide (v.ty < 0) = false := by simp; omega
 have d2 : decide (4 < v.ty) = false := by simp; omega
 obtain ⟨B, hB⟩ : ∃ B, formB v = B := ⟨_, rfl⟩
 rw [hB]
 have HB := hid hB
 have H12 := hid (And.intro h1 h2)
 clear h1 h2 hB
 go_enter Tryz.func105, Tryz.ntmps105
 go_wp2_with fail
 refine (mark_any 22 _).mono ?_
 rintro e w' ⟨rfl, rfl⟩
 simp only [show mk 22 = ⟨-1, 0, true, false⟩ from rfl]
 go_wp2
 all_goals go_ret
 all_goals refine ⟨?_, new (same w) _⟩
 all_goals rw [← HB.out]
 all_goals have q1 := H12.out.1
 all_goals have q2 := H12.out.2
 all_goals clear HB H12
 all_goals go_light
 all_goals (first | (simp_all [formB, swB, mk, endB]; done) | (simp_all [formB, swB, mk, endB]; omega) | (clear d1 d2; show Ending.returned (Value.bool _) = Ending.returned (Value.bool _); congr 2; rw [Bool.eq_iff_iff]; unfold formB swB; rw [hop]; simp [mk, endB] at *; omega))

set_option maxRecDepth 10000 in
set_option maxHeartbeats 4000000 in
theorem form_26 (v : IV) (w : World) (hop : v.op = 26) (h1 : 0 ≤ v.ty) (h2 : v.ty ≤ 4) : Calls Tryz.prog 105 #[v.val] w fun e w' => e = .returned (.bool (formB v)) ∧ Below w.heap.size w w' := by
 have d1 : decide (v.ty < 0) = false := by simp; omega
 have d2 : decide (4 < v.ty) = false := by simp; omega
 obtain ⟨B, hB⟩ : ∃ B, formB v = B := ⟨_, rfl⟩
 rw [hB]
 have HB := hid hB
 have H12 := hid (And.intro h1 h2)
 clear h1 h2 hB
 go_enter Tryz.func105, Tryz.ntmps105
 go_wp2_with fail
 refine (mark_any 26 _).mono ?_
 rintro e w' ⟨rfl, rfl⟩
 simp only [show mk 26 = ⟨-1, -1, false, false⟩ from rfl]
 go_wp2
 all_goals go_ret
 all_goals refine ⟨?_, new (same w) _⟩
 all_goals rw [← HB.out]
 all_goals have q1 := H12.out.1
 all_goals have q2 := H12.out.2
 all_goals clear HB H12
 all_goals go_light
 all_goals (first | (simp_all [formB, swB, mk, endB]; done) | (simp_all [formB, swB, mk, endB]; omega) | (clear d1 d2; show Ending.returned (Value.bool _) = Ending.returned (Value.bool _); congr 2; rw [Bool.eq_iff_iff]; unfold formB swB; rw [hop]; simp [mk, endB] at *; omega))

set_option maxRecDepth 10000 in
set_option maxHeartbeats 4000000 in
theorem form_30 (v : IV) (w : World) (hop : v.op = 30) (h1 : 0 ≤ v.ty) (h2 : v.ty ≤ 4) : Calls Tryz.prog 105 #[v.val] w fun e w' => e = .returned (.bool (formB v)) ∧ Below w.heap.size w w' := by
 have d1 : decide (v.ty < 0) = false := by simp; omega
 have d2 : decide (4 < v.ty) = false := by simp; omega
 obtain ⟨B, hB⟩ : ∃ B, formB v = B := ⟨_, rfl⟩
 rw [hB]
 have HB := hid hB
 have H12 := hid (And.intro h1 h2)
 clear h1 h2 hB
 go_enter Tryz.func105, Tryz.ntmps105
 go_wp2_with fail
 refine (mark_any 30 _).mono ?_
 rintro e w' ⟨rfl, rfl⟩
 simp only [show mk 30 = ⟨0, 0, false, false⟩ from rfl]
 go_wp2
 all_goals go_ret
 all_goals refine ⟨?_, new (same w) _⟩
 all_goals rw [← HB.out]
 all_goals have q1 := H12.out.1
 all_goals have q2 := H12.out.2
 all_goals clear HB H12
 all_goals go_light
 all_goals (first | (simp_all [formB, swB, mk, endB]; done) | (simp_all [formB, swB, mk, endB]; omega) | (clear d1 d2; show Ending.returned (Value.bool _) = Ending.returned (Value.bool _); congr 2; rw [Bool.eq_iff_iff]; unfold formB swB; rw [hop]; simp [mk, endB] at *; omega))

end Go.Proofs.YtolipafcoolpgaaGreat.Chk
