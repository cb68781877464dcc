/-
  Which Ins may be, by the document: plnref3.form, part 1.
-/
import Derived.Test.YtolipafcoolpgaaGreatChkP
namespace Go.Proofs.YtolipafcoolpgaaGreat.Chk
open Go.RowKit View Rd Num Opn Copy Go.Proofs.YtolipafcoolpgaaGreat.Mod

set_option linter.unusedVariables false

set_option maxRecDepth 10000 in
set_option maxHeartbeats 4000000 in
theorem form_1 (v : IV) (w : World) (hop : v.op = 1) (h1 : 0 ≤ v.ty) (h2 : v.ty ≤ 4) : Calls Tryz.prog 105 #[v.val] w fun e w' => e = .returned (.bool (formB v)) ∧ Below w.heap.size w w' := by
 have d1 : decide (v.ty < 0) = false := by simp; omega
 have d2 : decide (4 < v.ty) = false := by simp; omega
 obtain ⟨B, hB⟩ : ∃ B, formB v = B := ⟨_, rfl⟩
 rw [hB]
 have HB := hid hB
 have H12 := hid (And.intro h1 h2)
 clear h1 h2 hB
 go_enter Tryz.func105, Tryz.ntmps105
 go_wp2_with fail
 refine (mark_any 1 _).mono ?_
 rintro e w' ⟨rfl, rfl⟩
 simp only [show mk 1 = ⟨0, 0, false, true⟩ from rfl]
 go_wp2
 all_goals go_ret
 all_goals refine ⟨?_, new (same w) _⟩
 all_goals rw [← HB.out]
 all_goals have q1 := H12.out.1
 all_goals have q2 := H12.out.2
 all_goals clear HB H12
 all_goals go_light
 all_goals (first | (simp_all [formB, swB, mk, endB]; done) | (simp_all [formB, swB, mk, endB]; omega) | (clear d1 d2; show Ending.returned (Value.bool _) = Ending.returned (Value.bool _); congr 2; rw [Bool.eq_iff_iff]; unfold formB swB; rw [hop]; simp [mk, endB] at *; omega))

set_option maxRecDepth 10000 in
set_option maxHeartbeats 4000000 in
theorem form_5 (v : IV) (w : World) (hop : v.op = 5) (h1 : 0 ≤ v.ty) (h2 : v.ty ≤ 4) : Calls Tryz.prog 105 #[v.val] w fun e w' => e = .returned (.bool (formB v)) ∧ Below w.heap.size w w' := by
 have d1 : decide (v.ty < 0) = false := by simp; omega
 have d2 : decide (4 < v.ty) = false := by simp; omega
 obtain ⟨B, hB⟩ : ∃ B, formB v = B := ⟨_, rfl⟩
 rw [hB]
 have HB := hid hB
 have H12 := hid (And.intro h1 h2)
 clear h1 h2 hB
 go_enter Tryz.func105, Tryz.ntmps105
 go_wp2_with fail
 refine (mark_any 5 _).mono ?_
 rintro e w' ⟨rfl, rfl⟩
 simp only [show mk 5 = ⟨2, 0, false, false⟩ from rfl]
 go_wp2
 all_goals go_ret
 all_goals refine ⟨?_, new (same w) _⟩
 all_goals rw [← HB.out]
 all_goals have q1 := H12.out.1
 all_goals have q2 := H12.out.2
 all_goals clear HB H12
 all_goals go_light
 all_goals (first | (simp_all [formB, swB, mk, endB]; done) | (simp_all [formB, swB, mk, endB]; omega) | (clear d1 d2; show Ending.returned (Value.bool _) = Ending.returned (Value.bool _); congr 2; rw [Bool.eq_iff_iff]; unfold formB swB; rw [hop]; simp [mk, endB] at *; omega))

set_option maxRecDepth 10000 in
set_option maxHeartbeats 4000000 in
theorem form_9 (v : IV) (w : World) (hop : v.op = 9) (h1 : 0 ≤ v.ty) (h2 : v.ty ≤ 4) : Calls Tryz.prog 105 #[v.val] w fun e w' => e = .returned (.bool (formB v)) ∧ Below w.heap.size w w' := by
 have d1 : decide (v.ty < 0) = false := by simp; omega
 have d2 : decide (4 < v.ty) = false := by simp; omega
 obtain ⟨B, hB⟩ : ∃ B, formB v = B := ⟨_, rfl⟩
 rw [hB]
 have HB := hid hB
 have H12 := hid (And.intro h1 h2)
 clear h1 h2 hB
 go_enter Tryz.func105, Tryz.ntmps105
 go_wp2_with fail
 refine (mark_any 9 _).mono ?_
 rintro e w' ⟨rfl, rfl⟩
 simp only [show mk 9 = ⟨2, 0, false, false⟩ from rfl]
 go_wp2
 all_goals go_ret
 all_goals refine ⟨?_, new (same w) _⟩
 all_goals rw [← HB.out]
 all_goals have q1 := H12.out.1
 all_goals have q2 := H12.out.2
 all_goals clear HB H12
 all_goals go_light
 all_goals (first | (simp_all [formB, swB, mk, endB]; done) | (simp_all [formB, swB, mk, endB]; omega) | (clear d1 d2; show Ending.returned (Value.bool _) = Ending.returned (Value.bool _); congr 2; rw [Bool.eq_iff_iff]; unfold formB swB; rw [hop]; simp [mk, endB] at *; omega))

set_option maxRecDepth 10000 in
set_option maxHeartbeats 4000000 in
theorem form_13 (v : IV) (w : World) (hop : v.op = 13) (h1 : 0 ≤ v.ty) (h2 : v.ty ≤ 4) : Calls Tryz.prog 105 #[v.val] w fun e w' => e = .returned (.bool (formB v)) ∧ Below w.heap.size w w' := by
 have d1 : decide (v.ty < 0) = false := by simp; omega
 have d2 : decide (4 < v.ty) = false := by simp; omega
 obtain ⟨B, hB⟩ : ∃ B, formB v = B := ⟨_, rfl⟩
 rw [hB]
 have HB := hid hB
 have H12 := hid (And.intro h1 h2)
 clear h1 h2 hB
 go_enter Tryz.func105, Tryz.ntmps105
 go_wp2_with fail
 refine (mark_any 13 _).mono ?_
 rintro e w' ⟨rfl, rfl⟩
 simp only [show mk 13 = ⟨2, 0, false, false⟩ from rfl]
 go_wp2
 all_goals go_ret
 all_goals refine ⟨?_, new (same w) _⟩
 all_goals rw [← HB.out]
 all_goals have q1 := H12.out.1
 all_goals have q2 := H12.out.2
 all_goals clear HB H12
 all_goals go_light
 all_goals (first | (simp_all [formB, swB, mk, endB]; done) | (simp_all [formB, swB, mk, endB]; omega) | (clear d1 d2; show Ending.returned (Value.bool _) = Ending.returned (Value.bool _); congr 2; rw [Bool.eq_iff_iff]; unfold formB swB; rw [hop]; simp [mk, endB] at *; omega))

set_option maxRecDepth 10000 in
set_option maxHeartbeats 4000000 in
theorem form_17 (v : IV) (w : World) (hop : v.op = 17) (h1 : 0 ≤ v.ty) (h2 : v.ty ≤ 4) : Calls Tryz.prog 105 #[v.val] w fun e w' => e = .returned (.bool (formB v)) ∧ Below w.heap.size w w' := by
 have d1 : decide (v.ty < 0) = false := by simp; omega
 have d2 : decide (4 < v.ty) = false := by simp; omega
 obtain ⟨B, hB⟩ : ∃ B, formB v = B := ⟨_, rfl⟩
 rw [hB]
 have HB := hid hB
 have H12 := hid (And.intro h1 h2)
 clear h1 h2 hB
 go_enter Tryz.func105, Tryz.ntmps105
 go_wp2_with fail
 refine (mark_any 17 _).mono ?_
 rintro e w' ⟨rfl, rfl⟩
 simp only [show mk 17 = ⟨3, 0, false, false⟩ from rfl]
 go_wp2
 all_goals go_ret
 all_goals refine ⟨?_, new (same w) _⟩
 all_goals rw [← HB.out]
 all_goals have q1 := H12.out.1
 all_goals have q2 := H12.out.2
 all_goals clear HB H12
 all_goals go_light
 all_goals (first | (simp_all [formB, swB, mk, endB]; done) | (simp_all [formB, swB, mk, endB]; omega) | (clear d1 d2; show Ending.returned (Value.bool _) = Ending.returned (Value.bool _); congr 2; rw [Bool.eq_iff_iff]; unfold formB swB; rw [hop]; simp [mk, endB] at *; omega))

set_option maxRecDepth 10000 in
set_option maxHeartbeats 4000000 in
theorem form_21 (v : IV) (w : World) (hop : v.op = 21) (h1 : 0 ≤ v.ty) (h2 : v.ty ≤ 4) : Calls Tryz.prog 105 #[v.val] w fun e w' => e = .returned (.bool (formB v)) ∧ Below w.heap.size w w' := by
 have d1 : decide (v.ty < 0) = false := by simp; omega
 have d2 : decide (4 < v.ty) = false := by simp; omega
 obtain ⟨B, hB⟩ : ∃ B, formB v = B := ⟨_, rfl⟩
 rw [hB]
 have HB := hid hB
 have H12 := hid (And.intro h1 h2)
 clear h1 h2 hB
 go_enter Tryz.func105, Tryz.ntmps105
 go_wp2_with fail
 refine (mark_any 21 _).mono ?_
 rintro e w' ⟨rfl, rfl⟩
 simp only [show mk 21 = ⟨2, 0, false, false⟩ from rfl]
 go_wp2
 all_goals go_ret
 all_goals refine ⟨?_, new (same w) _⟩
 all_goals rw [← HB.out]
 all_goals have q1 := H12.out.1
 all_goals have q2 := H12.out.2
 all_goals clear HB H12
 all_goals go_light
 all_goals (first | (simp_all [formB, swB, mk, endB]; done) | (simp_all [formB, swB, mk, endB]; omega) | (clear d1 d2; show Ending.returned (Value.bool _) = Ending.returned (Value.bool _); congr 2; rw [Bool.eq_iff_iff]; unfold formB swB; rw [hop]; simp [mk, endB] at *; omega))

set_option maxRecDepth 10000 in
set_option maxHeartbeats 4000000 in
theorem form_25 (v : IV) (w : World) (hop : v.op = 25) (h1 : 0 ≤ v.ty) (h2 : v.ty ≤ 4) : Calls Tryz.prog 105 #[v.val] w fun e w' => e = .returned (.bool (formB v)) ∧ Below w.heap.size w w' := by
 have d1 : decide (v.ty < 0) = false := by simp; omega
 have d2 : decide (4 < v.ty) = false := by simp; omega
 obtain ⟨B, hB⟩ : ∃ B, formB v = B := ⟨_, rfl⟩
 rw [hB]
 have HB := hid hB
 have H12 := hid (And.intro h1 h2)
 clear h1 h2 hB
 go_enter Tryz.func105, Tryz.ntmps105
 go_wp2_with fail
 refine (mark_any 25 _).mono ?_
 rintro e w' ⟨rfl, rfl⟩
 simp only [show mk 25 = ⟨-1, 0, false, false⟩ from rfl]
 go_wp2
 all_goals go_ret
 all_goals refine ⟨?_, new (same w) _⟩
 all_goals rw [← HB.out]
 all_goals have q1 := H12.out.1
 all_goals have q2 := H12.out.2
 all_goals clear HB H12
 all_goals go_light
 all_goals (first | (simp_all [formB, swB, mk, endB]; done) | (simp_all [formB, swB, mk, endB]; omega) | (clear d1 d2; show Ending.returned (Value.bool _) = Ending.returned (Value.bool _); congr 2; rw [Bool.eq_iff_iff]; unfold formB swB; rw [hop]; simp [mk, endB] at *; omega))

set_option maxRecDepth 10000 in
set_option maxHeartbeats 4000000 in
theorem form_29 (v : IV) (w : World) (hop : v.op = 29) (h1 : 0 ≤ v.ty) (h2 : v.ty ≤ 4) : Calls Tryz.prog 105 #[v.val] w fun e w' => e = .returned (.bool (formB v)) ∧ Below w.heap.size w w' := by
 have d1 : decide (v.ty < 0) = false := by simp; omega
 have d2 : decide (4 < v.ty) = false := by simp; omega
 obtain ⟨B, hB⟩ : ∃ B, formB v = B := ⟨_, rfl⟩
 rw [hB]
 have HB := hid hB
 have H12 := hid (And.intro h1 h2)
 clear h1 h2 hB
 go_enter Tryz.func105, Tryz.ntmps105
 go_wp2_with fail
 refine (mark_any 29 _).mono ?_
 rintro e w' ⟨rfl, rfl⟩
 simp only [show mk 29 = ⟨-1, 0, false, false⟩ from rfl]
 go_wp2
 all_goals go_ret
 all_goals refine ⟨?_, new (same w) _⟩
 all_goals rw [← HB.out]
 all_goals have q1 := H12.out.1
 all_goals have q2 := H12.out.2
 all_goals clear HB H12
 all_goals go_light
 all_goals (first | (simp_all [formB, swB, mk, endB]; done) | (simp_all [formB, swB, mk, endB]; omega) | (clear d1 d2; show Ending.returned (Value.bool _) = Ending.returned (Value.bool _); congr 2; rw [Bool.eq_iff_iff]; unfold formB swB; rw [hop]; simp [mk, endB] at *; omega))

end Go.Proofs.YtolipafcoolpgaaGreat.Chk
