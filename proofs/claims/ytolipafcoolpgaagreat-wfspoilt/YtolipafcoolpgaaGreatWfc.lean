/-
  wf's small tests: Ends, Mark, isInner, isNoType, isNoResult, mayGive, mustGive.
-/
import Derived.Test.YtolipafcoolpgaaGreatWfa
import Derived.Test.YtolipafcoolpgaaGreatChkP
namespace Go.Proofs.YtolipafcoolpgaaGreat.Wf
open Go.RowKit View Rd Num Opn Copy Ty Srt Go.Proofs.YtolipafcoolpgaaGreat.Mod Chk

set_option linter.unusedVariables false

set_option maxHeartbeats 2000000 in
theorem markW_any (op : Int) (w : World) : Calls Tryz.prog 196 #[.int .i64 op] w fun e w' => e = .returned (mk op).val ∧ w' = w := by
 obtain ⟨m, hm⟩ : ∃ m, mk op = m := ⟨_, rfl⟩
 rw [hm]
 have HM := hid hm
 clear hm
 go_enter Tryz.func196, Tryz.ntmps196
 go_wp2
 all_goals refine bodyPost_ret (v := m.val) (by rw [results_tmp4 rfl, ← HM.out]; simp_all [mk]) rfl ?_
 all_goals exact ⟨rfl, rfl⟩

theorem endsW_any (op : Int) (w : World) : Calls Tryz.prog 160 #[.int .i64 op] w fun e w' => e = .returned (.bool (endB op)) ∧ w' = w := by
 have E : endB op = decide (op = 27 ∨ op = 28 ∨ op = 29 ∨ op = 30) := by
  unfold endB
  by_cases h : op = 27 ∨ op = 28 ∨ op = 29 ∨ op = 30
  ·rw [decide_eq_true h]; simp; omega
  ·rw [decide_eq_false h]; simp; omega
 rw [E]
 clear E
 go_enter Tryz.func160, Tryz.ntmps160
 go_wp2
 all_goals go_ret
 all_goals exact ⟨by simp_all, rfl⟩

def innB (x : Int) : Bool := decide (x ≠ 1) && decide (x ≠ 2)
def noTB (x : Int) : Bool := decide (x < 1) || decide (4 < x)
def noRB (x : Int) : Bool := decide (x ≠ 0) && (noTB x || decide (x = 3))

theorem isInner_any (x : Int) (w : World) : Calls Tryz.prog 118 #[.int .i64 x] w fun e w' => e = .returned (.bool (innB x)) ∧ w' = w := by
 by_cases h : x = 1
 ·have t : (x != 1) = false := by simp [h]
  have E := hid (show innB x = false by simp [innB, h])
  clear h
  go_enter Tryz.func118, Tryz.ntmps118
  go_wp2_with fail
  go_ret
  exact ⟨by rw [E.out]; rfl, rfl⟩
 ·have t : (x != 1) = true := by simp [h]
  have E := hid (show innB x = (x != 2) by simp [innB, h, bne]; rfl)
  clear h
  go_enter Tryz.func118, Tryz.ntmps118
  go_wp2_with fail
  go_ret
  exact ⟨by rw [E.out]; rfl, rfl⟩

theorem isNoType_any (x : Int) (w : World) : Calls Tryz.prog 119 #[.int .i64 x] w fun e w' => e = .returned (.bool (noTB x)) ∧ w' = w := by
 by_cases h : x < 1
 ·have t : decide (x < 1) = true := by simpa using h
  have E := hid (show noTB x = true by simp [noTB, h])
  clear h
  go_enter Tryz.func119, Tryz.ntmps119
  go_wp2_with fail
  go_ret
  exact ⟨by rw [E.out]; rfl, rfl⟩
 ·have t : decide (x < 1) = false := by simpa using h
  have E := hid (show noTB x = decide (4 < x) by unfold noTB; rw [t]; rfl)
  clear h
  go_enter Tryz.func119, Tryz.ntmps119
  go_wp2_with fail
  go_ret
  exact ⟨by rw [E.out]; rfl, rfl⟩

theorem isNoResult_any (x : Int) (w : World) : Calls Tryz.prog 120 #[.int .i64 x] w fun e w' => e = .returned (.bool (noRB x)) ∧ w' = w := by
 by_cases h : x = 0
 ·have t : (x != 0) = false := by simp [h]
  have E := hid (show noRB x = false by simp [noRB, h])
  clear h
  go_enter Tryz.func120, Tryz.ntmps120
  go_wp2_with fail
  go_ret
  exact ⟨by rw [E.out]; rfl, rfl⟩
 ·have t : (x != 0) = true := by simp [h]
  have E := hid (show noRB x = (noTB x || decide (x = 3)) by simp [noRB, h])
  clear h
  go_enter Tryz.func120, Tryz.ntmps120
  go_wp2_with fail
  refine (isNoType_any x w).mono ?_
  rintro e w1 ⟨rfl, rfl⟩
  cases hq : noTB x with
  | true =>
   rw [hq] at E
   clear hq
   go_wp2_with fail
   go_ret
   exact ⟨by rw [E.out]; rfl, rfl⟩
  | false =>
   rw [hq] at E
   clear hq
   go_wp2_with fail
   go_ret
   exact ⟨by rw [E.out]; simp; rfl, rfl⟩

def mayB (op : Int) : Bool := decide (op ≠ 21) && !endB op
def mustB (op : Int) : Bool := mayB op && (decide (op ≠ 22) && (decide (op ≠ 23) && decide (op ≠ 25)))

theorem mayGive_any (op : Int) (w : World) : Calls Tryz.prog 198 #[.int .i64 op] w fun e w' => e = .returned (.bool (mayB op)) ∧ w' = w := by
 by_cases h : op = 21
 ·have t : (op != 21) = false := by simp [h]
  have E := hid (show mayB op = false by simp [mayB, h])
  clear h
  go_enter Tryz.func198, Tryz.ntmps198
  go_wp2_with fail
  go_ret
  exact ⟨by rw [E.out]; rfl, rfl⟩
 ·have t : (op != 21) = true := by simp [h]
  have E := hid (show mayB op = !endB op by simp [mayB, h])
  clear h
  go_enter Tryz.func198, Tryz.ntmps198
  go_wp2_with fail
  refine (endsW_any op w).mono ?_
  rintro e w1 ⟨rfl, rfl⟩
  go_wp2_with fail
  go_ret
  exact ⟨by rw [E.out]; rfl, rfl⟩

end Go.Proofs.YtolipafcoolpgaaGreat.Wf
