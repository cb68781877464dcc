/-
  Which modules may be, by the document: plnref3.Ends, Mark, form.
-/
import Derived.Test.YtolipafcoolpgaaGreatSmall
import Derived.Deep.CutRange
namespace Go.Proofs.YtolipafcoolpgaaGreat.Chk
open Go.RowKit View Rd Num Opn Copy Go.Proofs.YtolipafcoolpgaaGreat.Mod

set_option linter.unusedVariables false

def endB (op : Int) : Bool := decide (27 ≤ op) && decide (op ≤ 30)

theorem ends_any (op : Int) (w : World) : Calls Tryz.prog 107 #[.int .i64 op] w fun e w' => e = .returned (.bool (endB op)) ∧ w' = w := by
 by_cases h1 : 27 ≤ op
 ·have t1 : decide ((27 : Int) ≤ op) = true := by simpa using h1
  have E : endB op = decide (op ≤ 30) := by unfold endB; rw [t1]; simp
  have HE := hid E
  clear E
  go_enter Tryz.func107, Tryz.ntmps107
  go_wp2_with fail
  go_ret
  exact ⟨by rw [HE.out]; rfl, rfl⟩
 ·have t1 : decide ((27 : Int) ≤ op) = false := by simpa using h1
  have E : endB op = false := by unfold endB; rw [t1]; simp
  have HE := hid E
  clear E
  go_enter Tryz.func107, Tryz.ntmps107
  go_wp2_with fail
  go_ret
  exact ⟨by rw [HE.out]; rfl, rfl⟩

theorem results_tmp4 {fn : Func} {a b c d : Tmp} (h : fn.results = #[.tmp a, .tmp b, .tmp c, .tmp d]) (tmps : Array Value) (P : Program) (w : World) :
  (results fn tmps).run P w = .ok (.tuple #[tmps.getD a undef, tmps.getD b undef, tmps.getD c undef, tmps.getD d undef]) w := by
 simp only [results, h]
 simp

structure Mk where
 a : Int
 i : Int
 s : Bool
 n : Bool

def mk (op : Int) : Mk :=
 if op = 1 ∨ op = 18 then ⟨0, 0, false, true⟩
 else if op = 2 ∨ op = 3 then ⟨0, 0, true, false⟩
 else if op = 4 ∨ op = 5 ∨ op = 6 ∨ op = 7 ∨ op = 8 ∨ op = 9 ∨ op = 10 ∨ op = 11 ∨ op = 12 ∨ op = 13 ∨ op = 14 ∨ op = 15 ∨ op = 19 ∨ op = 21 then ⟨2, 0, false, false⟩
 else if op = 16 ∨ op = 20 then ⟨1, 0, false, false⟩
 else if op = 17 then ⟨3, 0, false, false⟩
 else if op = 22 ∨ op = 23 then ⟨-1, 0, true, false⟩
 else if op = 24 then ⟨1, 0, true, false⟩
 else if op = 25 ∨ op = 29 then ⟨-1, 0, false, false⟩
 else if op = 26 then ⟨-1, -1, false, false⟩
 else if op = 27 then ⟨0, 1, false, false⟩
 else if op = 28 then ⟨1, 2, false, false⟩
 else ⟨0, 0, false, false⟩

abbrev Mk.val (m : Mk) : Value := .tuple #[.int .i64 m.a, .int .i64 m.i, .bool m.s, .bool m.n]

set_option maxHeartbeats 2000000 in
theorem mark_any (op : Int) (w : World) : Calls Tryz.prog 154 #[.int .i64 op] w fun e w' => e = .returned (mk op).val ∧ w' = w := by
 obtain ⟨m, hm⟩ : ∃ m, mk op = m := ⟨_, rfl⟩
 rw [hm]
 have HM := hid hm
 clear hm
 go_enter Tryz.func154, Tryz.ntmps154
 go_wp2
 all_goals refine bodyPost_ret (v := m.val) (by rw [results_tmp4 rfl, ← HM.out]; simp_all [mk]) rfl ?_
 all_goals exact ⟨rfl, rfl⟩

end Go.Proofs.YtolipafcoolpgaaGreat.Chk
