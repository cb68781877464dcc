/-
  What each operator of num.Do gives, as contracts of the translated code, one for each operator (and for Div and Rem one for a divisor of 0), that num.first answers true, and what Is and Turns answer; no condition but those named in each.
-/
import Derived.Test.YtajccmlijbggoaaRows
import Derived.WalkKit
import Derived.ProofKit
import Derived.OpenShut
namespace Go.Proofs.Ytajccmlijbggoaa.Base
open Go.ChangeShapes Go.WideShapes Go.ChangeAt Go.RowKit

theorem do_add (a b : Int) (w : World) :
    Calls Try.prog 10 #[.int .i64 4, .int .i64 a, .int .i64 b] w fun e w' => e = .returned (.tuple #[.int .i64 (wrap64 (a + b)), .int .i64 0]) ∧ w' = w := by
  go_enter Try.func10, Try.ntmps10
  go_wp2
  go_ret2
  exact ⟨rfl, rfl⟩

theorem do_sub (a b : Int) (w : World) :
    Calls Try.prog 10 #[.int .i64 5, .int .i64 a, .int .i64 b] w fun e w' => e = .returned (.tuple #[.int .i64 (wrap64 (a - b)), .int .i64 0]) ∧ w' = w := by
  go_enter Try.func10, Try.ntmps10
  go_wp2
  go_ret2
  exact ⟨rfl, rfl⟩

theorem do_mul (a b : Int) (w : World) :
    Calls Try.prog 10 #[.int .i64 6, .int .i64 a, .int .i64 b] w fun e w' => e = .returned (.tuple #[.int .i64 (wrap64 (a * b)), .int .i64 0]) ∧ w' = w := by
  go_enter Try.func10, Try.ntmps10
  go_wp2
  go_ret2
  exact ⟨rfl, rfl⟩

theorem do_div (a b : Int) (h : ¬ b = 0) (w : World) :
    Calls Try.prog 10 #[.int .i64 7, .int .i64 a, .int .i64 b] w fun e w' => e = .returned (.tuple #[.int .i64 (wrap64 (a.tdiv b)), .int .i64 0]) ∧ w' = w := by
  go_enter Try.func10, Try.ntmps10
  go_wp2
  go_ret2
  exact ⟨rfl, rfl⟩

theorem do_div0 (a b : Int) (h : b = 0) (w : World) :
    Calls Try.prog 10 #[.int .i64 7, .int .i64 a, .int .i64 b] w fun e w' => e = .returned (.tuple #[.int .i64 (0), .int .i64 1]) ∧ w' = w := by
  go_enter Try.func10, Try.ntmps10
  go_wp2
  go_ret2
  exact ⟨rfl, rfl⟩

theorem do_rem (a b : Int) (h : ¬ b = 0) (w : World) :
    Calls Try.prog 10 #[.int .i64 8, .int .i64 a, .int .i64 b] w fun e w' => e = .returned (.tuple #[.int .i64 (a.tmod b), .int .i64 0]) ∧ w' = w := by
  go_enter Try.func10, Try.ntmps10
  go_wp2
  go_ret2
  exact ⟨rfl, rfl⟩

theorem do_rem0 (a b : Int) (h : b = 0) (w : World) :
    Calls Try.prog 10 #[.int .i64 8, .int .i64 a, .int .i64 b] w fun e w' => e = .returned (.tuple #[.int .i64 (0), .int .i64 1]) ∧ w' = w := by
  go_enter Try.func10, Try.ntmps10
  go_wp2
  go_ret2
  exact ⟨rfl, rfl⟩

theorem do_and (a b : Int) (w : World) :
    Calls Try.prog 10 #[.int .i64 9, .int .i64 a, .int .i64 b] w fun e w' => e = .returned (.tuple #[.int .i64 (bits .and .i64 a b), .int .i64 0]) ∧ w' = w := by
  go_enter Try.func10, Try.ntmps10
  go_wp2
  go_ret2
  exact ⟨rfl, rfl⟩

theorem do_or (a b : Int) (w : World) :
    Calls Try.prog 10 #[.int .i64 10, .int .i64 a, .int .i64 b] w fun e w' => e = .returned (.tuple #[.int .i64 (bits .or .i64 a b), .int .i64 0]) ∧ w' = w := by
  go_enter Try.func10, Try.ntmps10
  go_wp2
  go_ret2
  exact ⟨rfl, rfl⟩

theorem do_xor (a b : Int) (w : World) :
    Calls Try.prog 10 #[.int .i64 11, .int .i64 a, .int .i64 b] w fun e w' => e = .returned (.tuple #[.int .i64 (bits .xor .i64 a b), .int .i64 0]) ∧ w' = w := by
  go_enter Try.func10, Try.ntmps10
  go_wp2
  go_ret2
  exact ⟨rfl, rfl⟩

theorem do_shl (a b : Int) (w : World) :
    Calls Try.prog 10 #[.int .i64 12, .int .i64 a, .int .i64 b] w fun e w' => e = .returned (.tuple #[.int .i64 (wrap64 (a * 2 ^ min (IntKind.u64.wrap (bits .and .i64 b 63)).toNat 64)), .int .i64 0]) ∧ w' = w := by
  go_enter Try.func10, Try.ntmps10
  go_wp2
  go_ret2
  exact ⟨rfl, rfl⟩

theorem do_shr (a b : Int) (w : World) :
    Calls Try.prog 10 #[.int .i64 13, .int .i64 a, .int .i64 b] w fun e w' => e = .returned (.tuple #[.int .i64 (a / 2 ^ min (IntKind.u64.wrap (bits .and .i64 b 63)).toNat 64), .int .i64 0]) ∧ w' = w := by
  go_enter Try.func10, Try.ntmps10
  go_wp2
  go_ret2
  exact ⟨rfl, rfl⟩

theorem do_eq1 (a b : Int) (h : a = b) (w : World) :
    Calls Try.prog 10 #[.int .i64 14, .int .i64 a, .int .i64 b] w fun e w' => e = .returned (.tuple #[.int .i64 (1), .int .i64 0]) ∧ w' = w := by
  go_enter Try.func10, Try.ntmps10
  go_wp2
  go_ret2
  exact ⟨rfl, rfl⟩

theorem do_eq0 (a b : Int) (h : ¬ a = b) (w : World) :
    Calls Try.prog 10 #[.int .i64 14, .int .i64 a, .int .i64 b] w fun e w' => e = .returned (.tuple #[.int .i64 (0), .int .i64 0]) ∧ w' = w := by
  go_enter Try.func10, Try.ntmps10
  go_wp2
  go_ret2
  exact ⟨rfl, rfl⟩

theorem do_lt1 (a b : Int) (h : a < b) (w : World) :
    Calls Try.prog 10 #[.int .i64 15, .int .i64 a, .int .i64 b] w fun e w' => e = .returned (.tuple #[.int .i64 (1), .int .i64 0]) ∧ w' = w := by
  go_enter Try.func10, Try.ntmps10
  go_wp2
  go_ret2
  exact ⟨rfl, rfl⟩

theorem do_lt0 (a b : Int) (h : ¬ a < b) (w : World) :
    Calls Try.prog 10 #[.int .i64 15, .int .i64 a, .int .i64 b] w fun e w' => e = .returned (.tuple #[.int .i64 (0), .int .i64 0]) ∧ w' = w := by
  go_enter Try.func10, Try.ntmps10
  go_wp2
  go_ret2
  exact ⟨rfl, rfl⟩

theorem do_not1 (a b : Int) (h : a = 0) (w : World) :
    Calls Try.prog 10 #[.int .i64 16, .int .i64 a, .int .i64 b] w fun e w' => e = .returned (.tuple #[.int .i64 (1), .int .i64 0]) ∧ w' = w := by
  go_enter Try.func10, Try.ntmps10
  go_wp2
  go_ret2
  exact ⟨rfl, rfl⟩

theorem do_not0 (a b : Int) (h : ¬ a = 0) (w : World) :
    Calls Try.prog 10 #[.int .i64 16, .int .i64 a, .int .i64 b] w fun e w' => e = .returned (.tuple #[.int .i64 (0), .int .i64 0]) ∧ w' = w := by
  go_enter Try.func10, Try.ntmps10
  go_wp2
  go_ret2
  exact ⟨rfl, rfl⟩

theorem first_true (w : World) :
    Calls Try.prog 9 #[] w fun e w' => e = .returned (.bool true) ∧ w' = w := by
  go_enter Try.func9, Try.ntmps9
  go_wp2
  go_ret
  exact ⟨rfl, rfl⟩

/-- What num.Do gives at whatever op: the number. -/
def doV (op a b : Int) : Int :=
  if op = 4 then wrap64 (a + b)
  else if op = 5 then wrap64 (a - b)
  else if op = 6 then wrap64 (a * b)
  else if op = 7 then (if b = 0 then 0 else wrap64 (a.tdiv b))
  else if op = 8 then (if b = 0 then 0 else a.tmod b)
  else if op = 9 then bits .and .i64 a b
  else if op = 10 then bits .or .i64 a b
  else if op = 11 then bits .xor .i64 a b
  else if op = 12 then wrap64 (a * 2 ^ min (IntKind.u64.wrap (bits .and .i64 b 63)).toNat 64)
  else if op = 13 then a / 2 ^ min (IntKind.u64.wrap (bits .and .i64 b 63)).toNat 64
  else if op = 14 then (if a = b then 1 else 0)
  else if op = 15 then (if a < b then 1 else 0)
  else if op = 16 then (if a = 0 then 1 else 0)
  else 0

/-- What num.Do gives at whatever op: the trap. -/
def doT (op b : Int) : Int := if (op = 7 ∨ op = 8) ∧ b = 0 then 1 else 0

theorem pair_of {p : Program} {f : FuncId} {args : Array Value} {w : World} {x y x' y' : Int} (hx : x = x') (hy : y = y')
    (h : Calls p f args w fun e w' => e = .returned (.tuple #[.int .i64 x, .int .i64 y]) ∧ w' = w) :
    Calls p f args w fun e w' => e = .returned (.tuple #[.int .i64 x', .int .i64 y']) ∧ w' = w := by
  subst hx; subst hy; exact h

theorem do_none (op a b : Int) (h4 : ¬ op = 4) (h5 : ¬ op = 5) (h6 : ¬ op = 6) (h7 : ¬ op = 7) (h8 : ¬ op = 8) (h9 : ¬ op = 9) (h10 : ¬ op = 10) (h11 : ¬ op = 11) (h12 : ¬ op = 12) (h13 : ¬ op = 13) (h14 : ¬ op = 14) (h15 : ¬ op = 15) (h16 : ¬ op = 16) (w : World) :
    Calls Try.prog 10 #[.int .i64 op, .int .i64 a, .int .i64 b] w fun e w' => e = .returned (.tuple #[.int .i64 0, .int .i64 0]) ∧ w' = w := by
  go_enter Try.func10, Try.ntmps10
  go_wp2
  go_ret2
  exact ⟨rfl, rfl⟩

theorem do_any (op a b : Int) (w : World) :
    Calls Try.prog 10 #[.int .i64 op, .int .i64 a, .int .i64 b] w fun e w' => e = .returned (.tuple #[.int .i64 (doV op a b), .int .i64 (doT op b)]) ∧ w' = w := by
  by_cases h4 : op = 4
  · subst h4; exact pair_of (by simp [doV]) (by simp [doT]) (do_add a b w)
  by_cases h5 : op = 5
  · subst h5; exact pair_of (by simp [doV]) (by simp [doT]) (do_sub a b w)
  by_cases h6 : op = 6
  · subst h6; exact pair_of (by simp [doV]) (by simp [doT]) (do_mul a b w)
  by_cases h7 : op = 7
  · subst h7
    by_cases h : b = 0
    · exact pair_of (by simp [doV, h]) (by simp [doT, h]) (do_div0 a b h w)
    · exact pair_of (by simp [doV, h]) (by simp [doT, h]) (do_div a b h w)
  by_cases h8 : op = 8
  · subst h8
    by_cases h : b = 0
    · exact pair_of (by simp [doV, h]) (by simp [doT, h]) (do_rem0 a b h w)
    · exact pair_of (by simp [doV, h]) (by simp [doT, h]) (do_rem a b h w)
  by_cases h9 : op = 9
  · subst h9; exact pair_of (by simp [doV]) (by simp [doT]) (do_and a b w)
  by_cases h10 : op = 10
  · subst h10; exact pair_of (by simp [doV]) (by simp [doT]) (do_or a b w)
  by_cases h11 : op = 11
  · subst h11; exact pair_of (by simp [doV]) (by simp [doT]) (do_xor a b w)
  by_cases h12 : op = 12
  · subst h12; exact pair_of (by simp [doV]) (by simp [doT]) (do_shl a b w)
  by_cases h13 : op = 13
  · subst h13; exact pair_of (by simp [doV]) (by simp [doT]) (do_shr a b w)
  by_cases h14 : op = 14
  · subst h14
    by_cases h : a = b
    · exact pair_of (by simp [doV, h]) (by simp [doT]) (do_eq1 a b h w)
    · exact pair_of (by simp [doV, h]) (by simp [doT]) (do_eq0 a b h w)
  by_cases h15 : op = 15
  · subst h15
    by_cases h : a < b
    · exact pair_of (by simp [doV, h]) (by simp [doT]) (do_lt1 a b h w)
    · exact pair_of (by simp [doV, h]) (by simp [doT]) (do_lt0 a b h w)
  by_cases h16 : op = 16
  · subst h16
    by_cases h : a = 0
    · exact pair_of (by simp [doV, h]) (by simp [doT]) (do_not1 a b h w)
    · exact pair_of (by simp [doV, h]) (by simp [doT]) (do_not0 a b h w)
  exact pair_of (by simp [doV, *]) (by simp [doT, *]) (do_none op a b h4 h5 h6 h7 h8 h9 h10 h11 h12 h13 h14 h15 h16 w)

theorem v_add (a b : Int) : doV 4 a b = wrap64 (a + b) := by simp [doV]
theorem v_sub (a b : Int) : doV 5 a b = wrap64 (a - b) := by simp [doV]
theorem v_mul (a b : Int) : doV 6 a b = wrap64 (a * b) := by simp [doV]
theorem v_div (a b : Int) (h : ¬ b = 0) : doV 7 a b = wrap64 (a.tdiv b) := by simp [doV, h]
theorem v_rem (a b : Int) (h : ¬ b = 0) : doV 8 a b = a.tmod b := by simp [doV, h]
theorem v_and (a b : Int) : doV 9 a b = bits .and .i64 a b := by simp [doV]
theorem v_or (a b : Int) : doV 10 a b = bits .or .i64 a b := by simp [doV]
theorem v_xor (a b : Int) : doV 11 a b = bits .xor .i64 a b := by simp [doV]
theorem v_shl (a b : Int) : doV 12 a b = wrap64 (a * 2 ^ min (IntKind.u64.wrap (bits .and .i64 b 63)).toNat 64) := by simp [doV]
theorem v_shr (a b : Int) : doV 13 a b = a / 2 ^ min (IntKind.u64.wrap (bits .and .i64 b 63)).toNat 64 := by simp [doV]
theorem v_eq1 (a b : Int) (h : a = b) : doV 14 a b = 1 := by simp [doV, h]
theorem v_eq0 (a b : Int) (h : ¬ a = b) : doV 14 a b = 0 := by simp [doV, h]
theorem v_lt1 (a b : Int) (h : a < b) : doV 15 a b = 1 := by simp [doV, h]
theorem v_lt0 (a b : Int) (h : ¬ a < b) : doV 15 a b = 0 := by simp [doV, h]
theorem v_not1 (a b : Int) (h : a = 0) : doV 16 a b = 1 := by simp [doV, h]
theorem v_not0 (a b : Int) (h : ¬ a = 0) : doV 16 a b = 0 := by simp [doV, h]
theorem t_none (op b : Int) (h7 : ¬ op = 7) (h8 : ¬ op = 8) : doT op b = 0 := by simp [doT, h7, h8]

end Go.Proofs.Ytajccmlijbggoaa.Base
