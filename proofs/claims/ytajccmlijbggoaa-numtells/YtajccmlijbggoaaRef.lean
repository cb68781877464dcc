/-
  What plnref1.Do, the document's own answer, gives at whatever op, as a contract of the translated code: the number and the trap that num.Do gives; and what Is and Turns of both answer. No condition but that the number fits 64 bits where Div goes by -1.
-/
import Derived.Test.YtajccmlijbggoaaBase
import Derived.Test.YtajccmlijbggoaaPlain
namespace Go.Proofs.Ytajccmlijbggoaa.Ref
open Go.ChangeShapes Go.WideShapes Go.ChangeAt Go.RowKit Base Plain

theorem do_add (a b : Int) (w : World) :
    Calls Try.prog 11 #[.int .i64 4, .int .i64 a, .int .i64 b] w fun e w' => e = .returned (.tuple #[.int .i64 (wrap64 (a + b)), .int .i64 0]) ∧ w' = w := by
  go_enter Try.func11, Try.ntmps11
  go_wp2
  go_ret2
  exact ⟨rfl, rfl⟩

theorem do_sub (a b : Int) (w : World) :
    Calls Try.prog 11 #[.int .i64 5, .int .i64 a, .int .i64 b] w fun e w' => e = .returned (.tuple #[.int .i64 (wrap64 (a - b)), .int .i64 0]) ∧ w' = w := by
  go_enter Try.func11, Try.ntmps11
  go_wp2
  go_ret2
  exact ⟨rfl, rfl⟩

theorem do_mul (a b : Int) (w : World) :
    Calls Try.prog 11 #[.int .i64 6, .int .i64 a, .int .i64 b] w fun e w' => e = .returned (.tuple #[.int .i64 (wrap64 (a * b)), .int .i64 0]) ∧ w' = w := by
  go_enter Try.func11, Try.ntmps11
  go_wp2
  go_ret2
  exact ⟨rfl, rfl⟩

theorem do_div (a b : Int) (h : ¬ b = 0) (h1 : ¬ b = -1) (w : World) :
    Calls Try.prog 11 #[.int .i64 7, .int .i64 a, .int .i64 b] w fun e w' => e = .returned (.tuple #[.int .i64 (wrap64 (a.tdiv b)), .int .i64 0]) ∧ w' = w := by
  go_enter Try.func11, Try.ntmps11
  go_wp2
  go_ret2
  exact ⟨rfl, rfl⟩

theorem do_divm (a b : Int) (h : b = -1) (w : World) :
    Calls Try.prog 11 #[.int .i64 7, .int .i64 a, .int .i64 b] w fun e w' => e = .returned (.tuple #[.int .i64 (wrap64 (-a)), .int .i64 0]) ∧ w' = w := by
  go_enter Try.func11, Try.ntmps11
  go_wp2
  go_ret2
  exact ⟨rfl, rfl⟩

theorem do_div0 (a b : Int) (h : b = 0) (w : World) :
    Calls Try.prog 11 #[.int .i64 7, .int .i64 a, .int .i64 b] w fun e w' => e = .returned (.tuple #[.int .i64 (0), .int .i64 1]) ∧ w' = w := by
  go_enter Try.func11, Try.ntmps11
  go_wp2
  go_ret2
  exact ⟨rfl, rfl⟩

theorem do_rem (a b : Int) (h : ¬ b = 0) (h1 : ¬ b = -1) (w : World) :
    Calls Try.prog 11 #[.int .i64 8, .int .i64 a, .int .i64 b] w fun e w' => e = .returned (.tuple #[.int .i64 (a.tmod b), .int .i64 0]) ∧ w' = w := by
  go_enter Try.func11, Try.ntmps11
  go_wp2
  go_ret2
  exact ⟨rfl, rfl⟩

theorem do_remm (a b : Int) (h : b = -1) (w : World) :
    Calls Try.prog 11 #[.int .i64 8, .int .i64 a, .int .i64 b] w fun e w' => e = .returned (.tuple #[.int .i64 (0), .int .i64 0]) ∧ w' = w := by
  go_enter Try.func11, Try.ntmps11
  go_wp2
  go_ret2
  exact ⟨rfl, rfl⟩

theorem do_rem0 (a b : Int) (h : b = 0) (w : World) :
    Calls Try.prog 11 #[.int .i64 8, .int .i64 a, .int .i64 b] w fun e w' => e = .returned (.tuple #[.int .i64 (0), .int .i64 1]) ∧ w' = w := by
  go_enter Try.func11, Try.ntmps11
  go_wp2
  go_ret2
  exact ⟨rfl, rfl⟩

theorem do_and (a b : Int) (w : World) :
    Calls Try.prog 11 #[.int .i64 9, .int .i64 a, .int .i64 b] w fun e w' => e = .returned (.tuple #[.int .i64 (bits .and .i64 a b), .int .i64 0]) ∧ w' = w := by
  go_enter Try.func11, Try.ntmps11
  go_wp2
  go_ret2
  exact ⟨rfl, rfl⟩

theorem do_or (a b : Int) (w : World) :
    Calls Try.prog 11 #[.int .i64 10, .int .i64 a, .int .i64 b] w fun e w' => e = .returned (.tuple #[.int .i64 (bits .or .i64 a b), .int .i64 0]) ∧ w' = w := by
  go_enter Try.func11, Try.ntmps11
  go_wp2
  go_ret2
  exact ⟨rfl, rfl⟩

theorem do_xor (a b : Int) (w : World) :
    Calls Try.prog 11 #[.int .i64 11, .int .i64 a, .int .i64 b] w fun e w' => e = .returned (.tuple #[.int .i64 (bits .xor .i64 a b), .int .i64 0]) ∧ w' = w := by
  go_enter Try.func11, Try.ntmps11
  go_wp2
  go_ret2
  exact ⟨rfl, rfl⟩

theorem do_shl (a b : Int) (w : World) :
    Calls Try.prog 11 #[.int .i64 12, .int .i64 a, .int .i64 b] w fun e w' => e = .returned (.tuple #[.int .i64 (wrap64 (a * 2 ^ min (IntKind.u64.wrap (bits .and .i64 b 63)).toNat 64)), .int .i64 0]) ∧ w' = w := by
  go_enter Try.func11, Try.ntmps11
  go_wp2
  go_ret2
  exact ⟨rfl, rfl⟩

theorem do_shr (a b : Int) (w : World) :
    Calls Try.prog 11 #[.int .i64 13, .int .i64 a, .int .i64 b] w fun e w' => e = .returned (.tuple #[.int .i64 (a / 2 ^ min (IntKind.u64.wrap (bits .and .i64 b 63)).toNat 64), .int .i64 0]) ∧ w' = w := by
  go_enter Try.func11, Try.ntmps11
  go_wp2
  go_ret2
  exact ⟨rfl, rfl⟩

theorem do_eq1 (a b : Int) (h : a = b) (w : World) :
    Calls Try.prog 11 #[.int .i64 14, .int .i64 a, .int .i64 b] w fun e w' => e = .returned (.tuple #[.int .i64 (1), .int .i64 0]) ∧ w' = w := by
  go_enter Try.func11, Try.ntmps11
  go_wp2
  go_ret2
  exact ⟨rfl, rfl⟩

theorem do_eq0 (a b : Int) (h : ¬ a = b) (w : World) :
    Calls Try.prog 11 #[.int .i64 14, .int .i64 a, .int .i64 b] w fun e w' => e = .returned (.tuple #[.int .i64 (0), .int .i64 0]) ∧ w' = w := by
  go_enter Try.func11, Try.ntmps11
  go_wp2
  go_ret2
  exact ⟨rfl, rfl⟩

theorem do_lt1 (a b : Int) (h : a < b) (w : World) :
    Calls Try.prog 11 #[.int .i64 15, .int .i64 a, .int .i64 b] w fun e w' => e = .returned (.tuple #[.int .i64 (1), .int .i64 0]) ∧ w' = w := by
  go_enter Try.func11, Try.ntmps11
  go_wp2
  go_ret2
  exact ⟨rfl, rfl⟩

theorem do_lt0 (a b : Int) (h : ¬ a < b) (w : World) :
    Calls Try.prog 11 #[.int .i64 15, .int .i64 a, .int .i64 b] w fun e w' => e = .returned (.tuple #[.int .i64 (0), .int .i64 0]) ∧ w' = w := by
  go_enter Try.func11, Try.ntmps11
  go_wp2
  go_ret2
  exact ⟨rfl, rfl⟩

theorem do_not1 (a b : Int) (h : a = 0) (w : World) :
    Calls Try.prog 11 #[.int .i64 16, .int .i64 a, .int .i64 b] w fun e w' => e = .returned (.tuple #[.int .i64 (1), .int .i64 0]) ∧ w' = w := by
  go_enter Try.func11, Try.ntmps11
  go_wp2
  go_ret2
  exact ⟨rfl, rfl⟩

theorem do_not0 (a b : Int) (h : ¬ a = 0) (w : World) :
    Calls Try.prog 11 #[.int .i64 16, .int .i64 a, .int .i64 b] w fun e w' => e = .returned (.tuple #[.int .i64 (0), .int .i64 0]) ∧ w' = w := by
  go_enter Try.func11, Try.ntmps11
  go_wp2
  go_ret2
  exact ⟨rfl, rfl⟩

theorem do_none (op a b : Int) (h4 : ¬ op = 4) (h5 : ¬ op = 5) (h6 : ¬ op = 6) (h7 : ¬ op = 7) (h8 : ¬ op = 8) (h9 : ¬ op = 9) (h10 : ¬ op = 10) (h11 : ¬ op = 11) (h12 : ¬ op = 12) (h13 : ¬ op = 13) (h14 : ¬ op = 14) (h15 : ¬ op = 15) (h16 : ¬ op = 16) (w : World) :
    Calls Try.prog 11 #[.int .i64 op, .int .i64 a, .int .i64 b] w fun e w' => e = .returned (.tuple #[.int .i64 0, .int .i64 0]) ∧ w' = w := by
  go_enter Try.func11, Try.ntmps11
  go_wp2
  go_ret2
  exact ⟨rfl, rfl⟩

theorem do_any (op a b : Int) (w : World) :
    Calls Try.prog 11 #[.int .i64 op, .int .i64 a, .int .i64 b] w fun e w' => e = .returned (.tuple #[.int .i64 (doV op a b), .int .i64 (doT op b)]) ∧ w' = w := by
  by_cases h4 : op = 4
  · subst h4; exact pair_of (by simp [doV]) (by simp [doT]) (Ref.do_add a b w)
  by_cases h5 : op = 5
  · subst h5; exact pair_of (by simp [doV]) (by simp [doT]) (Ref.do_sub a b w)
  by_cases h6 : op = 6
  · subst h6; exact pair_of (by simp [doV]) (by simp [doT]) (Ref.do_mul a b w)
  by_cases h7 : op = 7
  · subst h7
    by_cases h : b = 0
    · exact pair_of (by simp [doV, h]) (by simp [doT, h]) (Ref.do_div0 a b h w)
    · by_cases h1 : b = -1
      · exact pair_of (by subst h1; simp [doV, Int.tdiv_neg]) (by simp [doT, h]) (Ref.do_divm a b h1 w)
      · exact pair_of (by simp [doV, h]) (by simp [doT, h]) (Ref.do_div a b h h1 w)
  by_cases h8 : op = 8
  · subst h8
    by_cases h : b = 0
    · exact pair_of (by simp [doV, h]) (by simp [doT, h]) (Ref.do_rem0 a b h w)
    · by_cases h1 : b = -1
      · exact pair_of (by subst h1; simp [doV, Int.tmod_neg]) (by simp [doT, h]) (Ref.do_remm a b h1 w)
      · exact pair_of (by simp [doV, h]) (by simp [doT, h]) (Ref.do_rem a b h h1 w)
  by_cases h9 : op = 9
  · subst h9; exact pair_of (by simp [doV]) (by simp [doT]) (Ref.do_and a b w)
  by_cases h10 : op = 10
  · subst h10; exact pair_of (by simp [doV]) (by simp [doT]) (Ref.do_or a b w)
  by_cases h11 : op = 11
  · subst h11; exact pair_of (by simp [doV]) (by simp [doT]) (Ref.do_xor a b w)
  by_cases h12 : op = 12
  · subst h12; exact pair_of (by simp [doV]) (by simp [doT]) (Ref.do_shl a b w)
  by_cases h13 : op = 13
  · subst h13; exact pair_of (by simp [doV]) (by simp [doT]) (Ref.do_shr a b w)
  by_cases h14 : op = 14
  · subst h14
    by_cases h : a = b
    · exact pair_of (by simp [doV, h]) (by simp [doT]) (Ref.do_eq1 a b h w)
    · exact pair_of (by simp [doV, h]) (by simp [doT]) (Ref.do_eq0 a b h w)
  by_cases h15 : op = 15
  · subst h15
    by_cases h : a < b
    · exact pair_of (by simp [doV, h]) (by simp [doT]) (Ref.do_lt1 a b h w)
    · exact pair_of (by simp [doV, h]) (by simp [doT]) (Ref.do_lt0 a b h w)
  by_cases h16 : op = 16
  · subst h16
    by_cases h : a = 0
    · exact pair_of (by simp [doV, h]) (by simp [doT]) (Ref.do_not1 a b h w)
    · exact pair_of (by simp [doV, h]) (by simp [doT]) (Ref.do_not0 a b h w)
  exact pair_of (by simp [doV, *]) (by simp [doT, *]) (Ref.do_none op a b h4 h5 h6 h7 h8 h9 h10 h11 h12 h13 h14 h15 h16 w)

def isB (op : Int) : Bool := decide (4 ≤ op ∧ op ≤ 16)

def turnsB (op : Int) : Bool := decide (op = 4 ∨ op = 6 ∨ op = 9 ∨ op = 10 ∨ op = 11 ∨ op = 14)

theorem is_4 (w : World) :
    Calls Try.prog 12 #[.int .i64 4] w fun e w' => e = .returned (.bool true) ∧ w' = w := by
  go_enter Try.func12, Try.ntmps12
  go_wp2
  go_ret
  exact ⟨rfl, rfl⟩

theorem is_5 (w : World) :
    Calls Try.prog 12 #[.int .i64 5] w fun e w' => e = .returned (.bool true) ∧ w' = w := by
  go_enter Try.func12, Try.ntmps12
  go_wp2
  go_ret
  exact ⟨rfl, rfl⟩

theorem is_6 (w : World) :
    Calls Try.prog 12 #[.int .i64 6] w fun e w' => e = .returned (.bool true) ∧ w' = w := by
  go_enter Try.func12, Try.ntmps12
  go_wp2
  go_ret
  exact ⟨rfl, rfl⟩

theorem is_7 (w : World) :
    Calls Try.prog 12 #[.int .i64 7] w fun e w' => e = .returned (.bool true) ∧ w' = w := by
  go_enter Try.func12, Try.ntmps12
  go_wp2
  go_ret
  exact ⟨rfl, rfl⟩

theorem is_8 (w : World) :
    Calls Try.prog 12 #[.int .i64 8] w fun e w' => e = .returned (.bool true) ∧ w' = w := by
  go_enter Try.func12, Try.ntmps12
  go_wp2
  go_ret
  exact ⟨rfl, rfl⟩

theorem is_9 (w : World) :
    Calls Try.prog 12 #[.int .i64 9] w fun e w' => e = .returned (.bool true) ∧ w' = w := by
  go_enter Try.func12, Try.ntmps12
  go_wp2
  go_ret
  exact ⟨rfl, rfl⟩

theorem is_10 (w : World) :
    Calls Try.prog 12 #[.int .i64 10] w fun e w' => e = .returned (.bool true) ∧ w' = w := by
  go_enter Try.func12, Try.ntmps12
  go_wp2
  go_ret
  exact ⟨rfl, rfl⟩

theorem is_11 (w : World) :
    Calls Try.prog 12 #[.int .i64 11] w fun e w' => e = .returned (.bool true) ∧ w' = w := by
  go_enter Try.func12, Try.ntmps12
  go_wp2
  go_ret
  exact ⟨rfl, rfl⟩

theorem is_12 (w : World) :
    Calls Try.prog 12 #[.int .i64 12] w fun e w' => e = .returned (.bool true) ∧ w' = w := by
  go_enter Try.func12, Try.ntmps12
  go_wp2
  go_ret
  exact ⟨rfl, rfl⟩

theorem is_13 (w : World) :
    Calls Try.prog 12 #[.int .i64 13] w fun e w' => e = .returned (.bool true) ∧ w' = w := by
  go_enter Try.func12, Try.ntmps12
  go_wp2
  go_ret
  exact ⟨rfl, rfl⟩

theorem is_14 (w : World) :
    Calls Try.prog 12 #[.int .i64 14] w fun e w' => e = .returned (.bool true) ∧ w' = w := by
  go_enter Try.func12, Try.ntmps12
  go_wp2
  go_ret
  exact ⟨rfl, rfl⟩

theorem is_15 (w : World) :
    Calls Try.prog 12 #[.int .i64 15] w fun e w' => e = .returned (.bool true) ∧ w' = w := by
  go_enter Try.func12, Try.ntmps12
  go_wp2
  go_ret
  exact ⟨rfl, rfl⟩

theorem is_16 (w : World) :
    Calls Try.prog 12 #[.int .i64 16] w fun e w' => e = .returned (.bool true) ∧ w' = w := by
  go_enter Try.func12, Try.ntmps12
  go_wp2
  go_ret
  exact ⟨rfl, rfl⟩

theorem is_no (op : Int) (h4 : ¬ op = 4) (h5 : ¬ op = 5) (h6 : ¬ op = 6) (h7 : ¬ op = 7) (h8 : ¬ op = 8) (h9 : ¬ op = 9) (h10 : ¬ op = 10) (h11 : ¬ op = 11) (h12 : ¬ op = 12) (h13 : ¬ op = 13) (h14 : ¬ op = 14) (h15 : ¬ op = 15) (h16 : ¬ op = 16) (w : World) :
    Calls Try.prog 12 #[.int .i64 op] w fun e w' => e = .returned (.bool false) ∧ w' = w := by
  go_enter Try.func12, Try.ntmps12
  go_wp2
  go_ret
  exact ⟨rfl, rfl⟩

theorem turns_4 (w : World) :
    Calls Try.prog 14 #[.int .i64 4] w fun e w' => e = .returned (.bool true) ∧ w' = w := by
  go_enter Try.func14, Try.ntmps14
  go_wp2
  go_ret
  exact ⟨rfl, rfl⟩

theorem turns_6 (w : World) :
    Calls Try.prog 14 #[.int .i64 6] w fun e w' => e = .returned (.bool true) ∧ w' = w := by
  go_enter Try.func14, Try.ntmps14
  go_wp2
  go_ret
  exact ⟨rfl, rfl⟩

theorem turns_9 (w : World) :
    Calls Try.prog 14 #[.int .i64 9] w fun e w' => e = .returned (.bool true) ∧ w' = w := by
  go_enter Try.func14, Try.ntmps14
  go_wp2
  go_ret
  exact ⟨rfl, rfl⟩

theorem turns_10 (w : World) :
    Calls Try.prog 14 #[.int .i64 10] w fun e w' => e = .returned (.bool true) ∧ w' = w := by
  go_enter Try.func14, Try.ntmps14
  go_wp2
  go_ret
  exact ⟨rfl, rfl⟩

theorem turns_11 (w : World) :
    Calls Try.prog 14 #[.int .i64 11] w fun e w' => e = .returned (.bool true) ∧ w' = w := by
  go_enter Try.func14, Try.ntmps14
  go_wp2
  go_ret
  exact ⟨rfl, rfl⟩

theorem turns_14 (w : World) :
    Calls Try.prog 14 #[.int .i64 14] w fun e w' => e = .returned (.bool true) ∧ w' = w := by
  go_enter Try.func14, Try.ntmps14
  go_wp2
  go_ret
  exact ⟨rfl, rfl⟩

theorem turns_no (op : Int) (h4 : ¬ op = 4) (h6 : ¬ op = 6) (h9 : ¬ op = 9) (h10 : ¬ op = 10) (h11 : ¬ op = 11) (h14 : ¬ op = 14) (w : World) :
    Calls Try.prog 14 #[.int .i64 op] w fun e w' => e = .returned (.bool false) ∧ w' = w := by
  go_enter Try.func14, Try.ntmps14
  go_wp2
  go_ret
  exact ⟨rfl, rfl⟩

theorem rturns_4 (w : World) :
    Calls Try.prog 15 #[.int .i64 4] w fun e w' => e = .returned (.bool true) ∧ w' = w := by
  go_enter Try.func15, Try.ntmps15
  go_wp2
  go_ret
  exact ⟨rfl, rfl⟩

theorem rturns_6 (w : World) :
    Calls Try.prog 15 #[.int .i64 6] w fun e w' => e = .returned (.bool true) ∧ w' = w := by
  go_enter Try.func15, Try.ntmps15
  go_wp2
  go_ret
  exact ⟨rfl, rfl⟩

theorem rturns_9 (w : World) :
    Calls Try.prog 15 #[.int .i64 9] w fun e w' => e = .returned (.bool true) ∧ w' = w := by
  go_enter Try.func15, Try.ntmps15
  go_wp2
  go_ret
  exact ⟨rfl, rfl⟩

theorem rturns_10 (w : World) :
    Calls Try.prog 15 #[.int .i64 10] w fun e w' => e = .returned (.bool true) ∧ w' = w := by
  go_enter Try.func15, Try.ntmps15
  go_wp2
  go_ret
  exact ⟨rfl, rfl⟩

theorem rturns_11 (w : World) :
    Calls Try.prog 15 #[.int .i64 11] w fun e w' => e = .returned (.bool true) ∧ w' = w := by
  go_enter Try.func15, Try.ntmps15
  go_wp2
  go_ret
  exact ⟨rfl, rfl⟩

theorem rturns_14 (w : World) :
    Calls Try.prog 15 #[.int .i64 14] w fun e w' => e = .returned (.bool true) ∧ w' = w := by
  go_enter Try.func15, Try.ntmps15
  go_wp2
  go_ret
  exact ⟨rfl, rfl⟩

theorem rturns_no (op : Int) (h4 : ¬ op = 4) (h6 : ¬ op = 6) (h9 : ¬ op = 9) (h10 : ¬ op = 10) (h11 : ¬ op = 11) (h14 : ¬ op = 14) (w : World) :
    Calls Try.prog 15 #[.int .i64 op] w fun e w' => e = .returned (.bool false) ∧ w' = w := by
  go_enter Try.func15, Try.ntmps15
  go_wp2
  go_ret
  exact ⟨rfl, rfl⟩

theorem is (op : Int) (w : World) :
    Calls Try.prog 12 #[.int .i64 op] w fun e w' => e = .returned (.bool (isB op)) ∧ w' = w := by
  by_cases h4 : op = 4
  · subst h4; exact is_4 w
  by_cases h5 : op = 5
  · subst h5; exact is_5 w
  by_cases h6 : op = 6
  · subst h6; exact is_6 w
  by_cases h7 : op = 7
  · subst h7; exact is_7 w
  by_cases h8 : op = 8
  · subst h8; exact is_8 w
  by_cases h9 : op = 9
  · subst h9; exact is_9 w
  by_cases h10 : op = 10
  · subst h10; exact is_10 w
  by_cases h11 : op = 11
  · subst h11; exact is_11 w
  by_cases h12 : op = 12
  · subst h12; exact is_12 w
  by_cases h13 : op = 13
  · subst h13; exact is_13 w
  by_cases h14 : op = 14
  · subst h14; exact is_14 w
  by_cases h15 : op = 15
  · subst h15; exact is_15 w
  by_cases h16 : op = 16
  · subst h16; exact is_16 w
  have e : isB op = false := by simp [isB]; omega
  rw [e]; exact is_no op h4 h5 h6 h7 h8 h9 h10 h11 h12 h13 h14 h15 h16 w

theorem turns (op : Int) (w : World) :
    Calls Try.prog 14 #[.int .i64 op] w fun e w' => e = .returned (.bool (turnsB op)) ∧ w' = w := by
  by_cases h4 : op = 4
  · subst h4; exact turns_4 w
  by_cases h6 : op = 6
  · subst h6; exact turns_6 w
  by_cases h9 : op = 9
  · subst h9; exact turns_9 w
  by_cases h10 : op = 10
  · subst h10; exact turns_10 w
  by_cases h11 : op = 11
  · subst h11; exact turns_11 w
  by_cases h14 : op = 14
  · subst h14; exact turns_14 w
  have e : turnsB op = false := by simp [turnsB, *]
  rw [e]; exact turns_no op h4 h6 h9 h10 h11 h14 w

theorem rturns (op : Int) (w : World) :
    Calls Try.prog 15 #[.int .i64 op] w fun e w' => e = .returned (.bool (turnsB op)) ∧ w' = w := by
  by_cases h4 : op = 4
  · subst h4; exact rturns_4 w
  by_cases h6 : op = 6
  · subst h6; exact rturns_6 w
  by_cases h9 : op = 9
  · subst h9; exact rturns_9 w
  by_cases h10 : op = 10
  · subst h10; exact rturns_10 w
  by_cases h11 : op = 11
  · subst h11; exact rturns_11 w
  by_cases h14 : op = 14
  · subst h14; exact rturns_14 w
  have e : turnsB op = false := by simp [turnsB, *]
  rw [e]; exact rturns_no op h4 h6 h9 h10 h11 h14 w

theorem ris (op : Int) (w : World) :
    Calls Try.prog 13 #[.int .i64 op] w fun e w' => e = .returned (.bool (isB op)) ∧ w' = w := by
  by_cases h1 : 4 ≤ op
  · by_cases h2 : op ≤ 16
    · have e : isB op = true := by simp [isB, h1, h2]
      rw [e]
      go_enter Try.func13, Try.ntmps13
      go_wp2
      go_ret
      exact ⟨rfl, rfl⟩
    · have e : isB op = false := by simp [isB, h2]
      have y : decide (op ≤ 16) = false := by simpa using h2
      rw [e]
      go_enter Try.func13, Try.ntmps13
      go_wp2
      go_ret
      exact ⟨rfl, rfl⟩
  · have e : isB op = false := by simp [isB, h1]
    have y : decide (4 ≤ op) = false := by simpa using h1
    rw [e]
    go_enter Try.func13, Try.ntmps13
    go_wp2
    go_ret
    exact ⟨rfl, rfl⟩

end Go.Proofs.Ytajccmlijbggoaa.Ref
