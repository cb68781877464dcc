/-
  The low bits of a number.
-/
import Derived.Test.YtahjippocejphaaNum
namespace Go.Proofs.Ytahjippocejphaa.Low
open Go.RowKit View Rd Num

set_option linter.unusedVariables false

theorem wrap_toInt (x : BitVec 64) : IntKind.i64.wrap (x.toNat : Int) = x.toInt := by
  rw [IntKind.wrap_i64, BitVec.toInt_eq_toNat_cond]
  have := x.isLt
  split <;> omega

theorem toNat_of (n : Int) : ((BitVec.ofInt 64 n).toNat : Int) = n % 18446744073709551616 := by
  rw [BitVec.toNat_ofInt]
  omega

theorem low16 (n : Int) : bits .and .i64 n 65535 = n % 65536 := by
  have hb : bits .and .i64 n 65535 = (BitVec.ofInt 64 n &&& BitVec.ofInt 64 65535).toInt := wrap_toInt _
  rw [hb, ← wrap_toInt, IntKind.wrap_i64, BitVec.toNat_and]
  have e : (BitVec.ofInt 64 65535).toNat = 2 ^ 16 - 1 := rfl
  have t := toNat_of n
  rw [e, Nat.and_two_pow_sub_one_eq_mod]
  omega

theorem low8 (n : Int) : bits .and .i64 n 255 = n % 256 := by
  have hb : bits .and .i64 n 255 = (BitVec.ofInt 64 n &&& BitVec.ofInt 64 255).toInt := wrap_toInt _
  rw [hb, ← wrap_toInt, IntKind.wrap_i64, BitVec.toNat_and]
  have e : (BitVec.ofInt 64 255).toNat = 2 ^ 8 - 1 := rfl
  have t := toNat_of n
  rw [e, Nat.and_two_pow_sub_one_eq_mod]
  omega

theorem low3 (n : Int) : bits .and .i64 n 7 = n % 8 := by
  have hb : bits .and .i64 n 7 = (BitVec.ofInt 64 n &&& BitVec.ofInt 64 7).toInt := wrap_toInt _
  rw [hb, ← wrap_toInt, IntKind.wrap_i64, BitVec.toNat_and]
  have e : (BitVec.ofInt 64 7).toNat = 2 ^ 3 - 1 := rfl
  have t := toNat_of n
  rw [e, Nat.and_two_pow_sub_one_eq_mod]
  omega

theorem low2 (n : Int) : bits .and .i64 n 3 = n % 4 := by
  have hb : bits .and .i64 n 3 = (BitVec.ofInt 64 n &&& BitVec.ofInt 64 3).toInt := wrap_toInt _
  rw [hb, ← wrap_toInt, IntKind.wrap_i64, BitVec.toNat_and]
  have e : (BitVec.ofInt 64 3).toNat = 2 ^ 2 - 1 := rfl
  have t := toNat_of n
  rw [e, Nat.and_two_pow_sub_one_eq_mod]
  omega

theorem low1 (n : Int) : bits .and .i64 n 1 = n % 2 := by
  have hb : bits .and .i64 n 1 = (BitVec.ofInt 64 n &&& BitVec.ofInt 64 1).toInt := wrap_toInt _
  rw [hb, ← wrap_toInt, IntKind.wrap_i64, BitVec.toNat_and]
  have e : (BitVec.ofInt 64 1).toNat = 2 ^ 1 - 1 := rfl
  have t := toNat_of n
  rw [e, Nat.and_two_pow_sub_one_eq_mod]
  omega

theorem red16 (a : Int) {n : Nat} (hn : 0 < n) : ∃ x : Nat, x < n ∧ ∃ a0 : Nat, bits .and .i64 a 65535 = (a0 : Int) ∧ (a0 : Int).tmod (n : Int) = (x : Int) := by
  refine ⟨(a % 65536).toNat % n, Nat.mod_lt _ hn, (a % 65536).toNat, ?_, ?_⟩
  · rw [low16]; omega
  · rw [Int.ofNat_tmod]

theorem xor_one {n : Int} (h : W64 n) : bits .xor .i64 n 1 ≠ n := by
  have hb : bits .xor .i64 n 1 = (BitVec.ofInt 64 n ^^^ BitVec.ofInt 64 1).toInt := wrap_toInt _
  intro e
  rw [hb] at e
  have e1 : (BitVec.ofInt 64 n).toInt = n := by
    rw [BitVec.toInt_ofInt]
    have := h.1
    have := h.2
    simp only [Int.bmod]
    split <;> omega
  have e2 : BitVec.ofInt 64 n ^^^ BitVec.ofInt 64 1 = BitVec.ofInt 64 n := BitVec.eq_of_toInt_eq (by rw [e, e1])
  have e3 : BitVec.ofInt 64 1 = 0#64 := by
    have := congrArg (fun x => BitVec.ofInt 64 n ^^^ x) e2
    simp only [← BitVec.xor_assoc, BitVec.xor_self, BitVec.zero_xor] at this
    exact this
  exact absurd e3 (by decide)

end Go.Proofs.Ytahjippocejphaa.Low
