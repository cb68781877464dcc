/-
  Plain facts on 64-bit numbers that the proofs beside this text use: quotient and remainder, wraps, bits, moves. Nothing of the program stands here.
-/
import Derived.WalkKit
import Derived.ProofKit
namespace Go.Proofs.Ytajccmlijbggoaa.Plain
open Go.RowKit

theorem wrap_form (n : Int) : ∃ k : Int, wrap64 n = n + 18446744073709551616 * k := by
  refine ⟨-((n + 9223372036854775808) / 18446744073709551616), ?_⟩
  unfold wrap64; omega
theorem wrap_add_mul (n k : Int) : wrap64 (n + 18446744073709551616 * k) = wrap64 n := by unfold wrap64; omega
theorem wrap_in {n : Int} (h0 : -9223372036854775808 ≤ n) (h1 : n ≤ 9223372036854775807) : wrap64 n = n := by unfold wrap64; omega

/-! Quotient and remainder. -/
theorem parts_sum (a b : Int) (h0 : -9223372036854775808 ≤ a) (h1 : a ≤ 9223372036854775807) :
    wrap64 (wrap64 (wrap64 (a.tdiv b) * b) + a.tmod b) = a := by
  have e := Int.tdiv_mul_add_tmod a b
  obtain ⟨k1, e1⟩ := wrap_form (a.tdiv b)
  obtain ⟨k2, e2⟩ := wrap_form (wrap64 (a.tdiv b) * b)
  rw [e2, e1, Int.add_mul]
  have r : a.tdiv b * b + 18446744073709551616 * k1 * b + 18446744073709551616 * k2 + a.tmod b = a + 18446744073709551616 * (k1 * b + k2) := by
    rw [Int.mul_add, Int.mul_assoc]; omega
  rw [r, wrap_add_mul, wrap_in h0 h1]

theorem rem_near (a b : Int) (h : ¬ b = 0) : (a.tmod b).natAbs < b.natAbs := by
  rw [Int.natAbs_tmod]; exact Nat.mod_lt _ (by omega)
theorem rem_pos (a b : Int) (h : ¬ a < 0) : 0 ≤ a.tmod b := Int.tmod_nonneg b (by omega)
theorem rem_neg (a b : Int) (h : a < 0) : a.tmod b ≤ 0 := by
  have := Int.tmod_nonneg (a := -a) b (by omega)
  rw [Int.neg_tmod] at this
  omega

/-! Numbers and their bits. -/
theorem wrap_toInt (x : BitVec 64) : IntKind.i64.wrap (x.toNat : Int) = x.toInt := by
  have h := x.isLt
  rw [IntKind.wrap_i64, BitVec.toInt]
  split <;> omega
theorem toInt_of {a : Int} (h0 : -9223372036854775808 ≤ a) (h1 : a ≤ 9223372036854775807) : (BitVec.ofInt 64 a).toInt = a := by
  rw [BitVec.toInt_ofInt]
  exact Int.bmod_eq_of_le (by omega) (by omega)
theorem wrap_ofInt (n : Int) : wrap64 n = (BitVec.ofInt 64 n).toInt := by
  rw [BitVec.toInt_ofInt, Int.bmod]
  unfold wrap64
  simp only [Nat.reducePow]
  split <;> omega

theorem bits_and (a b : Int) : bits .and .i64 a b = (BitVec.ofInt 64 a &&& BitVec.ofInt 64 b).toInt := wrap_toInt _
theorem bits_or (a b : Int) : bits .or .i64 a b = (BitVec.ofInt 64 a ||| BitVec.ofInt 64 b).toInt := wrap_toInt _
theorem bits_xor (a b : Int) : bits .xor .i64 a b = (BitVec.ofInt 64 a ^^^ BitVec.ofInt 64 b).toInt := wrap_toInt _

theorem toNat_of (n : Int) : ((BitVec.ofInt 64 n).toNat : Int) = n % 18446744073709551616 := by
  rw [BitVec.toNat_ofInt]
  simp only [Nat.reducePow, Int.cast_ofNat_Int]
  omega

theorem low_bit (n : Int) : bits .and .i64 n 1 = n % 2 := by
  rw [bits_and, ← wrap_toInt, IntKind.wrap_i64, BitVec.toNat_and]
  have e : (BitVec.ofInt 64 1).toNat = 1 := rfl
  have t := toNat_of n
  rw [e, Nat.and_one_is_mod]
  omega

theorem low_six (n : Int) : bits .and .i64 n 63 = n % 64 := by
  rw [bits_and, ← wrap_toInt, IntKind.wrap_i64, BitVec.toNat_and]
  have e : (BitVec.ofInt 64 63).toNat = 2 ^ 6 - 1 := rfl
  have t := toNat_of n
  rw [e, Nat.and_two_pow_sub_one_eq_mod]
  omega

theorem six_of (n : Int) : min (IntKind.u64.wrap (bits .and .i64 n 63)).toNat 64 = (n % 64).toNat := by
  rw [low_six, IntKind.wrap_u64]; omega

/-- bit e of a number, as Go reckons it (x >> e & 1). -/
theorem bit_of (x : Int) (e : Nat) (h : e < 64) : x / 2 ^ e % 2 = if (BitVec.ofInt 64 x).getLsbD e then 1 else 0 := by
  have t := toNat_of x
  have hp : (2 : Int) ^ e ≠ 0 := by have : (0 : Int) < 2 ^ e := Int.pow_pos (by decide); omega
  obtain ⟨d, hd⟩ : ∃ d, 64 = e + 1 + d := ⟨63 - e, by omega⟩
  have big : (18446744073709551616 : Int) = 2 ^ e * (2 * 2 ^ d) := by
    have : (18446744073709551616 : Int) = 2 ^ 64 := by decide
    rw [this, hd, Int.pow_add, Int.pow_succ, Int.mul_assoc]
  have split : x = x % 18446744073709551616 + 2 ^ e * (2 * 2 ^ d * (x / 18446744073709551616)) := by
    have := Int.emod_add_mul_ediv x 18446744073709551616
    rw [← Int.mul_assoc, ← big]; omega
  have q : x / 2 ^ e = (x % 18446744073709551616) / 2 ^ e + 2 * (2 ^ d * (x / 18446744073709551616)) := by
    calc x / 2 ^ e = (x % 18446744073709551616 + 2 ^ e * (2 * 2 ^ d * (x / 18446744073709551616))) / 2 ^ e := by rw [← split]
      _ = _ := by rw [Int.add_mul_ediv_left _ _ hp, Int.mul_assoc]
  have m : x / 2 ^ e % 2 = (x % 18446744073709551616) / 2 ^ e % 2 := by rw [q]; omega
  rw [m, ← t]
  have g : (BitVec.ofInt 64 x).getLsbD e = decide ((BitVec.ofInt 64 x).toNat / 2 ^ e % 2 = 1) := by
    rw [← Nat.testBit_eq_decide_div_mod_eq]; rfl
  rw [g]
  generalize (BitVec.ofInt 64 x).toNat = y
  have c : ((y : Int) / 2 ^ e) % 2 = ((y / 2 ^ e % 2 : Nat) : Int) := by
    simp
  rw [c]
  have : y / 2 ^ e % 2 = 0 ∨ y / 2 ^ e % 2 = 1 := by omega
  rcases this with h | h <;> simp [h]

theorem nat_and_or (x : Nat) : ∀ y, (x &&& y) + (x ||| y) = x + y := by
  induction x using Nat.strongRecOn with
  | ind x ih =>
    intro y
    by_cases hx : x = 0
    · subst hx; simp
    · have i := ih (x / 2) (by omega) (y / 2)
      have a1 := Nat.and_div_two (a := x) (b := y)
      have o1 := Nat.or_div_two (a := x) (b := y)
      have a2 := Nat.and_mod_two_eq_one (a := x) (b := y)
      have o2 := Nat.or_mod_two_eq_one (a := x) (b := y)
      rw [← a1, ← o1] at i
      generalize x &&& y = p at *
      generalize x ||| y = q at *
      omega

theorem and_or_sum (a b : Int) : wrap64 (bits .and .i64 a b + bits .or .i64 a b) = wrap64 (a + b) := by
  rw [bits_and, bits_or, wrap_ofInt, wrap_ofInt, BitVec.ofInt_add, BitVec.ofInt_add, BitVec.ofInt_toInt, BitVec.ofInt_toInt]
  congr 1
  apply BitVec.eq_of_toNat_eq
  rw [BitVec.toNat_add, BitVec.toNat_add, BitVec.toNat_and, BitVec.toNat_or, nat_and_or]

theorem xor_ones (a : Int) : bits .xor .i64 a (-1) = wrap64 (-1 - a) := by
  have e : BitVec.ofInt 64 (-1) = BitVec.allOnes 64 := rfl
  rw [bits_xor, e, BitVec.xor_allOnes, ← wrap_toInt, IntKind.wrap_i64, BitVec.toNat_not]
  have t := toNat_of a
  have l := (BitVec.ofInt 64 a).isLt
  unfold wrap64
  omega

theorem bit_and (a b : Int) (e : Nat) (h : e < 64) : bits .and .i64 a b / 2 ^ e % 2 = if a / 2 ^ e % 2 = 1 ∧ b / 2 ^ e % 2 = 1 then 1 else 0 := by
  rw [bit_of _ e h, bit_of a e h, bit_of b e h, bits_and, BitVec.ofInt_toInt, BitVec.getLsbD_and]
  cases (BitVec.ofInt 64 a).getLsbD e <;> cases (BitVec.ofInt 64 b).getLsbD e <;> simp
theorem bit_or (a b : Int) (e : Nat) (h : e < 64) : bits .or .i64 a b / 2 ^ e % 2 = if a / 2 ^ e % 2 = 1 ∨ b / 2 ^ e % 2 = 1 then 1 else 0 := by
  rw [bit_of _ e h, bit_of a e h, bit_of b e h, bits_or, BitVec.ofInt_toInt, BitVec.getLsbD_or]
  cases (BitVec.ofInt 64 a).getLsbD e <;> cases (BitVec.ofInt 64 b).getLsbD e <;> simp
theorem bit_xor (a b : Int) (e : Nat) (h : e < 64) : bits .xor .i64 a b / 2 ^ e % 2 = if a / 2 ^ e % 2 = b / 2 ^ e % 2 then 0 else 1 := by
  rw [bit_of _ e h, bit_of a e h, bit_of b e h, bits_xor, BitVec.ofInt_toInt, BitVec.getLsbD_xor]
  cases (BitVec.ofInt 64 a).getLsbD e <;> cases (BitVec.ofInt 64 b).getLsbD e <;> simp

/-! Moves. -/
theorem far_six (n : Int) : bits .and .i64 (bits .xor .i64 n 64) 63 = bits .and .i64 n 63 := by
  rw [bits_and, bits_and, bits_xor, BitVec.ofInt_toInt]
  congr 1
  apply BitVec.eq_of_getLsbD_eq
  intro i hi
  rw [BitVec.getLsbD_and, BitVec.getLsbD_and, BitVec.getLsbD_xor]
  by_cases h : i = 6
  · subst h
    have : (BitVec.ofInt 64 63).getLsbD 6 = false := rfl
    rw [this]; simp
  · have : (BitVec.ofInt 64 64).getLsbD i = false := by
      have e : BitVec.ofInt 64 64 = BitVec.twoPow 64 6 := rfl
      rw [e, BitVec.getLsbD_twoPow]; simp; omega
    rw [this]; simp

theorem double (a : Int) (k : Nat) : wrap64 (wrap64 (a * 2 ^ k) + wrap64 (a * 2 ^ k)) = wrap64 (a * 2 ^ (k + 1)) := by
  obtain ⟨j, e⟩ := wrap_form (a * 2 ^ k)
  rw [e, Int.pow_succ, ← Int.mul_assoc]
  have : a * 2 ^ k + 18446744073709551616 * j + (a * 2 ^ k + 18446744073709551616 * j) = a * 2 ^ k * 2 + 18446744073709551616 * (2 * j) := by omega
  rw [this, wrap_add_mul]

theorem half (a : Int) (k : Nat) : a / 2 ^ k / 2 = a / 2 ^ (k + 1) := by
  rw [Int.pow_succ, Int.ediv_ediv_of_nonneg (Int.pow_nonneg (by decide))]

theorem half_bounds {a : Int} (k : Nat) (h0 : -9223372036854775808 ≤ a) (h1 : a ≤ 9223372036854775807) :
    -9223372036854775808 ≤ a / 2 ^ k ∧ a / 2 ^ k ≤ 9223372036854775807 := by
  induction k with
  | zero => simp; omega
  | succ k ih => rw [← half]; omega

end Go.Proofs.Ytajccmlijbggoaa.Plain
