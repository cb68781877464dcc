/-
  Plain facts on bytes and the numbers that they are, the highest first: no program is named here.
-/
import Derived.Laws.BitsAllLaws
import Derived.Lib.BitFns
namespace Go.Proofs.Ytiepgocbgjdhpaa.Plain

/-- What the first k of the bytes f are, the highest first. -/
def sumTo (f : Nat → Int) : Nat → Int
  | 0 => 0
  | k + 1 => sumTo f k * 256 + f k

def Bytes (f : Nat → Int) (n : Nat) : Prop := ∀ i, i < n → 0 ≤ f i ∧ f i ≤ 255

theorem Bytes.mono {f : Nat → Int} {n m : Nat} (h : Bytes f n) (hm : m ≤ n) : Bytes f m := fun i hi => h i (by omega)

theorem sumTo_bd (f : Nat → Int) : ∀ k, Bytes f k → 0 ≤ sumTo f k ∧ sumTo f k < 256 ^ k
  | 0, _ => by simp [sumTo]
  | k + 1, h => by
    have ih := sumTo_bd f k (h.mono (by omega))
    have hk := h k (by omega)
    simp only [sumTo, Int.pow_succ]
    generalize (256 : Int) ^ k = p at *
    omega

theorem pow8 {k : Nat} (h : k ≤ 8) : (256 : Int) ^ k ≤ 18446744073709551616 := by
  have h1 : (256 : Nat) ^ k ≤ 256 ^ 8 := Nat.pow_le_pow_right (by omega) h
  have h2 : ((256 ^ k : Nat) : Int) = (256 : Int) ^ k := by simp
  have h3 : (256 : Nat) ^ 8 = 18446744073709551616 := by decide
  omega

theorem pow7 {k : Nat} (h : k < 8) : (256 : Int) ^ k ≤ 72057594037927936 := by
  have h1 : (256 : Nat) ^ k ≤ 256 ^ 7 := Nat.pow_le_pow_right (by omega) (by omega)
  have h2 : ((256 ^ k : Nat) : Int) = (256 : Int) ^ k := by simp
  have h3 : (256 : Nat) ^ 7 = 72057594037927936 := by decide
  omega

theorem sumTo_small (f : Nat → Int) (k : Nat) (hk : k < 8) (h : Bytes f k) : 0 ≤ sumTo f k ∧ sumTo f k < 72057594037927936 := by
  have := sumTo_bd f k h
  have := pow7 hk
  omega

theorem sumTo_le8 (f : Nat → Int) (k : Nat) (hk : k ≤ 8) (h : Bytes f k) : 0 ≤ sumTo f k ∧ sumTo f k < 18446744073709551616 := by
  have := sumTo_bd f k h
  have := pow8 hk
  omega

theorem or_join (s d : Int) (h0 : 0 ≤ s) (h1 : s < 72057594037927936) (h2 : 0 ≤ d) (h3 : d ≤ 255) :
    bits .or .u64 (IntKind.u64.wrap (s * 256)) d = s * 256 + d := by
  have e : IntKind.u64.wrap (s * 256) = s * 256 := by simp [IntKind.wrap, IntKind.bits, IntKind.signed]; omega
  rw [e, u64_or (s * 256) d (by omega) (by omega) (by omega) (by omega), nat_join8 _ _ (by omega) (by omega)]
  omega

theorem or_join' (s d : Int) (h0 : 0 ≤ s) (h1 : s < 72057594037927936) (h2 : 0 ≤ d) (h3 : d ≤ 255) :
    bits .or .u64 (s * 256) d = s * 256 + d := by
  rw [u64_or (s * 256) d (by omega) (by omega) (by omega) (by omega), nat_join8 _ _ (by omega) (by omega)]
  omega

/-- The first byte without the mark of numbers below 0. -/
def clr (c : Int) : Int := if c / 16 % 2 = 1 then c - 16 else c

theorem clr_of : ∀ n : Fin 256, bits .andNot .u8 (n.val : Int) 16 = clr (n.val : Int) := by decide +kernel

theorem andNot16 (c : Int) (h0 : 0 ≤ c) (h1 : c ≤ 255) : bits .andNot .u8 c 16 = clr c := by
  have := clr_of ⟨c.toNat, by omega⟩
  simpa [Int.toNat_of_nonneg h0] using this

theorem clr_bd (c : Int) (h0 : 0 ≤ c) (h1 : c ≤ 255) : 0 ≤ clr c ∧ clr c ≤ 255 := by
  unfold clr; split <;> omega

/-- The k lowest bytes of x, the highest first. -/
def digs (x : Int) : Nat → List Int
  | 0 => []
  | k + 1 => (x / 2 ^ (8 * k) % 256) :: digs x k

/-- How many bytes the number wants. -/
def many (x : Int) : Nat := (Lib.bitLen x.toNat + 7) / 8

/-- The number without its sign, as it is written. -/
def bare (n : Int) : Int := if n < 0 then -1 - n else n

/-- The bytes of the number n. -/
def num (n : Int) : List Int := ((if n < 0 then 16 else 0) + (many (bare n) : Int)) :: digs (bare n) (many (bare n))

theorem digs_length (x : Int) : ∀ k, (digs x k).length = k
  | 0 => rfl
  | k + 1 => by simp [digs, digs_length x k]

/-- Of the k + j lowest bytes of x the j highest ones. -/
def top (x : Int) (k : Nat) : Nat → List Int
  | 0 => []
  | j + 1 => top x (k + 1) j ++ [x / 2 ^ (8 * k) % 256]

theorem digs_top (x : Int) : ∀ (j k : Nat), digs x (k + j) = top x k j ++ digs x k
  | 0, k => by simp [top]
  | j + 1, k => by
    rw [show k + (j + 1) = (k + 1) + j by omega, digs_top x j (k + 1)]
    simp [top, digs]

theorem digs_is_top (x : Int) (k : Nat) : digs x k = top x 0 k := by
  have := digs_top x k 0
  simpa [digs] using this

theorem bare_bd {n : Int} (h0 : -9223372036854775808 ≤ n) (h1 : n ≤ 9223372036854775807) : 0 ≤ bare n ∧ bare n ≤ 9223372036854775807 := by
  unfold bare; split <;> omega

theorem bitLen_bd {x : Int} (h1 : x ≤ 9223372036854775807) : Lib.bitLen x.toNat ≤ 63 :=
  Lib.bitLen_le _ 63 (by decide) (by have : (2 : Nat) ^ 63 = 9223372036854775808 := by decide
                                     omega)

theorem many_le {x : Int} (h1 : x ≤ 9223372036854775807) : many x ≤ 8 := by
  have := bitLen_bd h1
  unfold many; omega

theorem num_length (n : Int) : (num n).length = 1 + many (bare n) := by simp [num, digs_length]; omega

theorem num_pos (n : Int) : 0 < (num n).length := by rw [num_length]; omega

theorem num_le {n : Int} (h0 : -9223372036854775808 ≤ n) (h1 : n ≤ 9223372036854775807) : (num n).length ≤ 9 := by
  rw [num_length]
  have := many_le (bare_bd h0 h1).2
  omega

/-- The bytes of a text. -/
def sb (s : ByteArray) : List Int := s.data.toList.map fun b => (b.toNat : Int)

theorem sb_length (s : ByteArray) : (sb s).length = s.size := by
  unfold sb; rw [List.length_map, Array.length_toList]; rfl

theorem sb_bytes (s : ByteArray) : ∀ x ∈ sb s, 0 ≤ x ∧ x ≤ 255 := by
  intro x hx
  obtain ⟨b, _, rfl⟩ := List.mem_map.1 hx
  have := b.toNat_lt
  omega

end Go.Proofs.Ytiepgocbgjdhpaa.Plain
