/-
  Plain facts: what is put is got, a number has one form.
-/
import Derived.Test.YtiepgocbgjdhpaaText
namespace Go.Proofs.Ytiepgocbgjdhpaa.Math
open Plain Get GetText

theorem sumTo_congr {f g : Nat → Int} : ∀ (k : Nat), (∀ i, i < k → f i = g i) → sumTo f k = sumTo g k
  | 0, _ => rfl
  | k + 1, h => by rw [sumTo, sumTo, sumTo_congr k (fun i hi => h i (by omega)), h k (by omega)]

theorem pow_succ8 (k : Nat) : (2 : Int) ^ (8 * (k + 1)) = 2 ^ (8 * k) * 256 := by
  rw [show 8 * (k + 1) = 8 * k + 8 by omega, Int.pow_add]; rfl

theorem pow_pos8 (k : Nat) : (0 : Int) < 2 ^ k := Int.pow_pos (by decide)

theorem pow_256 : ∀ k : Nat, (256 : Int) ^ k = 2 ^ (8 * k)
  | 0 => rfl
  | k + 1 => by rw [pow_succ8, Int.pow_succ, pow_256 k]

theorem sumTo_low (f : Nat → Int) : ∀ k, Bytes f (k + 1) → 1 ≤ f 0 → 2 ^ (8 * k) ≤ sumTo f (k + 1)
  | 0, _, h => by simp [sumTo]; omega
  | k + 1, hb, h => by
    have ih := sumTo_low f k (hb.mono (by omega)) h
    have hk := hb (k + 1) (by omega)
    rw [sumTo, pow_succ8]
    generalize (2 : Int) ^ (8 * k) = p at *
    omega

/-- One byte more at the low end. -/
theorem digs_snoc (s d : Int) (h0 : 0 ≤ d) (h1 : d ≤ 255) : ∀ k, digs (s * 256 + d) (k + 1) = digs s k ++ [d]
  | 0 => by simp [digs]; omega
  | k + 1 => by
    rw [digs, digs_snoc s d h0 h1 k]
    rw [digs]
    have e : (s * 256 + d) / 2 ^ (8 * (k + 1)) = s / 2 ^ (8 * k) := by
      rw [pow_succ8, Int.mul_comm (2 ^ (8 * k)) 256, ← Int.ediv_ediv_of_nonneg (by decide)]
      congr 1; omega
    rw [e]; rfl

theorem digs_sum (f : Nat → Int) : ∀ k, Bytes f k → digs (sumTo f k) k = (List.range k).map f
  | 0, _ => rfl
  | k + 1, h => by
    have hk := h k (by omega)
    rw [sumTo, digs_snoc _ _ hk.1 hk.2, digs_sum f k (h.mono (by omega)), List.range_succ, List.map_append]; rfl

theorem sum_digs : ∀ (k : Nat) (x : Int), 0 ≤ x → x < 2 ^ (8 * k) → sumTo (fun i => (digs x k).getD i 0) k = x
  | 0, x, h0, h1 => by simp at h1; simp [sumTo]; omega
  | k + 1, x, h0, h1 => by
    rw [pow_succ8] at h1
    have e : digs x (k + 1) = digs (x / 256) k ++ [x % 256] := by
      have := digs_snoc (x / 256) (x % 256) (by omega) (by omega) k
      rw [show x / 256 * 256 + x % 256 = x by omega] at this
      exact this
    have hl := digs_length (x / 256) k
    rw [sumTo, e]
    have e1 : sumTo (fun i => (digs (x / 256) k ++ [x % 256]).getD i 0) k = x / 256 := by
      rw [sumTo_congr k (g := fun i => (digs (x / 256) k).getD i 0) (fun i hi => by simp [List.getElem?_append, hl, hi])]
      exact sum_digs k (x / 256) (by omega) (by have := pow_pos8 (8 * k); omega)
    rw [e1]
    simp [hl]
    omega

theorem digs_bytes (x : Int) : ∀ k, ∀ d ∈ digs x k, 0 ≤ d ∧ d ≤ 255
  | 0, d, h => by simp [digs] at h
  | k + 1, d, h => by
    rw [digs, List.mem_cons] at h
    rcases h with rfl | h
    · omega
    · exact digs_bytes x k d h

theorem bitLen_ge (x k : Nat) (h : 2 ^ k ≤ x) (hx : x < 2 ^ 64) : k + 1 ≤ Lib.bitLen x := by
  rw [Lib.bitLen_shift k x h hx]
  have h1 : x / 2 ^ k ≠ 0 := by
    have := Nat.div_pos h (Nat.two_pow_pos k); omega
  rw [Lib.bitLen_half (x / 2 ^ k) h1 (Nat.lt_of_le_of_lt (Nat.div_le_self _ _) hx)]
  omega

/-- The number of bytes, by its bounds. -/
theorem many_eq (x : Int) (k : Nat) (hk : k ≤ 7) (h0 : 2 ^ (8 * k) ≤ x) (h1 : x < 2 ^ (8 * (k + 1))) : many x = k + 1 := by
  have hx0 : 0 ≤ x := Int.le_trans (Int.le_of_lt (pow_pos8 _)) h0
  obtain ⟨n, rfl⟩ := Int.eq_ofNat_of_zero_le hx0
  have h0' : 2 ^ (8 * k) ≤ n := by exact_mod_cast h0
  have h1' : n < 2 ^ (8 * (k + 1)) := by exact_mod_cast h1
  have hp : 2 ^ (8 * (k + 1)) ≤ 2 ^ 64 := Nat.pow_le_pow_right (by decide) (by omega)
  have hg := bitLen_ge n (8 * k) h0' (by omega)
  have hl := Lib.bitLen_le n (8 * (k + 1)) (by omega) h1'
  unfold many
  rw [Int.toNat_natCast]
  omega

theorem many_zero : many 0 = 0 := by decide +kernel

/-- The highest byte isn't 0, all of them are the number. -/
theorem many_bd (x : Int) (h0 : 0 < x) (h1 : x ≤ 9223372036854775807) : ∃ k, many x = k + 1 ∧ k ≤ 7 ∧ 2 ^ (8 * k) ≤ x ∧ x < 2 ^ (8 * (k + 1)) := by
  have ex : ∃ k : Nat, k ≤ 7 ∧ (2 : Int) ^ (8 * k) ≤ x ∧ x < 2 ^ (8 * (k + 1)) := by
    by_cases c0 : x < 256
    · exact ⟨0, by decide, by simp; omega, by simpa using c0⟩
    by_cases c1 : x < 65536
    · exact ⟨1, by decide, by simp; omega, by simpa using c1⟩
    by_cases c2 : x < 16777216
    · exact ⟨2, by decide, by simp; omega, by simpa using c2⟩
    by_cases c3 : x < 4294967296
    · exact ⟨3, by decide, by simp; omega, by simpa using c3⟩
    by_cases c4 : x < 1099511627776
    · exact ⟨4, by decide, by simp; omega, by simpa using c4⟩
    by_cases c5 : x < 281474976710656
    · exact ⟨5, by decide, by simp; omega, by simpa using c5⟩
    by_cases c6 : x < 72057594037927936
    · exact ⟨6, by decide, by simp; omega, by simpa using c6⟩
    · exact ⟨7, by decide, by simp; omega, by simp; omega⟩
  obtain ⟨k, hk, a, b⟩ := ex
  exact ⟨k, many_eq x k hk a b, hk, a, b⟩

theorem clr_small (c : Int) : c = clr c ∨ c = 16 + clr c := by
  unfold clr
  by_cases hc : c / 16 % 2 = 1
  · rw [if_pos hc]; omega
  · rw [if_neg hc]; omega

/-- The first byte of n, and what it tells. -/
theorem head_clr (n : Int) (k : Int) (h0 : 0 ≤ k) (h1 : k ≤ 8) : clr ((if n < 0 then 16 else 0) + k) = k ∧ (16 ≤ (if n < 0 then 16 else 0) + k ↔ n < 0) := by
  unfold clr
  by_cases hn : n < 0
  · rw [if_pos hn]
    refine ⟨?_, fun _ => hn, fun _ => by omega⟩
    split <;> omega
  · rw [if_neg hn]
    refine ⟨?_, fun _ => by omega, fun c => absurd c hn⟩
    split <;> omega

/-- The bytes f from the place p on are those of n. -/
def At (f : Nat → Int) (p : Nat) (l : List Int) : Prop := ∀ i, i < l.length → f (p + i) = l.getD i 0

/-- What is put is got, whatever is ahead and behind. -/
theorem got_num (f : Nat → Int) (m p : Nat) (n : Int) (h0 : -9223372036854775808 ≤ n) (h1 : n ≤ 9223372036854775807) (h : At f p (num n)) (hm : p + (num n).length ≤ m) :
    got f m p = (n, ((p + (num n).length : Nat) : Int), 0) := by
  have hb := bare_bd h0 h1
  have hle := many_le hb.2
  have hl := num_length n
  have f0 : f p = (if n < 0 then 16 else 0) + (many (bare n) : Int) := by
    have := h 0 (num_pos n)
    simpa [num] using this
  have fi : ∀ i, i < many (bare n) → f (p + 1 + i) = (digs (bare n) (many (bare n))).getD i 0 := fun i hi => by
    have := h (1 + i) (by omega)
    rw [← Nat.add_assoc] at this
    rw [this, num, Nat.add_comm 1 i]; simp
  obtain ⟨hc, hs⟩ := head_clr n (many (bare n)) (by omega) (by omega)
  rw [← f0] at hc hs
  have hv : n = if 16 ≤ f p then -1 - bare n else bare n := by
    unfold bare
    by_cases hn : n < 0
    · rw [if_pos (hs.2 hn), if_pos hn]; omega
    · rw [if_neg (fun c => hn (hs.1 c)), if_neg hn]
  unfold got
  rw [if_neg (by omega), if_neg (by omega), Int.toNat_natCast, hc, if_neg (by omega)]
  by_cases hz : bare n = 0
  · have hk : many (bare n) = 0 := by rw [hz]; exact many_zero
    rw [if_pos (by omega)]
    refine Prod.ext ?_ (Prod.ext ?_ rfl)
    · simp only; rw [hz] at hv; rw [hv]; rfl
    · simp only; omega
  · obtain ⟨k, hk, hk7, ha, hbb⟩ := many_bd (bare n) (by omega) hb.2
    have hsum : sumTo (fun i => f (p + 1 + i)) (many (bare n)) = bare n := by
      rw [sumTo_congr _ fi]
      exact sum_digs _ _ hb.1 (by rw [hk]; exact hbb)
    have hne : ¬ f (p + 1) = 0 := by
      have := fi 0 (by omega)
      rw [Nat.add_zero] at this
      rw [this, hk, digs]
      simp only [List.getD_cons_zero]
      have hq : bare n / 2 ^ (8 * k) < 256 := Int.ediv_lt_of_lt_mul (pow_pos8 _) (by rw [pow_succ8] at hbb; rw [Int.mul_comm]; exact hbb)
      have hq0 : 1 ≤ bare n / 2 ^ (8 * k) := (Int.le_ediv_iff_mul_le (pow_pos8 _)).2 (by omega)
      omega
    rw [if_neg (by omega), if_neg hne, Int.toNat_natCast, hsum, if_neg (by omega)]
    refine Prod.ext ?_ (Prod.ext ?_ rfl)
    · exact hv.symm
    · simp only; omega

/-- A number has one form: what is got, put again, is the same bytes. -/
theorem num_got (f : Nat → Int) (m : Nat) (p v nx : Int) (hr : Bytes f m) (hg : got f m p = (v, nx, 0)) :
    0 ≤ p ∧ p < nx ∧ nx ≤ m ∧ -9223372036854775808 ≤ v ∧ v ≤ 9223372036854775807 ∧ num v = seg f p.toNat (nx - p).toNat := by
  unfold got at hg
  by_cases h1 : p < 0 ∨ (m : Int) < p
  · rw [if_pos h1] at hg; simp at hg
  rw [if_neg h1] at hg
  by_cases h2 : p = m
  · rw [if_pos h2] at hg; simp at hg
  rw [if_neg h2] at hg
  have hp : p.toNat < m := by omega
  have hrp := hr _ hp
  have hb := clr_bd _ hrp.1 hrp.2
  by_cases h3 : 8 < clr (f p.toNat) ∨ (m : Int) - p - 1 < clr (f p.toNat)
  · rw [if_pos h3] at hg; simp at hg
  rw [if_neg h3] at hg
  have hcs := clr_small (f p.toNat)
  by_cases h4 : clr (f p.toNat) = 0
  · rw [if_pos h4] at hg
    simp only [Prod.mk.injEq, and_true] at hg
    obtain ⟨hv, hnx⟩ := hg
    have e : (nx - p).toNat = 1 := by omega
    refine ⟨by omega, by omega, by omega, ?_, ?_, ?_⟩
    · split at hv <;> omega
    · split at hv <;> omega
    · rw [e]
      rw [h4] at hcs
      rcases hcs with hc | hc
      · rw [hc] at hv
        simp at hv
        subst hv
        have : num 0 = [0] := by decide +kernel
        rw [this]; simp [seg, hc]
      · rw [hc] at hv
        simp at hv
        subst hv
        have : num (-1) = [16] := by decide +kernel
        rw [this]; simp [seg, hc]
  rw [if_neg h4] at hg
  by_cases h5 : f (p.toNat + 1) = 0
  · rw [if_pos h5] at hg; simp at hg
  rw [if_neg h5] at hg
  obtain ⟨K, hK⟩ := Int.eq_ofNat_of_zero_le hb.1
  rw [hK, Int.toNat_natCast] at hg
  rw [hK] at h3 h4 hcs
  obtain ⟨k, rfl⟩ : ∃ k, K = k + 1 := ⟨K - 1, by omega⟩
  have hB : Bytes (fun i => f (p.toNat + 1 + i)) (k + 1) := fun i hi => hr _ (by omega)
  have hbd := sumTo_bd _ _ hB
  by_cases h6 : 9223372036854775807 < sumTo (fun i => f (p.toNat + 1 + i)) (k + 1)
  · rw [if_pos h6] at hg; simp at hg
  rw [if_neg h6] at hg
  have hd := digs_sum _ _ hB
  have hlow : (2 : Int) ^ (8 * k) ≤ sumTo (fun i => f (p.toNat + 1 + i)) (k + 1) :=
    sumTo_low _ k hB (by have := hB 0 (by omega); simp only [Nat.add_zero] at this ⊢; omega)
  have hhigh : sumTo (fun i => f (p.toNat + 1 + i)) (k + 1) < 2 ^ (8 * (k + 1)) := by
    rw [← pow_256]; exact hbd.2
  have hmany := many_eq _ k (by omega) hlow hhigh
  generalize sumTo (fun i => f (p.toNat + 1 + i)) (k + 1) = S at *
  simp only [Prod.mk.injEq, and_true] at hg
  obtain ⟨hv, hnx⟩ := hg
  have e : (nx - p).toNat = 1 + (k + 1) := by omega
  have hS : bare v = S := by
    unfold bare; split at hv <;> split <;> omega
  refine ⟨by omega, by omega, by omega, ?_, ?_, ?_⟩
  · split at hv <;> omega
  · split at hv <;> omega
  · have e0 : (if v < 0 then (16 : Int) else 0) + ((k + 1 : Nat) : Int) = f p.toNat := by
      split at hv <;> split <;> omega
    have es : seg f p.toNat (1 + (k + 1)) = f p.toNat :: (List.range (k + 1)).map (fun i => f (p.toNat + 1 + i)) := by
      rw [seg, Nat.add_comm 1 (k + 1), List.range_succ_eq_map, List.map_cons, List.map_map, Nat.add_zero]
      refine congrArg (List.cons _) ?_
      apply List.map_congr_left
      intro i _
      simp only [Function.comp]
      rw [show p.toNat + 1 + i = p.toNat + i.succ by omega]
    rw [num, hS, hmany, hd, e, es, e0]

end Go.Proofs.Ytiepgocbgjdhpaa.Math
