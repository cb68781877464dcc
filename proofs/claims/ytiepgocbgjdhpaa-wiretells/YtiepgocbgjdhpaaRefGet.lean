/-
  What the document's own Get answers (plnref1.Get), as a contract of the translated code: the same as wire.Get.
-/
import Derived.Test.YtiepgocbgjdhpaaProg
import Derived.Test.YtiepgocbgjdhpaaText
import Derived.WalkKit
import Derived.ProofKit
import Derived.WalkSpells
import Derived.Deep.Light
namespace Go.Proofs.Ytiepgocbgjdhpaa.RefGet
open Go.RowKit Plain Get GetText Cv

set_option linter.unusedVariables false

/-- What is told of the bytes' sum S, v the number that it stands for. -/
def told (S v p K : Int) : Value := if 9223372036854775807 < S then .tuple #[.int .i64 0, .int .i64 0, .int .i64 1] else .tuple #[.int .i64 v, .int .i64 (p + 1 + K), .int .i64 0]

theorem rget_out (a : Option Addr) (n c : Nat) (p : Int) (w : World) (h : p < 0 ∨ (n : Int) < p) :
    Calls Try.prog 9 #[.slice a n c, .int .i64 p] w fun e w' => e = .returned (.tuple #[.int .i64 0, .int .i64 0, .int .i64 8]) ∧ w' = w := by
  by_cases h0 : p < 0
  · go_enter Try.func9, Try.ntmps9
    go_wp2
    go_ret3
    exact ⟨rfl, rfl⟩
  · have h1 : (n : Int) < p := by omega
    have h2 : decide (p < 0) = false := by simpa using h0
    go_enter Try.func9, Try.ntmps9
    go_wp2
    go_ret3
    exact ⟨rfl, rfl⟩

theorem rget_end (a : Option Addr) (n c : Nat) (w : World) :
    Calls Try.prog 9 #[.slice a n c, .int .i64 n] w fun e w' => e = .returned (.tuple #[.int .i64 0, .int .i64 0, .int .i64 1]) ∧ w' = w := by
  have h0 : ¬ ((n : Int) < 0) := by omega
  have h2 : decide ((n : Int) < 0) = false := by simp
  go_enter Try.func9, Try.ntmps9
  go_wp2
  go_ret3
  exact ⟨rfl, rfl⟩

theorem rget_plain_far (b off n c p K : Nat) (f : Nat → Int) (w : World) (hp : p < n) (hnc : n ≤ c) (hm : c ≤ maxLen) (hr : Bytes f n)
   (hc : ∀ i, i < n → w.cell? ⟨b, off + i, none⟩ = some (.int .u8 (f i))) (hf : f p = (K : Int)) (hK16 : K < 16) (hz : (8 : Int) < K) :
    Calls Try.prog 9 #[.slice (some ⟨b, off, none⟩) n c, .int .i64 p] w fun e w' => e = .returned (.tuple #[.int .i64 0, .int .i64 0, .int .i64 1]) ∧ w' = w := by
  unfold maxLen at hm
  have h2 : decide ((p : Int) < 0) = false := by simp
  have h2' : ¬ n < p := by omega
  have h2'' : decide (n < p) = false := by simpa using h2'
  have h3 : ((p : Int) == (n : Int)) = false := by simp; omega
  have h4 : (0 : Int) ≤ p := by omega
  have h5 : (p : Int) < n := by omega
  have h6 : (p : Int) + 1 ≤ n := by omega
  have hcp := hc p hp
  rw [hf] at hcp
  clear hf
  clear hc hr
  go_enter Try.func9, Try.ntmps9
  go_wp2
  go_ret3
  exact ⟨rfl, rfl⟩

theorem rget_plain_cut (b off n c p K : Nat) (f : Nat → Int) (w : World) (hp : p < n) (hnc : n ≤ c) (hm : c ≤ maxLen) (hr : Bytes f n)
   (hc : ∀ i, i < n → w.cell? ⟨b, off + i, none⟩ = some (.int .u8 (f i))) (hf : f p = (K : Int)) (hK16 : K < 16) (hz : decide ((8 : Int) < K) = false) (hz' : (K : Int) ≤ 8) (hy : (n : Int) - p - 1 < K) :
    Calls Try.prog 9 #[.slice (some ⟨b, off, none⟩) n c, .int .i64 p] w fun e w' => e = .returned (.tuple #[.int .i64 0, .int .i64 0, .int .i64 1]) ∧ w' = w := by
  unfold maxLen at hm
  have h2 : decide ((p : Int) < 0) = false := by simp
  have h2' : ¬ n < p := by omega
  have h2'' : decide (n < p) = false := by simpa using h2'
  have h3 : ((p : Int) == (n : Int)) = false := by simp; omega
  have h4 : (0 : Int) ≤ p := by omega
  have h5 : (p : Int) < n := by omega
  have h6 : (p : Int) + 1 ≤ n := by omega
  have hcp := hc p hp
  rw [hf] at hcp
  clear hf
  clear hc hr
  go_enter Try.func9, Try.ntmps9
  go_wp2
  go_ret3
  exact ⟨rfl, rfl⟩

theorem rget_plain_lead (b off n c p K : Nat) (f : Nat → Int) (w : World) (hp : p < n) (hnc : n ≤ c) (hm : c ≤ maxLen) (hr : Bytes f n)
   (hc : ∀ i, i < n → w.cell? ⟨b, off + i, none⟩ = some (.int .u8 (f i))) (hf : f p = (K : Int)) (hK16 : K < 16) (hz : decide ((8 : Int) < K) = false) (hz' : (K : Int) ≤ 8) (hy : decide ((n : Int) - p - 1 < K) = false) (hy' : (K : Int) ≤ (n : Int) - p - 1) (h0 : (0 : Int) < K) (hl : (f (p + 1) == 0) = true) :
    Calls Try.prog 9 #[.slice (some ⟨b, off, none⟩) n c, .int .i64 p] w fun e w' => e = .returned (.tuple #[.int .i64 0, .int .i64 0, .int .i64 1]) ∧ w' = w := by
  unfold maxLen at hm
  have h2 : decide ((p : Int) < 0) = false := by simp
  have h2' : ¬ n < p := by omega
  have h2'' : decide (n < p) = false := by simpa using h2'
  have h3 : ((p : Int) == (n : Int)) = false := by simp; omega
  have h4 : (0 : Int) ≤ p := by omega
  have h5 : (p : Int) < n := by omega
  have h6 : (p : Int) + 1 ≤ n := by omega
  have hcp := hc p hp
  rw [hf] at hcp
  clear hf
  have hc1 := hc (p + 1) (by omega)
  have h0' : 0 < K := by omega
  have hix : (p : Int) + 1 < n := by omega
  clear hc hr
  go_enter Try.func9, Try.ntmps9
  go_wp2
  go_ret3
  exact ⟨rfl, rfl⟩

set_option maxHeartbeats 1000000 in
theorem rget_plain_num (b off n c p K : Nat) (f : Nat → Int) (w : World) (hp : p < n) (hnc : n ≤ c) (hm : c ≤ maxLen) (hr : Bytes f n)
   (hc : ∀ i, i < n → w.cell? ⟨b, off + i, none⟩ = some (.int .u8 (f i))) (hf : f p = (K : Int)) (hK16 : K < 16) (hz : decide ((8 : Int) < K) = false) (hz' : (K : Int) ≤ 8) (hy : decide ((n : Int) - p - 1 < K) = false) (hy' : (K : Int) ≤ (n : Int) - p - 1) (hl : 0 < K → (f (p + 1) == 0) = false) (S : Int) (hSum : sumTo (fun i => f (p + 1 + i)) K = S) :
    Calls Try.prog 9 #[.slice (some ⟨b, off, none⟩) n c, .int .i64 p] w fun e w' => e = .returned (told S (S) p K) ∧ w' = w := by
  unfold maxLen at hm
  have h2 : decide ((p : Int) < 0) = false := by simp
  have h2' : ¬ n < p := by omega
  have h2'' : decide (n < p) = false := by simpa using h2'
  have h3 : ((p : Int) == (n : Int)) = false := by simp; omega
  have h4 : (0 : Int) ≤ p := by omega
  have h5 : (p : Int) < n := by omega
  have h6 : (p : Int) + 1 ≤ n := by omega
  have hcp := hc p hp
  rw [hf] at hcp
  clear hf
  have HSum := hide hSum
  clear hSum
  by_cases h0 : 0 < K
  · have h0' : (0 : Int) < K := by omega
    have hl' : (f (p + 1) == 0) = false := hl h0
    have hix : (p : Int) + 1 < n := by omega
    have hc1 := hc (p + 1) (by omega)
    have HC := hide hc
    have HR := hide hr
    clear hc hr hl
    go_enter Try.func9, Try.ntmps9
    go_wp2
    go_loop [9, 10] (fun s i => ∃ k : Nat, k ≤ K ∧ i = .int .i64 k ∧ s = .int .u64 (sumTo (fun i => f (p + 1 + i)) k)) (fun _ i => K - (intOf i).toNat)
    case atStart => exact ⟨0, Nat.zero_le _, rfl, rfl⟩
    case round =>
      obtain ⟨k, hk, rfl, rfl⟩ := hrel
      by_cases hlt : k < K
      · have hck := HC.out (p + 1 + k) (by omega)
        have hrk := HR.out (p + 1 + k) (by omega)
        have hB : Bytes (fun i => f (p + 1 + i)) k := fun i hi => HR.out (p + 1 + i) (by omega)
        have hs := sumTo_small (fun i => f (p + 1 + i)) k (by omega) hB
        have hix : (p : Int) + 1 + k < n := by omega
        have HS := hide (or_join' (sumTo (fun i => f (p + 1 + i)) k) (f (p + 1 + k)) hs.1 hs.2 hrk.1 hrk.2)
        clear hB
        go_wp2
        go_round
        case rel => exact ⟨k + 1, by omega, by go_num, by rw [HS.out]; rfl⟩
        case measure => simp [intOf]; omega
      · obtain rfl : k = K := by omega
        have hB : Bytes (fun i => f (p + 1 + i)) k := fun i hi => HR.out (p + 1 + i) (by omega)
        have hs := sumTo_le8 (fun i => f (p + 1 + i)) k (by omega) hB
        rw [HSum.out] at hs
        rw [HSum.out]
        by_cases hbig : 9223372036854775807 < S
        · go_wp2
          go_ret3
          exact ⟨by rw [told, if_pos hbig]; rfl, rfl⟩
        · have hbig' : S ≤ 9223372036854775807 := by omega
          go_wp2
          go_ret3
          exact ⟨by rw [told, if_neg (by omega)]; rfl, rfl⟩
  · have h0' : decide ((0 : Int) < K) = false := by simpa using h0
    have h0'' : decide (0 < K) = false := by simpa using h0
    have HC := hide hc
    have HR := hide hr
    clear hc hr hl
    go_enter Try.func9, Try.ntmps9
    go_wp2
    go_loop [9, 10] (fun s i => ∃ k : Nat, k ≤ K ∧ i = .int .i64 k ∧ s = .int .u64 (sumTo (fun i => f (p + 1 + i)) k)) (fun _ i => K - (intOf i).toNat)
    case atStart => exact ⟨0, Nat.zero_le _, rfl, rfl⟩
    case round =>
      obtain ⟨k, hk, rfl, rfl⟩ := hrel
      by_cases hlt : k < K
      · have hck := HC.out (p + 1 + k) (by omega)
        have hrk := HR.out (p + 1 + k) (by omega)
        have hB : Bytes (fun i => f (p + 1 + i)) k := fun i hi => HR.out (p + 1 + i) (by omega)
        have hs := sumTo_small (fun i => f (p + 1 + i)) k (by omega) hB
        have hix : (p : Int) + 1 + k < n := by omega
        have HS := hide (or_join' (sumTo (fun i => f (p + 1 + i)) k) (f (p + 1 + k)) hs.1 hs.2 hrk.1 hrk.2)
        clear hB
        go_wp2
        go_round
        case rel => exact ⟨k + 1, by omega, by go_num, by rw [HS.out]; rfl⟩
        case measure => simp [intOf]; omega
      · obtain rfl : k = K := by omega
        have hB : Bytes (fun i => f (p + 1 + i)) k := fun i hi => HR.out (p + 1 + i) (by omega)
        have hs := sumTo_le8 (fun i => f (p + 1 + i)) k (by omega) hB
        rw [HSum.out] at hs
        rw [HSum.out]
        by_cases hbig : 9223372036854775807 < S
        · go_wp2
          go_ret3
          exact ⟨by rw [told, if_pos hbig]; rfl, rfl⟩
        · have hbig' : S ≤ 9223372036854775807 := by omega
          go_wp2
          go_ret3
          exact ⟨by rw [told, if_neg (by omega)]; rfl, rfl⟩

theorem rget_below_far (b off n c p K : Nat) (f : Nat → Int) (w : World) (hp : p < n) (hnc : n ≤ c) (hm : c ≤ maxLen) (hr : Bytes f n)
   (hc : ∀ i, i < n → w.cell? ⟨b, off + i, none⟩ = some (.int .u8 (f i))) (hf : f p = 16 + (K : Int)) (hK16 : K < 240) (hz : (8 : Int) < K) :
    Calls Try.prog 9 #[.slice (some ⟨b, off, none⟩) n c, .int .i64 p] w fun e w' => e = .returned (.tuple #[.int .i64 0, .int .i64 0, .int .i64 1]) ∧ w' = w := by
  unfold maxLen at hm
  have h2 : decide ((p : Int) < 0) = false := by simp
  have h2' : ¬ n < p := by omega
  have h2'' : decide (n < p) = false := by simpa using h2'
  have h3 : ((p : Int) == (n : Int)) = false := by simp; omega
  have h4 : (0 : Int) ≤ p := by omega
  have h5 : (p : Int) < n := by omega
  have h6 : (p : Int) + 1 ≤ n := by omega
  have hcp := hc p hp
  rw [hf] at hcp
  clear hf
  have hsub : (16 : Int) + K - 16 = K := by omega
  clear hc hr
  go_enter Try.func9, Try.ntmps9
  go_wp2
  go_ret3
  exact ⟨rfl, rfl⟩

theorem rget_below_cut (b off n c p K : Nat) (f : Nat → Int) (w : World) (hp : p < n) (hnc : n ≤ c) (hm : c ≤ maxLen) (hr : Bytes f n)
   (hc : ∀ i, i < n → w.cell? ⟨b, off + i, none⟩ = some (.int .u8 (f i))) (hf : f p = 16 + (K : Int)) (hK16 : K < 240) (hz : decide ((8 : Int) < K) = false) (hz' : (K : Int) ≤ 8) (hy : (n : Int) - p - 1 < K) :
    Calls Try.prog 9 #[.slice (some ⟨b, off, none⟩) n c, .int .i64 p] w fun e w' => e = .returned (.tuple #[.int .i64 0, .int .i64 0, .int .i64 1]) ∧ w' = w := by
  unfold maxLen at hm
  have h2 : decide ((p : Int) < 0) = false := by simp
  have h2' : ¬ n < p := by omega
  have h2'' : decide (n < p) = false := by simpa using h2'
  have h3 : ((p : Int) == (n : Int)) = false := by simp; omega
  have h4 : (0 : Int) ≤ p := by omega
  have h5 : (p : Int) < n := by omega
  have h6 : (p : Int) + 1 ≤ n := by omega
  have hcp := hc p hp
  rw [hf] at hcp
  clear hf
  have hsub : (16 : Int) + K - 16 = K := by omega
  clear hc hr
  go_enter Try.func9, Try.ntmps9
  go_wp2
  go_ret3
  exact ⟨rfl, rfl⟩

theorem rget_below_lead (b off n c p K : Nat) (f : Nat → Int) (w : World) (hp : p < n) (hnc : n ≤ c) (hm : c ≤ maxLen) (hr : Bytes f n)
   (hc : ∀ i, i < n → w.cell? ⟨b, off + i, none⟩ = some (.int .u8 (f i))) (hf : f p = 16 + (K : Int)) (hK16 : K < 240) (hz : decide ((8 : Int) < K) = false) (hz' : (K : Int) ≤ 8) (hy : decide ((n : Int) - p - 1 < K) = false) (hy' : (K : Int) ≤ (n : Int) - p - 1) (h0 : (0 : Int) < K) (hl : (f (p + 1) == 0) = true) :
    Calls Try.prog 9 #[.slice (some ⟨b, off, none⟩) n c, .int .i64 p] w fun e w' => e = .returned (.tuple #[.int .i64 0, .int .i64 0, .int .i64 1]) ∧ w' = w := by
  unfold maxLen at hm
  have h2 : decide ((p : Int) < 0) = false := by simp
  have h2' : ¬ n < p := by omega
  have h2'' : decide (n < p) = false := by simpa using h2'
  have h3 : ((p : Int) == (n : Int)) = false := by simp; omega
  have h4 : (0 : Int) ≤ p := by omega
  have h5 : (p : Int) < n := by omega
  have h6 : (p : Int) + 1 ≤ n := by omega
  have hcp := hc p hp
  rw [hf] at hcp
  clear hf
  have hsub : (16 : Int) + K - 16 = K := by omega
  have hc1 := hc (p + 1) (by omega)
  have h0' : 0 < K := by omega
  have hix : (p : Int) + 1 < n := by omega
  clear hc hr
  go_enter Try.func9, Try.ntmps9
  go_wp2
  go_ret3
  exact ⟨rfl, rfl⟩

set_option maxHeartbeats 1000000 in
theorem rget_below_num (b off n c p K : Nat) (f : Nat → Int) (w : World) (hp : p < n) (hnc : n ≤ c) (hm : c ≤ maxLen) (hr : Bytes f n)
   (hc : ∀ i, i < n → w.cell? ⟨b, off + i, none⟩ = some (.int .u8 (f i))) (hf : f p = 16 + (K : Int)) (hK16 : K < 240) (hz : decide ((8 : Int) < K) = false) (hz' : (K : Int) ≤ 8) (hy : decide ((n : Int) - p - 1 < K) = false) (hy' : (K : Int) ≤ (n : Int) - p - 1) (hl : 0 < K → (f (p + 1) == 0) = false) (S : Int) (hSum : sumTo (fun i => f (p + 1 + i)) K = S) :
    Calls Try.prog 9 #[.slice (some ⟨b, off, none⟩) n c, .int .i64 p] w fun e w' => e = .returned (told S (-1 - S) p K) ∧ w' = w := by
  unfold maxLen at hm
  have h2 : decide ((p : Int) < 0) = false := by simp
  have h2' : ¬ n < p := by omega
  have h2'' : decide (n < p) = false := by simpa using h2'
  have h3 : ((p : Int) == (n : Int)) = false := by simp; omega
  have h4 : (0 : Int) ≤ p := by omega
  have h5 : (p : Int) < n := by omega
  have h6 : (p : Int) + 1 ≤ n := by omega
  have hcp := hc p hp
  rw [hf] at hcp
  clear hf
  have hsub : (16 : Int) + K - 16 = K := by omega
  have HSum := hide hSum
  clear hSum
  by_cases h0 : 0 < K
  · have h0' : (0 : Int) < K := by omega
    have hl' : (f (p + 1) == 0) = false := hl h0
    have hix : (p : Int) + 1 < n := by omega
    have hc1 := hc (p + 1) (by omega)
    have HC := hide hc
    have HR := hide hr
    clear hc hr hl
    go_enter Try.func9, Try.ntmps9
    go_wp2
    go_loop [9, 10] (fun s i => ∃ k : Nat, k ≤ K ∧ i = .int .i64 k ∧ s = .int .u64 (sumTo (fun i => f (p + 1 + i)) k)) (fun _ i => K - (intOf i).toNat)
    case atStart => exact ⟨0, Nat.zero_le _, rfl, rfl⟩
    case round =>
      obtain ⟨k, hk, rfl, rfl⟩ := hrel
      by_cases hlt : k < K
      · have hck := HC.out (p + 1 + k) (by omega)
        have hrk := HR.out (p + 1 + k) (by omega)
        have hB : Bytes (fun i => f (p + 1 + i)) k := fun i hi => HR.out (p + 1 + i) (by omega)
        have hs := sumTo_small (fun i => f (p + 1 + i)) k (by omega) hB
        have hix : (p : Int) + 1 + k < n := by omega
        have HS := hide (or_join' (sumTo (fun i => f (p + 1 + i)) k) (f (p + 1 + k)) hs.1 hs.2 hrk.1 hrk.2)
        clear hB
        go_wp2
        go_round
        case rel => exact ⟨k + 1, by omega, by go_num, by rw [HS.out]; rfl⟩
        case measure => simp [intOf]; omega
      · obtain rfl : k = K := by omega
        have hB : Bytes (fun i => f (p + 1 + i)) k := fun i hi => HR.out (p + 1 + i) (by omega)
        have hs := sumTo_le8 (fun i => f (p + 1 + i)) k (by omega) hB
        rw [HSum.out] at hs
        rw [HSum.out]
        by_cases hbig : 9223372036854775807 < S
        · go_wp2
          go_ret3
          exact ⟨by rw [told, if_pos hbig]; rfl, rfl⟩
        · have hbig' : S ≤ 9223372036854775807 := by omega
          go_wp2
          go_ret3
          exact ⟨by rw [told, if_neg (by omega)]; rfl, rfl⟩
  · have h0' : decide ((0 : Int) < K) = false := by simpa using h0
    have h0'' : decide (0 < K) = false := by simpa using h0
    have HC := hide hc
    have HR := hide hr
    clear hc hr hl
    go_enter Try.func9, Try.ntmps9
    go_wp2
    go_loop [9, 10] (fun s i => ∃ k : Nat, k ≤ K ∧ i = .int .i64 k ∧ s = .int .u64 (sumTo (fun i => f (p + 1 + i)) k)) (fun _ i => K - (intOf i).toNat)
    case atStart => exact ⟨0, Nat.zero_le _, rfl, rfl⟩
    case round =>
      obtain ⟨k, hk, rfl, rfl⟩ := hrel
      by_cases hlt : k < K
      · have hck := HC.out (p + 1 + k) (by omega)
        have hrk := HR.out (p + 1 + k) (by omega)
        have hB : Bytes (fun i => f (p + 1 + i)) k := fun i hi => HR.out (p + 1 + i) (by omega)
        have hs := sumTo_small (fun i => f (p + 1 + i)) k (by omega) hB
        have hix : (p : Int) + 1 + k < n := by omega
        have HS := hide (or_join' (sumTo (fun i => f (p + 1 + i)) k) (f (p + 1 + k)) hs.1 hs.2 hrk.1 hrk.2)
        clear hB
        go_wp2
        go_round
        case rel => exact ⟨k + 1, by omega, by go_num, by rw [HS.out]; rfl⟩
        case measure => simp [intOf]; omega
      · obtain rfl : k = K := by omega
        have hB : Bytes (fun i => f (p + 1 + i)) k := fun i hi => HR.out (p + 1 + i) (by omega)
        have hs := sumTo_le8 (fun i => f (p + 1 + i)) k (by omega) hB
        rw [HSum.out] at hs
        rw [HSum.out]
        by_cases hbig : 9223372036854775807 < S
        · go_wp2
          go_ret3
          exact ⟨by rw [told, if_pos hbig]; rfl, rfl⟩
        · have hbig' : S ≤ 9223372036854775807 := by omega
          go_wp2
          go_ret3
          exact ⟨by rw [told, if_neg (by omega)]; rfl, rfl⟩

theorem clr_plain {c : Int} (h0 : 0 ≤ c) (h : c < 16) : clr c = c := by unfold clr; split <;> omega
theorem clr_mid {c : Int} (h0 : 16 ≤ c) (h : c < 32) : clr c = c - 16 := by unfold clr; split <;> omega
theorem clr_high {c : Int} (h0 : 32 ≤ c) : 8 < clr c := by unfold clr; split <;> omega

theorem rget_any (a : Option Addr) (n c : Nat) (p : Int) (f : Nat → Int) (w : World) (h : Reads w a n c f) :
    Calls Try.prog 9 #[.slice a n c, .int .i64 p] w fun e w' => e = .returned (.tuple #[.int .i64 (got f n p).1, .int .i64 (got f n p).2.1, .int .i64 (got f n p).2.2]) ∧ w' = w := by
  obtain ⟨hnc, hm, hr, hcell⟩ := h
  unfold got
  by_cases h1 : p < 0 ∨ (n : Int) < p
  · rw [if_pos h1]; exact rget_out a n c p w h1
  rw [if_neg h1]
  by_cases h2 : p = n
  · rw [if_pos h2]; subst h2; exact rget_end a n c w
  rw [if_neg h2]
  obtain ⟨p, rfl⟩ := Int.eq_ofNat_of_zero_le (a := p) (by omega)
  simp only [Int.toNat_natCast]
  have hp : p < n := by omega
  obtain ⟨b, off, rfl, hc⟩ := hcell (by omega)
  have hrp := hr p hp
  have hcb := clr_bd (f p) hrp.1 hrp.2
  by_cases hb : 16 ≤ f p
  · obtain ⟨K, hK⟩ := Int.eq_ofNat_of_zero_le (a := f p - 16) (by omega)
    have hf : f p = 16 + (K : Int) := by omega
    by_cases h32 : 32 ≤ f p
    · rw [if_pos (.inl (clr_high h32))]
      exact rget_below_far b off n c p K f w hp hnc hm hr hc hf (by omega) (by omega)
    have hcl : clr (f p) = (K : Int) := by rw [clr_mid hb (by omega)]; omega
    rw [hcl]
    by_cases h3 : 8 < (K : Int) ∨ (n : Int) - p - 1 < K
    · rw [if_pos h3]
      by_cases h8 : 8 < (K : Int)
      · exact rget_below_far b off n c p K f w hp hnc hm hr hc hf (by omega) h8
      · exact rget_below_cut b off n c p K f w hp hnc hm hr hc hf (by omega) (by simpa using h8) (by omega) (by omega)
    rw [if_neg h3]
    have d1 : decide ((8 : Int) < K) = false := by simp; omega
    have d2 : decide ((n : Int) - p - 1 < K) = false := by simp; omega
    by_cases h4 : (K : Int) = 0
    · rw [if_pos h4, if_pos hb]
      have hk0 : K = 0 := by omega
      have := rget_below_num b off n c p K f w hp hnc hm hr hc hf (by omega) d1 (by omega) d2 (by omega) (fun h => absurd h (by omega)) 0 (by rw [hk0]; rfl)
      rw [told, if_neg (by decide), hk0] at this
      simpa using this
    rw [if_neg h4]
    by_cases h5 : f (p + 1) = 0
    · rw [if_pos h5]; exact rget_below_lead b off n c p K f w hp hnc hm hr hc hf (by omega) d1 (by omega) d2 (by omega) (by omega) (by simpa using h5)
    rw [if_neg h5, Int.toNat_natCast]
    have := rget_below_num b off n c p K f w hp hnc hm hr hc hf (by omega) d1 (by omega) d2 (by omega) (fun _ => by simpa using h5) _ rfl
    rw [told] at this
    by_cases h6 : 9223372036854775807 < sumTo (fun i => f (p + 1 + i)) K
    · rw [if_pos h6] at this ⊢; exact this
    · rw [if_neg h6] at this ⊢; rw [if_pos hb]; exact this
  · obtain ⟨K, hK⟩ := Int.eq_ofNat_of_zero_le (a := f p) (by omega)
    have hcl : clr (f p) = (K : Int) := by rw [clr_plain hrp.1 (by omega)]; omega
    rw [hcl]
    by_cases h3 : 8 < (K : Int) ∨ (n : Int) - p - 1 < K
    · rw [if_pos h3]
      by_cases h8 : 8 < (K : Int)
      · exact rget_plain_far b off n c p K f w hp hnc hm hr hc hK (by omega) h8
      · exact rget_plain_cut b off n c p K f w hp hnc hm hr hc hK (by omega) (by simpa using h8) (by omega) (by omega)
    rw [if_neg h3]
    have d1 : decide ((8 : Int) < K) = false := by simp; omega
    have d2 : decide ((n : Int) - p - 1 < K) = false := by simp; omega
    by_cases h4 : (K : Int) = 0
    · rw [if_pos h4, if_neg hb]
      have hk0 : K = 0 := by omega
      have := rget_plain_num b off n c p K f w hp hnc hm hr hc hK (by omega) d1 (by omega) d2 (by omega) (fun h => absurd h (by omega)) 0 (by rw [hk0]; rfl)
      rw [told, if_neg (by decide), hk0] at this
      simpa using this
    rw [if_neg h4]
    by_cases h5 : f (p + 1) = 0
    · rw [if_pos h5]; exact rget_plain_lead b off n c p K f w hp hnc hm hr hc hK (by omega) d1 (by omega) d2 (by omega) (by omega) (by simpa using h5)
    rw [if_neg h5, Int.toNat_natCast]
    have := rget_plain_num b off n c p K f w hp hnc hm hr hc hK (by omega) d1 (by omega) d2 (by omega) (fun _ => by simpa using h5) _ rfl
    rw [told] at this
    by_cases h6 : 9223372036854775807 < sumTo (fun i => f (p + 1 + i)) K
    · rw [if_pos h6] at this ⊢; exact this
    · rw [if_neg h6] at this ⊢; rw [if_neg hb]; exact this

end Go.Proofs.Ytiepgocbgjdhpaa.RefGet
