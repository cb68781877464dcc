/-
  What wire.joinBytes and wire.Get answer, as contracts of the translated code.
-/
import Derived.Test.YtiepgocbgjdhpaaProg
import Derived.Test.YtiepgocbgjdhpaaPlain
import Derived.WalkKit
import Derived.ProofKit
import Derived.WalkSpells
import Derived.Deep.Light
import Derived.BigQuiet
import Derived.Deep.QuietTactic
namespace Go.Proofs.Ytiepgocbgjdhpaa.Get
open Go.RowKit Plain

set_option linter.unusedVariables false

def jok (f : Nat → Int) (n : Nat) : Bool := !(decide (0 < n) && f 0 == 0) && decide (sumTo f n ≤ 9223372036854775807)

theorem join_lead (b off n c : Nat) (f : Nat → Int) (w : World) (h0 : 0 < n)
   (hc : ∀ i, i < n → w.cell? ⟨b, off + i, none⟩ = some (.int .u8 (f i))) (hz : (f 0 == 0) = true) :
    Calls Try.prog 16 #[.slice (some ⟨b, off, none⟩) n c] w fun e w' => e = .returned (.tuple #[.int .i64 0, .bool false]) ∧ w' = w := by
  have hc0 := hc 0 h0
  simp only [Nat.add_zero] at hc0
  have hp : (0 : Int) < (n : Int) := by omega
  go_enter Try.func16, Try.ntmps16
  go_wp2
  go_ret2
  exact ⟨rfl, rfl⟩

theorem join_none (a : Option Addr) (c : Nat) (w : World) :
    Calls Try.prog 16 #[.slice a 0 c] w fun e w' => e = .returned (.tuple #[.int .i64 0, .bool true]) ∧ w' = w := by
  go_enter Try.func16, Try.ntmps16
  go_wp2
  refine wp_loop_rounds 1 ?_
  rw [rounds_succ]
  go_wp2
  go_ret2
  exact ⟨rfl, rfl⟩

set_option maxHeartbeats 400000 in
theorem join_some (b off n c : Nat) (f : Nat → Int) (w : World) (hn : n ≤ 8) (h0 : 0 < n) (hr : Bytes f n)
   (hc : ∀ i, i < n → w.cell? ⟨b, off + i, none⟩ = some (.int .u8 (f i))) (hz : (f 0 == 0) = false) :
    Calls Try.prog 16 #[.slice (some ⟨b, off, none⟩) n c] w fun e w' => e = .returned (.tuple #[.int .i64 (if sumTo f n ≤ 9223372036854775807 then sumTo f n else 0), .bool (decide (sumTo f n ≤ 9223372036854775807))]) ∧ w' = w := by
  have hc0 := hc 0 h0
  simp only [Nat.add_zero] at hc0
  have hp : (0 : Int) < (n : Int) := by omega
  go_enter Try.func16, Try.ntmps16
  go_wp2
  go_loop [4, 18] (fun s i => ∃ k : Nat, k ≤ n ∧ i = .int .i64 k ∧ s = .int .u64 (sumTo f k)) (fun _ i => n - (intOf i).toNat)
  case atStart => exact ⟨0, Nat.zero_le _, rfl, rfl⟩
  case round =>
    obtain ⟨k, hk, rfl, rfl⟩ := hrel
    by_cases hlt : k < n
    · have hck := hc k hlt
      have hrk := hr k hlt
      have hs := sumTo_small f k (by omega) (hr.mono (by omega))
      go_wp2
      go_round
      case rel => exact ⟨k + 1, by omega, by go_num, by rw [or_join' (sumTo f k) (f k) hs.1 hs.2 hrk.1 hrk.2]; rfl⟩
      case measure => simp [intOf]; omega
    · obtain rfl : k = n := by omega
      have hs := sumTo_le8 f k (by omega) hr
      by_cases hm : sumTo f k ≤ 9223372036854775807
      · have hw : wrap64 (sumTo f k) = sumTo f k := by unfold wrap64; omega
        have hm' : ¬ 9223372036854775807 < sumTo f k := by omega
        go_wp2
        go_ret2
        exact ⟨by simp, rfl⟩
      · have hm' : 9223372036854775807 < sumTo f k := by omega
        go_wp2
        go_ret2
        exact ⟨by simp, rfl⟩


theorem join_big (b off n c : Nat) (f : Nat → Int) (w : World) (hn : n ≤ 8) (h0 : 0 < n) (hr : Bytes f n)
   (hc : ∀ i, i < n → w.cell? ⟨b, off + i, none⟩ = some (.int .u8 (f i))) (hz : (f 0 == 0) = false) (hb : 9223372036854775807 < sumTo f n) :
    Calls Try.prog 16 #[.slice (some ⟨b, off, none⟩) n c] w fun e w' => e = .returned (.tuple #[.int .i64 0, .bool false]) ∧ w' = w := by
  have h := join_some b off n c f w hn h0 hr hc hz
  have hb' : ¬ sumTo f n ≤ 9223372036854775807 := by omega
  rw [if_neg hb', decide_eq_false hb'] at h
  exact h

theorem join_ok (b off n c : Nat) (f : Nat → Int) (w : World) (hn : n ≤ 8) (h0 : 0 < n) (hr : Bytes f n)
   (hc : ∀ i, i < n → w.cell? ⟨b, off + i, none⟩ = some (.int .u8 (f i))) (hz : (f 0 == 0) = false) (S : Int) (hS : sumTo f n = S) (hb : S ≤ 9223372036854775807) :
    Calls Try.prog 16 #[.slice (some ⟨b, off, none⟩) n c] w fun e w' => e = .returned (.tuple #[.int .i64 S, .bool true]) ∧ w' = w := by
  have h := join_some b off n c f w hn h0 hr hc hz
  rw [hS, if_pos hb, decide_eq_true hb] at h
  exact h

/-- at is no place of the bytes. -/
theorem get_out (a : Option Addr) (n c : Nat) (p : Int) (w : World) (h : p < 0 ∨ (n : Int) < p) :
    Calls Try.prog 8 #[.slice a n c, .int .i64 p] w fun e w' => e = .returned (.tuple #[.int .i64 0, .int .i64 0, .int .i64 8]) ∧ w' = w := by
  by_cases h0 : p < 0
  · go_enter Try.func8, Try.ntmps8
    go_wp2
    go_ret3
    exact ⟨rfl, rfl⟩
  · have h1 : (n : Int) < p := by omega
    have h2 : decide (p < 0) = false := by simpa using h0
    go_enter Try.func8, Try.ntmps8
    go_wp2
    go_ret3
    exact ⟨rfl, rfl⟩

theorem get_end (a : Option Addr) (n c : Nat) (w : World) :
    Calls Try.prog 8 #[.slice a n c, .int .i64 n] w fun e w' => e = .returned (.tuple #[.int .i64 0, .int .i64 0, .int .i64 1]) ∧ w' = w := by
  have h0 : ¬ ((n : Int) < 0) := by omega
  have h2 : decide ((n : Int) < 0) = false := by simp
  go_enter Try.func8, Try.ntmps8
  go_wp2
  go_ret3
  exact ⟨rfl, rfl⟩

set_option maxHeartbeats 400000 in
theorem get_far (b off n c p : Nat) (f : Nat → Int) (w : World) (hp : p < n) (hnc : n ≤ c) (hm : c ≤ maxLen) (hr : Bytes f n)
   (hc : ∀ i, i < n → w.cell? ⟨b, off + i, none⟩ = some (.int .u8 (f i))) (hz : 8 < clr (f p) ∨ (n : Int) - p - 1 < clr (f p)) :
    Calls Try.prog 8 #[.slice (some ⟨b, off, none⟩) n c, .int .i64 p] w fun e w' => e = .returned (.tuple #[.int .i64 0, .int .i64 0, .int .i64 1]) ∧ ∃ q, w' = w.drewN q := by
  unfold maxLen at hm
  have h2 : decide ((p : Int) < 0) = false := by simp
  have h2' : ¬ n < p := by omega
  have h2'' : decide (n < p) = false := by simpa using h2'
  have h3 : ((p : Int) == (n : Int)) = false := by simp; omega
  have h4 : (0 : Int) ≤ p := by omega
  have h5 : (p : Int) < n := by omega
  have h6 : (p : Int) + 1 ≤ n := by omega
  have hcp := hc p hp
  have hrp := hr p hp
  have hcl := clr_bd (f p) hrp.1 hrp.2
  have han := andNot16 (f p) hrp.1 hrp.2
  by_cases hg : 8 < clr (f p)
  · go_enter Try.func8, Try.ntmps8
    go_wp2
    go_quiet (fail)
    go_wp2
    all_goals (go_ret3; exact ⟨rfl, _, rfl⟩)
  · have hg' : decide (8 < clr (f p)) = false := by simpa using hg
    have hy : (n : Int) - p - 1 < clr (f p) := by omega
    go_enter Try.func8, Try.ntmps8
    go_wp2
    go_quiet (fail)
    go_wp2
    all_goals (go_ret3; exact ⟨rfl, _, rfl⟩)


set_option maxHeartbeats 400000 in
/-- No bytes behind the first one: 0 or -1. -/
theorem get_zero (b off n c p : Nat) (f : Nat → Int) (w : World) (hp : p < n) (hnc : n ≤ c) (hm : c ≤ maxLen) (hr : Bytes f n)
   (hc : ∀ i, i < n → w.cell? ⟨b, off + i, none⟩ = some (.int .u8 (f i))) (hz : clr (f p) = 0) :
    Calls Try.prog 8 #[.slice (some ⟨b, off, none⟩) n c, .int .i64 p] w fun e w' => e = .returned (.tuple #[.int .i64 (if 16 ≤ f p then -1 else 0), .int .i64 (p + 1), .int .i64 0]) ∧ ∃ q, w' = w.drewN q := by
  unfold maxLen at hm
  have h2 : decide ((p : Int) < 0) = false := by simp
  have h2' : ¬ n < p := by omega
  have h2'' : decide (n < p) = false := by simpa using h2'
  have h3 : ((p : Int) == (n : Int)) = false := by simp; omega
  have h4 : (0 : Int) ≤ p := by omega
  have h5 : (p : Int) < n := by omega
  have h6 : (p : Int) + 1 ≤ n := by omega
  have hcp := hc p hp
  have hrp := hr p hp
  have han := andNot16 (f p) hrp.1 hrp.2
  by_cases h16 : 16 ≤ f p
  · go_enter Try.func8, Try.ntmps8
    go_wp2
    go_quiet (fail)
    go_wp2_with (go_at_call 16; refine (join_none _ _ _).mono ?_; rintro e w' ⟨rfl, rfl⟩)
    all_goals (go_ret3; exact ⟨by simp, _, rfl⟩)
  · go_enter Try.func8, Try.ntmps8
    go_wp2
    go_quiet (fail)
    go_wp2_with (go_at_call 16; refine (join_none _ _ _).mono ?_; rintro e w' ⟨rfl, rfl⟩)
    all_goals (go_ret3; exact ⟨by simp, _, rfl⟩)

theorem hide {p : Prop} (h : p) : Hid p := h

set_option maxHeartbeats 400000 in
theorem get_lead (b off n c p K : Nat) (f : Nat → Int) (w : World) (hp : p < n) (hnc : n ≤ c) (hm : c ≤ maxLen) (hr : Bytes f n)
   (hc : ∀ i, i < n → w.cell? ⟨b, off + i, none⟩ = some (.int .u8 (f i))) (hz : clr (f p) = (K : Int)) (hK : 0 < K) (hK8 : K ≤ 8) (hn : p + 1 + K ≤ n) (hl : (f (p + 1) == 0) = true) :
    Calls Try.prog 8 #[.slice (some ⟨b, off, none⟩) n c, .int .i64 p] w fun e w' => e = .returned (.tuple #[.int .i64 0, .int .i64 0, .int .i64 1]) ∧ ∃ q, w' = w.drewN q := by
  unfold maxLen at hm
  have h2 : decide ((p : Int) < 0) = false := by simp
  have h2' : ¬ n < p := by omega
  have h2'' : decide (n < p) = false := by simpa using h2'
  have h3 : ((p : Int) == (n : Int)) = false := by simp; omega
  have h4 : (0 : Int) ≤ p := by omega
  have h5 : (p : Int) < n := by omega
  have h6 : (p : Int) + 1 ≤ n := by omega
  have hcp := hc p hp
  have hrp := hr p hp
  have han := andNot16 (f p) hrp.1 hrp.2
  have hcap : ¬ c = p + 1 := by omega
  have hck : ∀ (wx : World), (∀ a, wx.cell? a = w.cell? a) → ∀ i, i < K → wx.cell? ⟨b, off + (p + 1) + i, none⟩ = some (.int .u8 (f (p + 1 + i))) := fun wx hwx i hi => by
    rw [hwx, show off + (p + 1) + i = off + (p + 1 + i) by omega]; exact hc _ (by omega)
  have HC := hide hck
  clear hc hck
  go_enter Try.func8, Try.ntmps8
  go_wp2
  go_quiet (fail)
  go_wp2_with (go_at_call 16; refine (join_lead b (off + (p + 1)) K (c - (p + 1)) (fun i => f (p + 1 + i)) _ hK (by exact HC.out _ fun _ => rfl) (by exact hl)).mono ?_; rintro e w' ⟨rfl, rfl⟩)
  go_ret3
  exact ⟨rfl, _, rfl⟩

set_option maxHeartbeats 400000 in
theorem get_big (b off n c p K : Nat) (f : Nat → Int) (w : World) (hp : p < n) (hnc : n ≤ c) (hm : c ≤ maxLen) (hr : Bytes f n)
   (hc : ∀ i, i < n → w.cell? ⟨b, off + i, none⟩ = some (.int .u8 (f i))) (hz : clr (f p) = (K : Int)) (hK : 0 < K) (hK8 : K ≤ 8) (hn : p + 1 + K ≤ n) (hl : (f (p + 1) == 0) = false)
   (hb : 9223372036854775807 < sumTo (fun i => f (p + 1 + i)) K) :
    Calls Try.prog 8 #[.slice (some ⟨b, off, none⟩) n c, .int .i64 p] w fun e w' => e = .returned (.tuple #[.int .i64 0, .int .i64 0, .int .i64 1]) ∧ ∃ q, w' = w.drewN q := by
  unfold maxLen at hm
  have h2 : decide ((p : Int) < 0) = false := by simp
  have h2' : ¬ n < p := by omega
  have h2'' : decide (n < p) = false := by simpa using h2'
  have h3 : ((p : Int) == (n : Int)) = false := by simp; omega
  have h4 : (0 : Int) ≤ p := by omega
  have h5 : (p : Int) < n := by omega
  have h6 : (p : Int) + 1 ≤ n := by omega
  have hcp := hc p hp
  have hrp := hr p hp
  have han := andNot16 (f p) hrp.1 hrp.2
  have hcap : ¬ c = p + 1 := by omega
  have hck : ∀ (wx : World), (∀ a, wx.cell? a = w.cell? a) → ∀ i, i < K → wx.cell? ⟨b, off + (p + 1) + i, none⟩ = some (.int .u8 (f (p + 1 + i))) := fun wx hwx i hi => by
    rw [hwx, show off + (p + 1) + i = off + (p + 1 + i) by omega]; exact hc _ (by omega)
  have HC := hide hck
  clear hc hck
  have hB : Bytes (fun i => f (p + 1 + i)) K := fun i hi => hr (p + 1 + i) (by omega)
  have HS := hide hb
  clear hb
  go_enter Try.func8, Try.ntmps8
  go_wp2
  go_quiet (fail)
  go_wp2_with (go_at_call 16; refine (join_big b (off + (p + 1)) K (c - (p + 1)) (fun i => f (p + 1 + i)) _ hK8 hK hB (by exact HC.out _ fun _ => rfl) (by exact hl) HS.out).mono ?_; rintro e w' ⟨rfl, rfl⟩)
  go_ret3
  exact ⟨rfl, _, rfl⟩

set_option maxHeartbeats 400000 in
theorem get_num (b off n c p K : Nat) (f : Nat → Int) (w : World) (hp : p < n) (hnc : n ≤ c) (hm : c ≤ maxLen) (hr : Bytes f n)
   (hc : ∀ i, i < n → w.cell? ⟨b, off + i, none⟩ = some (.int .u8 (f i))) (hz : clr (f p) = (K : Int)) (hK : 0 < K) (hK8 : K ≤ 8) (hn : p + 1 + K ≤ n) (hl : (f (p + 1) == 0) = false)
   (hb : sumTo (fun i => f (p + 1 + i)) K ≤ 9223372036854775807) :
    Calls Try.prog 8 #[.slice (some ⟨b, off, none⟩) n c, .int .i64 p] w fun e w' => e = .returned (.tuple #[.int .i64 (if 16 ≤ f p then -1 - sumTo (fun i => f (p + 1 + i)) K else sumTo (fun i => f (p + 1 + i)) K), .int .i64 (p + 1 + K), .int .i64 0]) ∧ ∃ q, w' = w.drewN q := by
  unfold maxLen at hm
  have h2 : decide ((p : Int) < 0) = false := by simp
  have h2' : ¬ n < p := by omega
  have h2'' : decide (n < p) = false := by simpa using h2'
  have h3 : ((p : Int) == (n : Int)) = false := by simp; omega
  have h4 : (0 : Int) ≤ p := by omega
  have h5 : (p : Int) < n := by omega
  have h6 : (p : Int) + 1 ≤ n := by omega
  have hcp := hc p hp
  have hrp := hr p hp
  have han := andNot16 (f p) hrp.1 hrp.2
  have hcap : ¬ c = p + 1 := by omega
  have hck : ∀ (wx : World), (∀ a, wx.cell? a = w.cell? a) → ∀ i, i < K → wx.cell? ⟨b, off + (p + 1) + i, none⟩ = some (.int .u8 (f (p + 1 + i))) := fun wx hwx i hi => by
    rw [hwx, show off + (p + 1) + i = off + (p + 1 + i) by omega]; exact hc _ (by omega)
  have HC := hide hck
  clear hc hck
  have hB : Bytes (fun i => f (p + 1 + i)) K := fun i hi => hr (p + 1 + i) (by omega)
  have hS0 := (sumTo_le8 _ K hK8 hB).1
  generalize hS : sumTo (fun i => f (p + 1 + i)) K = S at hb hS0
  have HS := hide hS
  clear hS
  by_cases h16 : 16 ≤ f p
  · go_enter Try.func8, Try.ntmps8
    go_wp2
    go_quiet (fail)
    go_wp2_with (go_at_call 16; refine (join_ok b (off + (p + 1)) K (c - (p + 1)) (fun i => f (p + 1 + i)) _ hK8 hK hB (by exact HC.out _ fun _ => rfl) (by exact hl) S HS.out hb).mono ?_; rintro e w' ⟨rfl, rfl⟩)
    go_ret3
    exact ⟨by simp, _, rfl⟩
  · go_enter Try.func8, Try.ntmps8
    go_wp2
    go_quiet (fail)
    go_wp2_with (go_at_call 16; refine (join_ok b (off + (p + 1)) K (c - (p + 1)) (fun i => f (p + 1 + i)) _ hK8 hK hB (by exact HC.out _ fun _ => rfl) (by exact hl) S HS.out hb).mono ?_; rintro e w' ⟨rfl, rfl⟩)
    go_ret3
    exact ⟨by simp, _, rfl⟩


/-- What Get answers of the n bytes f at p: the number, the place behind it, the error. -/
def got (f : Nat → Int) (n : Nat) (p : Int) : Int × Int × Int :=
  if p < 0 ∨ (n : Int) < p then (0, 0, 8)
  else if p = n then (0, 0, 1)
  else if 8 < clr (f p.toNat) ∨ (n : Int) - p - 1 < clr (f p.toNat) then (0, 0, 1)
  else if clr (f p.toNat) = 0 then (if 16 ≤ f p.toNat then -1 else 0, p + 1, 0)
  else if f (p.toNat + 1) = 0 then (0, 0, 1)
  else if 9223372036854775807 < sumTo (fun i => f (p.toNat + 1 + i)) (clr (f p.toNat)).toNat then (0, 0, 1)
  else (if 16 ≤ f p.toNat then -1 - sumTo (fun i => f (p.toNat + 1 + i)) (clr (f p.toNat)).toNat else sumTo (fun i => f (p.toNat + 1 + i)) (clr (f p.toNat)).toNat, p + 1 + clr (f p.toNat), 0)

/-- The slice (a, n, c) reads in w as the n bytes f. -/
def Reads (w : World) (a : Option Addr) (n c : Nat) (f : Nat → Int) : Prop :=
  n ≤ c ∧ c ≤ maxLen ∧ Bytes f n ∧ (0 < n → ∃ b off, a = some ⟨b, off, none⟩ ∧ ∀ i, i < n → w.cell? ⟨b, off + i, none⟩ = some (.int .u8 (f i)))

theorem get_any (a : Option Addr) (n c : Nat) (p : Int) (f : Nat → Int) (w : World) (h : Reads w a n c f) :
    Calls Try.prog 8 #[.slice a n c, .int .i64 p] w fun e w' => e = .returned (.tuple #[.int .i64 (got f n p).1, .int .i64 (got f n p).2.1, .int .i64 (got f n p).2.2]) ∧ ∃ q, w' = w.drewN q := by
  obtain ⟨hnc, hm, hr, hcell⟩ := h
  have same : ∀ {e : Ending} {w' : World} {v : Ending}, e = v ∧ w' = w → e = v ∧ ∃ q, w' = w.drewN q := fun ⟨h1, h2⟩ => ⟨h1, 0, by rw [h2]; rfl⟩
  unfold got
  by_cases h1 : p < 0 ∨ (n : Int) < p
  · rw [if_pos h1]; exact (get_out a n c p w h1).mono fun _ _ h => same h
  rw [if_neg h1]
  by_cases h2 : p = n
  · rw [if_pos h2]; subst h2; exact (get_end a n c w).mono fun _ _ h => same h
  rw [if_neg h2]
  obtain ⟨p, rfl⟩ := Int.eq_ofNat_of_zero_le (a := p) (by omega)
  simp only [Int.toNat_natCast]
  have hp : p < n := by omega
  obtain ⟨b, off, rfl, hc⟩ := hcell (by omega)
  have hrp := hr p hp
  have hcb := clr_bd (f p) hrp.1 hrp.2
  by_cases h3 : 8 < clr (f p) ∨ (n : Int) - p - 1 < clr (f p)
  · rw [if_pos h3]; exact get_far b off n c p f w hp hnc hm hr hc h3
  rw [if_neg h3]
  by_cases h4 : clr (f p) = 0
  · rw [if_pos h4]; exact get_zero b off n c p f w hp hnc hm hr hc h4
  rw [if_neg h4]
  obtain ⟨K, hK⟩ := Int.eq_ofNat_of_zero_le hcb.1
  rw [hK] at h3 h4 ⊢
  rw [Int.toNat_natCast]
  by_cases h5 : f (p + 1) = 0
  · rw [if_pos h5]; exact get_lead b off n c p K f w hp hnc hm hr hc hK (by omega) (by omega) (by omega) (by simpa using h5)
  rw [if_neg h5]
  by_cases h6 : 9223372036854775807 < sumTo (fun i => f (p + 1 + i)) K
  · rw [if_pos h6]; exact get_big b off n c p K f w hp hnc hm hr hc hK (by omega) (by omega) (by omega) (by simpa using h5) h6
  · rw [if_neg h6]; exact get_num b off n c p K f w hp hnc hm hr hc hK (by omega) (by omega) (by omega) (by simpa using h5) (by omega)

end Go.Proofs.Ytiepgocbgjdhpaa.Get
