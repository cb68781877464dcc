/-
  What the functions that only read a function of the module answer, as contracts of the translated code.
-/
import Derived.Test.YtbmfimojhcdnbaaView
import Derived.BigQuiet
import Derived.Deep.QuietTactic
namespace Go.Proofs.Ytbmfimojhcdnbaa.Rd
open Go.RowKit View

set_option linter.unusedVariables false

theorem gives_any (v : IV) (w : World) : Calls Try.prog 102 #[v.val] w fun e w' => e = .returned (.bool (v.ty != 0)) ∧ Below w.heap.size w w' := by
  go_enter Try.func102, Try.ntmps102
  go_wp2
  go_ret
  exact ⟨rfl, (Below.refl _ _).alloc (Nat.le_refl _) _⟩

theorem hid {p : Prop} (h : p) : Hid p := h

theorem upto {p : Nat → Prop} {k : Nat} (h : ∀ i, i < k → p i) (hk : p k) : ∀ i, i < k + 1 → p i := fun i hi => by
  rcases Nat.lt_or_eq_of_le (Nat.le_of_lt_succ hi) with h' | h'
  · exact h i h'
  · rw [h']; exact hk

/-- all of two rows of numbers alike -/
def Eqs (s t : Sl) (f g : Nat → Int) : Prop := s.n = t.n ∧ ∀ i, i < s.n → f i = g i

set_option maxHeartbeats 1000000 in
theorem ints_any (s t : Sl) (f g : Nat → Int) (w : World) (hs : Ints w s f) (ht : Ints w t g) (hsm : s.n ≤ 1000) :
    Calls Try.prog 21 #[.slice s.a s.n s.c, .slice t.a t.n t.c] w fun e w' => ∃ r : Bool, e = .returned (.bool r) ∧ (r = true ↔ Eqs s t f g) ∧ ∃ q, w' = w.drewN q := by
  by_cases hn : s.n = t.n
  · have hn' : ((s.n : Int) != (t.n : Int)) = false := by simp [hn]
    have HN : Hid (s.n = t.n) := hn
    clear hn
    go_enter Try.func21, Try.ntmps21
    go_wp2
    go_loopw [5] (fun i wr => ∃ k : Nat, k ≤ s.n ∧ i = .int .i64 k ∧ (∀ i, i < k → f i = g i) ∧ ∃ q, wr = w.drewN q) (fun i _ => s.n - (intOf i).toNat)
    case atStart => exact ⟨0, Nat.zero_le _, rfl, fun i hi => by omega, 0, rfl⟩
    case round =>
      obtain ⟨k, hk, rfl, hall, q, rfl⟩ := hrel
      have HA : Hid (∀ i, i < k → f i = g i) := hall
      clear hall
      by_cases hlt : k < s.n
      · obtain ⟨b, o, hix, hc⟩ := hs.at hlt
        obtain ⟨b', o', hix', hc'⟩ := ht.at (k := k) (by have := HN.out; omega)
        go_wp2
        go_region
        by_cases hfg : f k = g k
        · have hfg' : (f k != g k) = false := by simp [hfg]
          have HE := hid hfg
          clear hfg
          go_wp2
          go_round
          case rel => exact ⟨k + 1, by omega, by go_num, upto HA.out HE.out, q + 1, rfl⟩
          case measure => simp [intOf]; omega
        · have hfg' : (f k != g k) = true := by simp [hfg]
          go_wp2
          go_ret
          exact ⟨false, rfl, by simp only [Bool.false_eq_true, false_iff]; intro h; exact hfg (h.2 k hlt), q + 1, rfl⟩
      · obtain rfl : k = s.n := by omega
        go_wp2
        go_ret
        exact ⟨true, rfl, by simp only [true_iff]; exact ⟨HN.out, HA.out⟩, q, rfl⟩
  · have hn' : ((s.n : Int) != (t.n : Int)) = true := by simp; omega
    go_enter Try.func21, Try.ntmps21
    go_wp2
    go_ret
    exact ⟨false, rfl, by simp [Eqs, hn], 0, rfl⟩

theorem below_drewN' (w : World) (q : Nat) : Below w.heap.size w (w.drewN q) := below_drewN (same w) q

def EqI (v u : IV) (a j a' j' : Nat → Int) : Prop :=
  v.op = u.op ∧ v.ty = u.ty ∧ v.to = u.to ∧ v.sym = u.sym ∧ v.num = u.num ∧ Eqs v.args u.args a a' ∧ Eqs v.into u.into j j'

set_option maxHeartbeats 1000000 in
theorem sameIns_any (v u : IV) (a j a' j' : Nat → Int) (w : World) (ha : Ints w v.args a) (hj : Ints w v.into j) (ha' : Ints w u.args a') (hj' : Ints w u.into j') (h1 : v.args.n ≤ 1000) (h2 : v.into.n ≤ 1000) :
    Calls Try.prog 32 #[v.val, u.val] w fun e w' => ∃ r : Bool, e = .returned (.bool r) ∧ (r = true ↔ EqI v u a j a' j') ∧ Below w.heap.size w w' := by
  by_cases e0 : v.op = u.op
  case neg =>
    have t0 : (v.op == u.op) = false := by simp [e0]
    go_enter Try.func32, Try.ntmps32
    go_wp2_with fail
    go_ret
    exact ⟨false, rfl, by simp [EqI, e0], new (new (same w) _) _⟩
  have t0 : (v.op == u.op) = true := by simp [e0]
  have E0 := hid e0; clear e0
  by_cases e1 : v.ty = u.ty
  case neg =>
    have t1 : (v.ty == u.ty) = false := by simp [e1]
    go_enter Try.func32, Try.ntmps32
    go_wp2_with fail
    go_ret
    exact ⟨false, rfl, by simp [EqI, e1], new (new (same w) _) _⟩
  have t1 : (v.ty == u.ty) = true := by simp [e1]
  have E1 := hid e1; clear e1
  by_cases e2 : v.to = u.to
  case neg =>
    have t2 : (v.to == u.to) = false := by simp [e2]
    go_enter Try.func32, Try.ntmps32
    go_wp2_with fail
    go_ret
    exact ⟨false, rfl, by simp [EqI, e2], new (new (same w) _) _⟩
  have t2 : (v.to == u.to) = true := by simp [e2]
  have E2 := hid e2; clear e2
  by_cases e3 : v.sym = u.sym
  case neg =>
    have t3 : (v.sym == u.sym) = false := by simp [e3]
    go_enter Try.func32, Try.ntmps32
    go_wp2_with fail
    go_ret
    exact ⟨false, rfl, by simp [EqI, e3], new (new (same w) _) _⟩
  have t3 : (v.sym == u.sym) = true := by simp [e3]
  have E3 := hid e3; clear e3
  by_cases e4 : v.num = u.num
  case neg =>
    have t4 : (v.num == u.num) = false := by simp [e4]
    go_enter Try.func32, Try.ntmps32
    go_wp2_with fail
    go_ret
    exact ⟨false, rfl, by simp [EqI, e4], new (new (same w) _) _⟩
  have t4 : (v.num == u.num) = true := by simp [e4]
  have E4 := hid e4; clear e4
  go_enter Try.func32, Try.ntmps32
  go_wp2_with fail
  have hb0 := new (new (same w) (.cells #[.int .i64 v.op, .int .i64 v.ty, .int .i64 v.to, .int .i64 v.sym, .int .i64 v.num, .slice v.args.a v.args.n v.args.c, .slice v.into.a v.into.n v.into.c] 39)) (.cells #[.int .i64 u.op, .int .i64 u.ty, .int .i64 u.to, .int .i64 u.sym, .int .i64 u.num, .slice u.args.a u.args.n u.args.c, .slice u.into.a u.into.n u.into.c] 39)
  refine (ints_any v.args u.args a a' _ (ha.on hb0) (ha'.on hb0) h1).mono ?_
  rintro e w1 ⟨r1, rfl, hr1, q, rfl⟩
  cases r1
  · have n1 : ¬ Eqs v.args u.args a a' := by simpa using hr1
    clear hr1
    go_wp2_with fail
    go_ret
    exact ⟨false, rfl, by simp [EqI, n1], below_drewN hb0 q⟩
  · have n1 : Eqs v.args u.args a a' := by simpa using hr1
    have N1 := hid n1
    clear hr1 n1
    go_wp2_with fail
    have hb1 := below_drewN hb0 q
    refine (ints_any v.into u.into j j' _ (hj.on hb1) (hj'.on hb1) h2).mono ?_
    rintro e w1 ⟨r2, rfl, hr2, q2, rfl⟩
    have HR := hid hr2; clear hr2
    go_wp2_with fail
    go_ret
    exact ⟨r2, rfl, by rw [HR.out]; exact ⟨fun h => ⟨E0.out, E1.out, E2.out, E3.out, E4.out, N1.out, h⟩, fun h => h.2.2.2.2.2.2⟩, below_drewN hb0 _⟩

set_option maxHeartbeats 1000000 in
theorem size_ref (F : FV) (w : World) (hF : In w F) (hl : Light F) :
    Calls Try.prog 46 #[F.val] w fun e w' => e = .returned (.int .i64 (cnt (fun j => (F.B j).n) F.blk.n)) ∧ Below w.heap.size w w' := by
  go_enter Try.func46, Try.ntmps46
  go_wp2
  go_loop [3, 4] (fun s i => ∃ k : Nat, k ≤ F.blk.n ∧ i = .int .i64 k ∧ s = .int .i64 (cnt (fun j => (F.B j).n) k)) (fun _ i => F.blk.n - (intOf i).toNat)
  case atStart => exact ⟨0, Nat.zero_le _, rfl, rfl⟩
  case round =>
    obtain ⟨k, hk, rfl, rfl⟩ := hrel
    have g1 := cnt_le (n := fun j => (F.B j).n) (m := 400) (j := k) (fun i hi => hl.ins i (by omega))
    have g4 := hl.blk
    by_cases hlt : k < F.blk.n
    · obtain ⟨b, o, hix, hck⟩ := hF.blk.at hlt
      have hbl := World.block_lt_of_cell? _ _ hck
      have g5 := hl.ins k hlt
      go_wp2
      go_round
      case rel => exact ⟨k + 1, by omega, by go_num, by simp [cnt]⟩
      case measure => simp [intOf]; omega
    · obtain rfl : k = F.blk.n := by omega
      go_wp2
      go_ret
      exact ⟨rfl, new (same w) _⟩

set_option maxHeartbeats 1000000 in
theorem size_ir (F : FV) (w : World) (hF : In w F) (hl : Light F) :
    Calls Try.prog 109 #[F.val] w fun e w' => e = .returned (.int .i64 (cnt (fun j => (F.B j).n) F.blk.n)) ∧ Below w.heap.size w w' := by
  go_enter Try.func109, Try.ntmps109
  go_wp2
  go_loopw [3, 9] (fun s i wr => ∃ k : Nat, k ≤ F.blk.n ∧ i = .int .i64 k ∧ s = .int .i64 (cnt (fun j => (F.B j).n) k) ∧ Below w.heap.size w wr) (fun _ i _ => F.blk.n - (intOf i).toNat)
  case atStart => exact ⟨0, Nat.zero_le _, rfl, rfl, new (same w) _⟩
  case round =>
    obtain ⟨k, hk, rfl, rfl, hb⟩ := hrel
    have g1 := cnt_le (n := fun j => (F.B j).n) (m := 400) (j := k) (fun i hi => hl.ins i (by omega))
    have g4 := hl.blk
    by_cases hlt : k < F.blk.n
    · obtain ⟨b, o, hix, hck⟩ := (hF.blk.on hb).at hlt
      have g5 := hl.ins k hlt
      go_wp2
      go_round
      case rel => exact ⟨k + 1, by omega, by go_num, by simp [cnt], new hb _⟩
      case measure => simp [intOf]; omega
    · obtain rfl : k = F.blk.n := by omega
      go_wp2
      go_ret
      exact ⟨rfl, hb⟩

end Go.Proofs.Ytbmfimojhcdnbaa.Rd
