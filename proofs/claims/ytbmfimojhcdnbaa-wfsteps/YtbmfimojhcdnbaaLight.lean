/-
  Whether a function is light enough: the contract of plnkeep.Light.
-/
import Derived.Test.YtbmfimojhcdnbaaRead
namespace Go.Proofs.Ytbmfimojhcdnbaa.Rd
open Go.RowKit View

set_option linter.unusedVariables false

/-- A bool that says so, and memory that has only grown. -/
def Ans (p : Bool → Prop) (w : World) (e : Ending) (w' : World) : Prop := ∃ r : Bool, e = .returned (.bool r) ∧ p r ∧ Below w.heap.size w w'

def Thin (F : FV) (j : Nat) : Prop := ∀ k, k < (F.B j).n → (F.I j k).args.n ≤ 20 ∧ (F.I j k).into.n ≤ 20

theorem light_of {F : FV} (h1 : F.name.size ≤ 40) (h2 : F.par.n ≤ 8) (h3 : F.blk.n ≤ 48) (h4 : cnt (fun j => (F.B j).n) F.blk.n ≤ 400) (h5 : ∀ j, j < F.blk.n → Thin F j) : Light F := by
  have key : ∀ m, cnt (fun j => (F.B j).n) m ≤ 400 → ∀ j, j < m → (F.B j).n ≤ 400 := by
    intro m
    induction m with
    | zero => intro _ j hj; omega
    | succ m ih =>
      intro hm j hj
      rw [cnt] at hm
      rcases Nat.lt_or_eq_of_le (Nat.le_of_lt_succ hj) with h | h
      · exact ih (by omega) j h
      · rw [h]; omega
  exact ⟨h4, h1, h2, h3, key _ h4, fun j hj k hk => (h5 j hj k hk).1, fun j hj k hk => (h5 j hj k hk).2⟩

set_option maxHeartbeats 1000000 in
theorem light_any (F : FV) (w : World) (hF : In w F) :
    Calls Try.prog 45 #[F.val] w fun e w' => Ans (fun r => r = true → Light F) w e w' := by
  by_cases g1 : (40 : Int) < F.name.size
  · have d1 : decide ((40 : Int) < F.name.size) = true := by simpa using g1
    go_enter Try.func45, Try.ntmps45
    go_wp2
    go_ret
    exact ⟨false, rfl, by simp, new (same w) _⟩
  have d1 : decide ((40 : Int) < F.name.size) = false := by simpa using g1
  by_cases g2 : (8 : Int) < F.par.n
  · have d2 : decide ((8 : Int) < F.par.n) = true := by simpa using g2
    go_enter Try.func45, Try.ntmps45
    go_wp2
    go_ret
    exact ⟨false, rfl, by simp, new (same w) _⟩
  have d2 : decide ((8 : Int) < F.par.n) = false := by simpa using g2
  by_cases g3 : (16 : Int) < F.blk.n
  · have d3 : decide ((16 : Int) < F.blk.n) = true := by simpa using g3
    go_enter Try.func45, Try.ntmps45
    go_wp2
    go_ret
    exact ⟨false, rfl, by simp, new (same w) _⟩
  have d3 : decide ((16 : Int) < F.blk.n) = false := by simpa using g3
  go_enter Try.func45, Try.ntmps45
  go_wp2
  go_loop [3, 4] (fun s i => ∃ k : Nat, k ≤ F.blk.n ∧ i = .int .i64 k ∧ s = .int .i64 (cnt (fun j => (F.B j).n) k) ∧ cnt (fun j => (F.B j).n) k ≤ 90 ∧ ∀ j, j < k → Thin F j) (fun _ i => F.blk.n - (intOf i).toNat)
  case atStart => exact ⟨0, Nat.zero_le _, rfl, rfl, by simp [cnt], fun j hj => by omega⟩
  case round =>
    obtain ⟨k, hk, rfl, rfl, hle, hall⟩ := hrel
    have HA := hid hall
    clear hall
    by_cases hlt : k < F.blk.n
    · obtain ⟨b, o, hix, hck⟩ := hF.blk.at hlt
      have hbl := World.block_lt_of_cell? _ _ hck
      have hin := hF.ins k hlt
      have q1 := hin.1
      have q2 := hin.2.1
      by_cases g5 : (90 : Int) < cnt (fun j => (F.B j).n) k + (F.B k).n
      · go_wp2
        go_ret
        exact ⟨false, rfl, by simp, new (same w) _⟩
      go_wp2
      go_loop [5] (fun i => ∃ t : Nat, t ≤ (F.B k).n ∧ i = .int .i64 t ∧ ∀ i, i < t → (F.I k i).args.n ≤ 20 ∧ (F.I k i).into.n ≤ 20) (fun i => (F.B k).n - (intOf i).toNat)
      case atStart => exact ⟨0, Nat.zero_le _, rfl, fun j hj => by omega⟩
      case round =>
        obtain ⟨t, ht, rfl, hall⟩ := hrel
        have HB := hid hall
        clear hall
        by_cases htl : t < (F.B k).n
        · obtain ⟨ib, io, hiy, c0, c1, c2, c3, c4, c5, c6⟩ := hin.at htl
          have hbl' := World.block_lt_of_cell? _ _ c5
          by_cases g6 : (20 : Int) < (F.I k t).args.n
          · have d6 : decide ((20 : Int) < (F.I k t).args.n) = true := by simpa using g6
            go_wp2
            go_ret
            exact ⟨false, rfl, by simp, new (same w) _⟩
          have d6 : decide ((20 : Int) < (F.I k t).args.n) = false := by simpa using g6
          by_cases g7 : (20 : Int) < (F.I k t).into.n
          · have d7 : decide ((20 : Int) < (F.I k t).into.n) = true := by simpa using g7
            go_wp2
            go_ret
            exact ⟨false, rfl, by simp, new (same w) _⟩
          have d7 : decide ((20 : Int) < (F.I k t).into.n) = false := by simpa using g7
          go_wp2
          go_round
          case rel => exact ⟨t + 1, by omega, by go_num, upto HB.out ⟨by omega, by omega⟩⟩
          case measure => simp [intOf]; omega
        · obtain rfl : t = (F.B k).n := by omega
          go_wp2
          go_round
          case rel => exact ⟨k + 1, by omega, by go_num, by simp [cnt], by rw [cnt]; omega, upto HA.out HB.out⟩
          case measure => simp [intOf]; omega
    · obtain rfl : k = F.blk.n := by omega
      go_wp2
      go_ret
      exact ⟨true, rfl, fun _ => light_of (by omega) (by omega) (by omega) (Nat.le_trans hle (by decide)) HA.out, new (same w) _⟩
end Go.Proofs.Ytbmfimojhcdnbaa.Rd
