/-
  The example of chapter 10; a new Mem.
-/
import Derived.Test.YtckkbamelkkblaaObe
namespace Go.Proofs.Ytckkbamelkkblaa.Ob
open Go.RowKit View

set_option linter.unusedVariables false

theorem new_mem (w : World) : Calls Try.prog 7 #[] w fun e w' => e = .returned (.pointer (some ⟨w.heap.size, 0, none⟩)) ∧ w' = w.alloc (.cells #[.slice none 0 0] 44) := by
  go_enter Try.func7, Try.ntmps7
  go_wp2_with fail
  go_ret
  exact ⟨rfl, rfl⟩

theorem obs_new {base M o : Nat} {w : World} (S : Nat → Sl) (f : Nat → Nat → Int) (hc : w.cell? ⟨M, o, none⟩ = some (.slice none 0 0)) (hz : ∀ i, w.frozen? ⟨M, i, none⟩ = false) (h1 : M < base) (h2 : base ≤ w.heap.size) : Obs base w M o ⟨none, 0, 0⟩ 0 S f :=
  ⟨hc, hz, h1, h2, World.ownsRow_nil _ _ _ _, fun i hi => by omega, fun i hi => by omega, fun i j hi => by omega, fun i hi => by omega⟩

/-- A box that was laid a while ago. -/
theorem obs_laid {base : Nat} {w w' : World} {T : Nat} (S : Nat → Sl) (f : Nat → Nat → Int) (hb : Below (w.heap.size + 1) (w.alloc (.cells #[.slice none 0 0] T)) w') (h1 : w.heap.size < base) (h2 : base ≤ w'.heap.size) : Obs base w' w.heap.size 0 ⟨none, 0, 0⟩ 0 S f := by
  have hk : w'.heap[w.heap.size]? = (w.alloc (.cells #[.slice none 0 0] T)).heap[w.heap.size]? := hb.block _ (by omega)
  refine obs_new S f ?_ (fun i => ?_) h1 h2
  · rw [World.cell?_of_block (w := w.alloc (.cells #[.slice none 0 0] T)) hk]; simp
  · rw [World.frozen?_of_block (w := w.alloc (.cells #[.slice none 0 0] T)) hk]; exact World.frozen?_alloc_new _ _ _ i

abbrev S0 : Nat → Sl := fun _ => ⟨none, 0, 0⟩
abbrev f0 : Nat → Nat → Int := fun _ _ => 0

set_option maxRecDepth 10000 in
set_option maxHeartbeats 1000000 in
theorem first_any (w : World) : Calls Try.prog 6 #[] w fun e w' => e = .returned (.bool true) ∧ Below w.heap.size w w' := by
  go_enter Try.func6, Try.ntmps6
  go_wp2_with (go_at_call 7; refine (new_mem _).mono ?_; rintro e w1 ⟨rfl, hw1⟩; have HW := hid hw1; clear hw1)
  obtain ⟨F, hF⟩ : ∃ F : Nat → Int, F = fun i => if i = 0 then 5 else 6 := ⟨_, rfl⟩
  obtain ⟨w2, hw2⟩ : ∃ w2, w1.alloc (.cells #[.int .i64 5, .int .i64 6] 2) = w2 := ⟨_, rfl⟩
  rw [hw2]
  have b2 : Below w1.heap.size w1 w2 := by rw [← hw2]; exact new (same _) _
  have z1 : w1.heap.size = w.heap.size + 1 := by rw [HW.out]; simp
  have b2' : Below (w.heap.size + 1) (w.alloc (.cells #[.slice none 0 0] 44)) w2 := by rw [← HW.out, ← z1]; exact b2
  have i2 : Ints w2 ⟨some ⟨w1.heap.size, 0, none⟩, 2, 2⟩ F := by
    refine ⟨Nat.le_refl _, by show 2 ≤ _; omega, fun e => by simp at e, fun _ => ⟨w1.heap.size, 0, rfl, fun i hi => ?_⟩⟩
    have hi' : i < 2 := hi
    rw [← hw2, hF]
    obtain rfl | rfl : i = 0 ∨ i = 1 := by omega
    · simp
    · simp
  have O := obs_laid (base := w2.heap.size) S0 f0 b2' (by have := b2.size; omega) (Nat.le_refl _)
  have HB := hid (show Below w.heap.size w w2 by have : Below w.heap.size w w1 := by rw [HW.out]; exact new (same _) _
                                                 exact this.trans (b2.mono (by omega)))
  have HF := hid hF
  have Z1 := hid z1
  clear hw2 b2 z1 b2' hF
  refine (make_mem O (by omega) ⟨some ⟨w1.heap.size, 0, none⟩, 2, 2⟩ F i2 (Nat.le_of_ble_eq_true rfl)).mono ?_
  rintro e w3 ⟨rfl, v4, s, hs, O3, C3, _⟩
  have CV : cellV (0 + 1) (fun i => if i = 0 then s else S0 i) (fun i => if i = 0 then F else f0 i) 0 1 = 6 ∧ hasC (0 + 1) (fun i => if i = 0 then s else S0 i) 0 1 = true := by
    have e : hasC (0 + 1) (fun i => if i = 0 then s else S0 i) 0 1 = true := hasC_iff.2 ⟨0, 1, rfl, rfl, by omega, by simp only [if_true]; rw [hs]; exact Nat.one_lt_two⟩
    refine ⟨?_, e⟩
    unfold cellV
    rw [if_pos e, HF.out]
    rfl
  have SZ : szOf (0 + 1) (fun i => if i = 0 then s else S0 i) 0 = 2 := by
    unfold szOf
    rw [if_pos ⟨by omega, by omega⟩]
    exact hs
  have L := hid (show Calls Try.prog 10 #[.pointer (some ⟨w.heap.size, 0, none⟩), .int .i64 0, .int .i64 1] w3 fun e w' => e = .returned (.tuple #[.int .i64 6, .bool true]) ∧ w' = w3 by have := load_mem O3 (by omega) 0 1; rw [CV.1, CV.2] at this; exact this)
  have N := hid (show Calls Try.prog 14 #[.pointer (some ⟨w.heap.size, 0, none⟩)] w3 fun e w' => e = .returned (.int .i64 1) ∧ w' = w3 by have := len_mem O3 (by omega); exact this)
  have Z := hid (show Calls Try.prog 15 #[.pointer (some ⟨w.heap.size, 0, none⟩), .int .i64 0] w3 fun e w' => e = .returned (.int .i64 2) ∧ w' = w3 by have := size_mem O3 (by omega) 0; rw [SZ] at this; exact this)
  have B3 := hid (show Below w.heap.size w w3 from C3.below HB.out HB.out.size (fun x hx => by rcases O.ge hx with rfl | h; exact Nat.le_refl _; have := HB.out.size; omega))
  clear O3 C3 CV SZ hs O i2
  go_wp2_with (first
    | (go_at_call 10; refine L.out.mono ?_; rintro e w4 ⟨rfl, rfl⟩)
    | (go_at_call 14; refine N.out.mono ?_; rintro e w4 ⟨rfl, rfl⟩)
    | (go_at_call 15; refine Z.out.mono ?_; rintro e w4 ⟨rfl, rfl⟩))
  go_ret
  exact ⟨rfl, B3.out⟩

end Go.Proofs.Ytckkbamelkkblaa.Ob
