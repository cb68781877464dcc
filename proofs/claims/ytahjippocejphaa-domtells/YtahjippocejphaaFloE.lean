/-
  The example of chapters 4 and 5: the function, as it lies in memory.
-/
import Derived.Test.YtahjippocejphaaFloP
import Derived.Test.YtahjippocejphaaFloQ
import Derived.Test.YtahjippocejphaaLight
namespace Go.Proofs.Ytahjippocejphaa.Flo
open Go.RowKit View Rd Copy Num Ty Srt

set_option linter.unusedVariables false

abbrev xi (N j : Nat) : IV :=
  if j = 0 then ⟨28, 0, 0, 0, 0, ⟨some ⟨N, 0, none⟩, 1, 1⟩, ⟨some ⟨N + 1, 0, none⟩, 2, 2⟩⟩
  else if j = 1 then ⟨27, 0, 0, 0, 0, ⟨none, 0, 0⟩, ⟨some ⟨N + 1 + 1 + 1, 0, none⟩, 1, 1⟩⟩
  else if j = 2 then ⟨27, 0, 0, 0, 0, ⟨none, 0, 0⟩, ⟨some ⟨N + 1 + 1 + 1 + 1 + 1, 0, none⟩, 1, 1⟩⟩
  else ⟨29, 0, 0, 0, 0, ⟨none, 0, 0⟩, ⟨none, 0, 0⟩⟩

abbrev xb (N j : Nat) : Sl :=
  if j = 0 then ⟨some ⟨N + 1 + 1, 0, none⟩, 1, 1⟩
  else if j = 1 then ⟨some ⟨N + 1 + 1 + 1 + 1, 0, none⟩, 1, 1⟩
  else if j = 2 then ⟨some ⟨N + 1 + 1 + 1 + 1 + 1 + 1, 0, none⟩, 1, 1⟩
  else ⟨some ⟨N + 1 + 1 + 1 + 1 + 1 + 1 + 1, 0, none⟩, 1, 1⟩

abbrev ex4 (N : Nat) : FV where
  name := ⟨#[]⟩
  out := false
  par := ⟨none, 0, 0⟩
  res := 0
  blk := ⟨some ⟨N + 1 + 1 + 1 + 1 + 1 + 1 + 1 + 1, 0, none⟩, 4, 4⟩
  P := fun _ => 0
  B := fun j => xb N j
  I := fun j _ => xi N j
  A := fun _ _ _ => 1
  J := fun j _ i => if j = 0 then (i : Int) + 1 else 3

theorem four {p : Nat → Prop} (h0 : p 0) (h1 : p 1) (h2 : p 2) (h3 : p 3) : ∀ j, j < 4 → p j := fun j hj => by
  have : j = 0 ∨ j = 1 ∨ j = 2 ∨ j = 3 := by omega
  rcases this with rfl | rfl | rfl | rfl
  · exact h0
  · exact h1
  · exact h2
  · exact h3

theorem xbn (N j : Nat) : (xb N j).n = 1 := by unfold xb; split <;> (try split) <;> (try split) <;> rfl

theorem light4 (N : Nat) : Light (ex4 N) := by
  refine ⟨show 0 + 1 + 1 + 1 + 1 ≤ 90 by decide, show (0 : Nat) ≤ 40 by decide, show 0 ≤ 8 by decide, show 4 ≤ 16 by decide, fun j hj => by show (xb N j).n ≤ 90; rw [xbn]; decide, fun j hj k hk => ?_, fun j hj k hk => ?_⟩
  · exact four (p := fun j => (xi N j).args.n ≤ 20) (show 1 ≤ 20 by decide) (show 0 ≤ 20 by decide) (show 0 ≤ 20 by decide) (show 0 ≤ 20 by decide) j hj
  · exact four (p := fun j => (xi N j).into.n ≤ 20) (show 2 ≤ 20 by decide) (show 1 ≤ 20 by decide) (show 1 ≤ 20 by decide) (show 0 ≤ 20 by decide) j hj

theorem jng4 (N : Nat) : Jng (ex4 N) := by
  intro j hj k hk i hi
  have h : i < 20 := by have := (light4 N).into j hj k hk; omega
  show W64 (if j = 0 then (i : Int) + 1 else 3)
  split
  · constructor <;> omega
  · constructor <;> decide

theorem lit1 (w : World) (x : Int) (f : Nat → Int) (hf : f 0 = x) (N : Nat) (hN : w.heap.size = N) : Ints (w.alloc (.cells #[.int .i64 x] 3)) ⟨some ⟨N, 0, none⟩, 1, 1⟩ f := by
  subst hN
  refine ⟨Nat.le_refl _, by show 1 ≤ _; omega, fun h => by simp at h, fun _ => ⟨w.heap.size, 0, rfl, fun i hi => ?_⟩⟩
  obtain rfl : i = 0 := by simp at hi; omega
  simp [hf]

theorem lit2 (w : World) (x y : Int) (f : Nat → Int) (hx : f 0 = x) (hy : f 1 = y) (N : Nat) (hN : w.heap.size = N) : Ints (w.alloc (.cells #[.int .i64 x, .int .i64 y] 3)) ⟨some ⟨N, 0, none⟩, 2, 2⟩ f := by
  subst hN
  refine ⟨Nat.le_refl _, by show 2 ≤ _; omega, fun h => by simp at h, fun _ => ⟨w.heap.size, 0, rfl, fun i hi => ?_⟩⟩
  have : i = 0 ∨ i = 1 := by simp at hi; omega
  rcases this with rfl | rfl <;> simp [hx, hy]

theorem lit4 (w : World) (x y z u : Int) (f : Nat → Int) (hx : f 0 = x) (hy : f 1 = y) (hz : f 2 = z) (hu : f 3 = u) (N : Nat) (hN : w.heap.size = N) : Ints (w.alloc (.cells #[.int .i64 x, .int .i64 y, .int .i64 z, .int .i64 u] 3)) ⟨some ⟨N, 0, none⟩, 4, 4⟩ f := by
  subst hN
  refine ⟨Nat.le_refl _, by show 4 ≤ _; omega, fun h => by simp at h, fun _ => ⟨w.heap.size, 0, rfl, fun i hi => ?_⟩⟩
  have : i = 0 ∨ i = 1 ∨ i = 2 ∨ i = 3 := by simp at hi; omega
  rcases this with rfl | rfl | rfl | rfl <;> simp [hx, hy, hz, hu]

theorem litN (w : World) (f : Nat → Int) : Ints w ⟨none, 0, 0⟩ f := ⟨Nat.le_refl _, Nat.zero_le _, fun _ => rfl, fun h => absurd h (by simp)⟩

theorem litI (w : World) (u : IV) (f : Nat → IV) (hf : f 0 = u) (N : Nat) (hN : w.heap.size = N) : Inss (w.alloc (.cells u.cells 42)) ⟨some ⟨N, 0, none⟩, 1, 1⟩ f := by
  subst hN
  refine ⟨Nat.le_refl _, by show 1 ≤ _; omega, fun h => by simp at h, fun _ => ⟨w.heap.size, 0, rfl, fun i hi => ?_⟩⟩
  obtain rfl : i = 0 := by simp at hi; omega
  rw [hf]
  exact InsAt.alloc w u

theorem litB (w : World) (a b c d : Sl) (f : Nat → Sl) (ha : f 0 = a) (hb : f 1 = b) (hc : f 2 = c) (hd : f 3 = d) (N : Nat) (hN : w.heap.size = N) : Sls (w.alloc (.cells #[.slice a.a a.n a.c, .slice b.a b.n b.c, .slice c.a c.n c.c, .slice d.a d.n d.c] 39)) ⟨some ⟨N, 0, none⟩, 4, 4⟩ f := by
  subst hN
  refine ⟨Nat.le_refl _, by show 4 ≤ _; omega, fun h => by simp at h, fun _ => ⟨w.heap.size, 0, rfl, fun i hi => ?_⟩⟩
  have : i = 0 ∨ i = 1 ∨ i = 2 ∨ i = 3 := by simp at hi; omega
  rcases this with rfl | rfl | rfl | rfl <;> simp [ha, hb, hc, hd]

abbrev w4 (w : World) : World :=
  ((((((((w.alloc (.cells #[.int .i64 1] 3)).alloc (.cells #[.int .i64 1, .int .i64 2] 3)).alloc (.cells (xi w.heap.size 0).cells 42)).alloc (.cells #[.int .i64 3] 3)).alloc (.cells (xi w.heap.size 1).cells 42)).alloc (.cells #[.int .i64 3] 3)).alloc (.cells (xi w.heap.size 2).cells 42)).alloc (.cells (xi w.heap.size 3).cells 42)).alloc
    (.cells #[.slice (xb w.heap.size 0).a (xb w.heap.size 0).n (xb w.heap.size 0).c, .slice (xb w.heap.size 1).a (xb w.heap.size 1).n (xb w.heap.size 1).c, .slice (xb w.heap.size 2).a (xb w.heap.size 2).n (xb w.heap.size 2).c, .slice (xb w.heap.size 3).a (xb w.heap.size 3).n (xb w.heap.size 3).c] 39)

theorem one_lt {s : Sl} (h : s.n = 1) {k : Nat} (hk : k < s.n) : k = 0 := by omega

theorem in4 (w : World) : In (w4 w) (ex4 w.heap.size) := by
  refine ⟨litN _ _, litB _ _ _ _ _ _ rfl rfl rfl rfl _ (by simp), fun j hj => ?_, fun j hj k hk => ?_, fun j hj k hk => ?_⟩
  · refine four (p := fun j => Inss (w4 w) ((ex4 w.heap.size).B j) ((ex4 w.heap.size).I j)) ?_ ?_ ?_ ?_ j hj
    · exact (litI _ _ (fun _ => xi w.heap.size 0) rfl (w.heap.size + 1 + 1) (by simp)).on (new (new (new (new (new (new (same _) _) _) _) _) _) _)
    · exact (litI _ _ (fun _ => xi w.heap.size 1) rfl (w.heap.size + 1 + 1 + 1 + 1) (by simp)).on (new (new (new (new (same _) _) _) _) _)
    · exact (litI _ _ (fun _ => xi w.heap.size 2) rfl (w.heap.size + 1 + 1 + 1 + 1 + 1 + 1) (by simp)).on (new (new (same _) _) _)
    · exact (litI _ _ (fun _ => xi w.heap.size 3) rfl (w.heap.size + 1 + 1 + 1 + 1 + 1 + 1 + 1) (by simp)).on (new (same _) _)
  · refine four (p := fun j => Ints (w4 w) ((ex4 w.heap.size).I j k).args ((ex4 w.heap.size).A j k)) ?_ ?_ ?_ ?_ j hj
    · exact (lit1 w 1 _ rfl w.heap.size rfl).on (new (new (new (new (new (new (new (new (same _) _) _) _) _) _) _) _) _)
    · exact litN _ _
    · exact litN _ _
    · exact litN _ _
  · refine four (p := fun j => Ints (w4 w) ((ex4 w.heap.size).I j k).into ((ex4 w.heap.size).J j k)) ?_ ?_ ?_ ?_ j hj
    · exact (lit2 _ 1 2 (fun i => (i : Int) + 1) rfl rfl (w.heap.size + 1) (by simp)).on (new (new (new (new (new (new (new (same _) _) _) _) _) _) _) _)
    · exact (lit1 _ 3 (fun _ => 3) rfl (w.heap.size + 1 + 1 + 1) (by simp)).on (new (new (new (new (new (same _) _) _) _) _) _)
    · exact (lit1 _ 3 (fun _ => 3) rfl (w.heap.size + 1 + 1 + 1 + 1 + 1) (by simp)).on (new (new (new (same _) _) _) _)
    · exact litN _ _

theorem su4_0 (N : Nat) : su (ex4 N) 0 = [1, 2] := rfl
theorem su4_1 (N : Nat) : su (ex4 N) 1 = [3] := rfl
theorem su4_2 (N : Nat) : su (ex4 N) 2 = [3] := rfl
theorem su4_3 (N : Nat) : su (ex4 N) 3 = [] := rfl

end Go.Proofs.Ytahjippocejphaa.Flo
