/-
  CopyM, CopyM2: laid together.
-/
import Derived.Test.YtolipafcoolpgaaGreatJ1
import Derived.Test.YtolipafcoolpgaaGreatNeat
/-
  Copies of a module's other parts, in new memory: ir.copyList at int64, copyExtern, copyGlobal, copyTable, copyEach at each.
-/
namespace Go.Proofs.YtolipafcoolpgaaGreat.CpM
open Go.RowKit View Rd Copy Srt Own Go.Proofs.YtolipafcoolpgaaGreat.Mod

set_option linter.unusedVariables false

theorem info2 : (Tryz.prog.info? 2).map (fun i => (i.zero, i.size, i.bytes)) = some (some (.int .i64 0), 1, 8) := by kernel_rfl

theorem ints_of_owns64 {w : World} {base : Nat} {v : Value} {n : Nat} {xs : List Int} (h : w.ownsRow base 2 1 v n (xs.map (Value.int .i64))) (hn : n ≤ 1000000) :
  ∃ s : Sl, v = .slice s.a s.n s.c ∧ s.n = n ∧ Ints w s (fun i => xs.getD i 0) ∧ Mine base w.heap.size w s := by
 obtain ⟨hlen, h⟩ := h
 simp at hlen
 rcases h with ⟨rfl, rfl⟩ | ⟨g, cap, cur, rfl, hb, hg, hnc, hm, hs, ht⟩
 ·exact ⟨⟨none, 0, 0⟩, rfl, rfl, ⟨Nat.le_refl _, Nat.zero_le _, fun _ => rfl, fun h => absurd h (by simp)⟩, fun h => absurd h (by simp)⟩
 ·have hlt : g < w.heap.size := (Array.getElem?_eq_some_iff.1 hg).1
  refine ⟨⟨some ⟨g, 0, none⟩, n, cap⟩, rfl, rfl, ⟨hnc, by show n ≤ _; omega, fun h => by simp at h, fun h0 => ⟨g, 0, rfl, fun i hi => ?_⟩⟩, fun h0 => ⟨g, rfl, hb, hlt, fun i => ?_⟩⟩
  ·rw [Nat.zero_add, cell_of_row w g i cur 2 (0, 0) hg]
   have h1 : (cur.toList.take (n * 1))[i]? = (xs.map (Value.int .i64))[i]? := by rw [ht]
   rw [List.getElem?_take, if_pos (by simpa using hi)] at h1
   simp at h1
   rw [h1]
   have : i < xs.length := by rw [hlen]; exact hi
   simp [List.getD, this]
  ·simp [World.frozen?, hg]

def fl (c : Nat → List Value) : Nat → List Value
 | 0 => []
 | k + 1 => fl c k ++ c k

theorem fl_length {c : Nat → List Value} {z : Nat} (h : ∀ i, (c i).length = z) : ∀ k, (fl c k).length = k * z
 | 0 => by simp [fl]
 | k + 1 => by rw [fl, List.length_append, fl_length h k, h, Nat.succ_mul]

theorem fl_congr {c d : Nat → List Value} : ∀ {k : Nat}, (∀ t, t < k → c t = d t) → fl c k = fl d k
 | 0, _ => rfl
 | k + 1, h => by rw [fl, fl, fl_congr (fun t ht => h t (by omega)), h k (by omega)]

theorem fl_at {c : Nat → List Value} {z : Nat} (h : ∀ i, (c i).length = z) : ∀ k t r, t < k → r < z → (fl c k)[t * z + r]? = (c t)[r]?
 | 0, t, r, ht, _ => by omega
 | k + 1, t, r, ht, hr => by
  rw [fl]
  rcases Nat.lt_or_eq_of_le (Nat.le_of_lt_succ ht) with h' | rfl
  ·rw [List.getElem?_append_left (by rw [fl_length h]; have := Nat.mul_le_mul_right z (show t + 1 ≤ k from h'); rw [Nat.succ_mul] at this; omega)]
   exact fl_at h k t r h' hr
  ·rw [List.getElem?_append_right (by rw [fl_length h]; omega), fl_length h]
   congr 1
   omega

structure Each {α : Type} (G T z k n : Nat) (w : World) (cs : Nat → α → List Value) (El : World → Nat → α → Prop) (t : Nat → α) : Prop where
 own : w.ownsRow G T z (.slice (some ⟨G, 0, none⟩) k n) k (fl (fun i => cs i (t i)) k)
 el : ∀ i, i < k → El w i (t i)

theorem Each.cell {α : Type} {G T z k n : Nat} {w : World} {cs : Nat → α → List Value} {El : World → Nat → α → Prop} {t : Nat → α} (h : Each G T z k n w cs El t) (hz : ∀ i a, (cs i a).length = z) {i r : Nat} (hi : i < k) (hr : r < z) {v : Value} (hv : (cs i (t i))[r]? = some v) : w.cell? ⟨G, i * z + r, none⟩ = some v := by
 have hlt : i * z + r < k * z := by have := Nat.mul_le_mul_right z (show i + 1 ≤ k from hi); rw [Nat.succ_mul] at this; omega
 rw [h.own.cellAt (i * z + r) hlt, fl_at (fun i => hz i _) k i r hi hr, hv]

def ElS (N : Nat → Nat) (C : Nat → Nat → Int) (base : Nat) (w : World) (i : Nat) (t : Sl) : Prop :=
 t.n = N i ∧ Ints w t (C i) ∧ Mine base w.heap.size w t

theorem info55c : (Tryz.prog.info? 65).map (fun i => (i.zero, i.size, i.bytes)) = some (some (.agg #[.string ByteArray.empty, .slice none 0 0, .int .i64 0]), 3, 48) := by kernel_rfl

theorem info58c : (Tryz.prog.info? 47).map (fun i => (i.zero, i.size, i.bytes)) = some (some (.agg #[.string ByteArray.empty, .slice none 0 0]), 2, 40) := by kernel_rfl

theorem info60c : (Tryz.prog.info? 49).map (fun i => (i.zero, i.size, i.bytes)) = some (some (.agg #[.string ByteArray.empty, .slice none 0 0]), 2, 40) := by kernel_rfl

end Go.Proofs.YtolipafcoolpgaaGreat.CpM
