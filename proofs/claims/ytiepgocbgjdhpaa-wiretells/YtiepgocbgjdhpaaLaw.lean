/-
  What the laws of chapter 2 share: arguments that came in, read as bytes.
-/
import Derived.Test.YtiepgocbgjdhpaaFirst
import Derived.Test.YtiepgocbgjdhpaaMath
import Derived.OpenShut
namespace Go.Proofs.Ytiepgocbgjdhpaa.Law
open Go.RowKit Plain Get Cv Put GetText First

theorem cell_lt {w : World} {a : Addr} {v : Value} (h : w.cell? a = some v) : a.block < w.heap.size := by
  rcases Nat.lt_or_ge a.block w.heap.size with hlt | hge
  · exact hlt
  · simp [World.cell?, Array.getElem?_eq_none hge] at h

theorem In.carry {w w' : World} {a : Option Addr} {len cap : Nat} {xs : List Int} (h : In w a len cap xs) (hb : Below w.heap.size w w') : In w' a len cap xs := by
  obtain ⟨h1, ⟨h2, h3, h4, h5⟩, h6⟩ := h
  refine ⟨h1, ⟨h2, h3, h4, fun h0 => ?_⟩, h6⟩
  obtain ⟨b, off, ha, hc⟩ := h5 h0
  refine ⟨b, off, ha, fun i hi => ?_⟩
  rw [hb.cell (p := ⟨b, off + i, none⟩) (cell_lt (hc i hi))]
  exact hc i hi

theorem Reads.carry {w w' : World} {a : Option Addr} {len cap : Nat} {f : Nat → Int} (h : Reads w a len cap f) (hb : Below w.heap.size w w') : Reads w' a len cap f := by
  obtain ⟨h2, h3, h4, h5⟩ := h
  refine ⟨h2, h3, h4, fun h0 => ?_⟩
  obtain ⟨b, off, ha, hc⟩ := h5 h0
  refine ⟨b, off, ha, fun i hi => ?_⟩
  rw [hb.cell (p := ⟨b, off + i, none⟩) (cell_lt (hc i hi))]
  exact hc i hi

/-- What a slice of bytes that came in is known by. -/
theorem row_in {w : World} {a : Option Addr} {len cap : Nat} {zs : List Int}
    (h : (a = none ∧ len = 0 ∧ cap = 0 ∧ zs = []) ∨ ∃ x, a = some x ∧ len ≤ cap ∧ cap ≤ maxLen ∧ zs.length = cap ∧ (∀ i, i < zs.length → w.cell? (x.add i) = some (.int .u8 (zs.getD i 0))) ∧ ∀ n ∈ zs, (Lit.int .u8 n).wf = true) :
    ∃ xs, In w a len cap xs ∧ ∀ x ∈ xs, 0 ≤ x ∧ x ≤ 255 := by
  rcases h with ⟨rfl, rfl, rfl, rfl⟩ | ⟨x, rfl, hl, hm, hz, hc, hw⟩
  · exact ⟨[], in_nil w, fun x hx => by cases hx⟩
  · have hb : ∀ y ∈ zs.take len, 0 ≤ y ∧ y ≤ 255 := fun y hy => by
      exact bounds_u8 (hw y (List.mem_of_mem_take hy))
    refine ⟨zs.take len, ⟨by simp; omega, ⟨hl, hm, fun i hi => ?_, fun h0 => ?_⟩, fun h => by cases h⟩, hb⟩
    · have : (zs.take len).getD i 0 ∈ zs.take len := by
        have hlt : i < (zs.take len).length := by simp; omega
        simp only [List.getD, List.getElem?_eq_getElem hlt, Option.getD_some]
        exact List.getElem_mem _
      exact hb _ this
    · obtain ⟨b, off, spot⟩ := x
      have hc0 := hc 0 (by omega)
      have hspot : spot = none := by simpa [Addr.add] using World.cell?_spot hc0
      subst hspot
      refine ⟨b, off, rfl, fun i hi => ?_⟩
      have := hc i (by omega)
      rw [Addr.add_lit] at this
      rw [this]
      simp [hi]

end Go.Proofs.Ytiepgocbgjdhpaa.Law
