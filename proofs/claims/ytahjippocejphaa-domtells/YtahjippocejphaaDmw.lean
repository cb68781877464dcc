/-
  What the laws of chapter 5 lean on, plainly.
-/
import Derived.Test.YtahjippocejphaaDms
import Derived.Test.YtahjippocejphaaDmk
import Derived.Test.YtahjippocejphaaDmm
import Derived.Test.YtahjippocejphaaLow
namespace Go.Proofs.Ytahjippocejphaa.Dm
open Go.RowKit View Rd Copy Num Ty Srt Go.Proofs.Ytahjippocejphaa.Flo Go.Proofs.Ytahjippocejphaa.Lt

set_option linter.unusedVariables false

/-- Over has one answer. -/
theorem overIs_unique {F : FV} (hl : Light F) {ov ov' : Nat → Int} (h : OverIs F ov) (h' : OverIs F ov') : ∀ b, b < F.blk.n → ov b = ov' b := fun b hb => by
  obtain ⟨L, par, hgr⟩ := gro_ex hl (by omega : 0 < F.blk.n)
  by_cases q : b ≠ 0 ∧ Go.Proofs.Ytahjippocejphaa.Flo.Way (su F) 0 b
  · obtain ⟨a, _, ha, hn⟩ := h.some b hb q.1 q.2
    obtain ⟨a', _, ha', hn'⟩ := h'.some b hb q.1 q.2
    rw [ha, ha', nearB_unique hn hn' hgr]
  · have e : b = 0 ∨ ¬ Go.Proofs.Ytahjippocejphaa.Flo.Way (su F) 0 b := by
      by_cases z : b = 0
      · exact .inl z
      · exact .inr fun k => q ⟨z, k⟩
    rw [h.none b hb e, h'.none b hb e]

/-- What is over where a step leads to is over where it comes from, or is where it leads to. -/
theorem dom_step {F : FV} {a x y : Nat} (hx : Go.Proofs.Ytahjippocejphaa.Flo.Way (su F) 0 x) (hs : y ∈ su F x) (h : DomR F a y) : a = y ∨ DomR F a x := by
  by_cases e : a = y
  · exact .inl e
  · refine .inr ⟨h.1, hx, .inr fun q => ?_⟩
    rcases h.2.2 with z | z
    · exact e z
    · exact z ⟨q.1, .step q.2 (by unfold suL; exact List.mem_filter.2 ⟨hs, by simp; omega⟩)⟩

theorem dom_zero {F : FV} {b : Nat} (h : Go.Proofs.Ytahjippocejphaa.Flo.Way (su F) 0 b) : DomR F 0 b := ⟨.refl 0, h, .inr fun z => z.1 rfl⟩

theorem mem_frL {F : FV} {n a b : Nat} : b ∈ frL F n a ↔ b < n ∧ FrA F b (pvL F F.blk.n b).length a := by
  unfold frL
  rw [List.mem_filter, List.mem_range]
  simp

/-- What stands in a's front, by its Prevs. -/
theorem front_iff {F : FV} {a b : Nat} : FrA F b (pvL F F.blk.n b).length a ↔ Go.Proofs.Ytahjippocejphaa.Flo.Way (su F) 0 a ∧ Go.Proofs.Ytahjippocejphaa.Flo.Way (su F) 0 b ∧ (∃ i, i < (pvL F F.blk.n b).length ∧ DomR F a ((pvL F F.blk.n b).getD i 0)) ∧ (a = b ∨ ¬ DomR F a b) := by
  constructor
  · rintro ⟨i, h1, h2, h3, h4⟩
    exact ⟨h3.1, .step h2 (mem_pvL.1 (getD_mem h1)).2, ⟨i, h1, h3⟩, h4⟩
  · rintro ⟨_, _, ⟨i, h1, h2⟩, h3⟩
    exact ⟨i, h1, h2.2.1, h2, h3⟩

/-- A front rises. -/
theorem frL_rise (F : FV) (n a : Nat) : ∀ i, 0 < i → i < (frL F n a).length → (frL F n a).getD (i - 1) 0 < (frL F n a).getD i 0 := by
  have hs : (frL F n a).Pairwise (· < ·) := by
    unfold frL
    exact List.Pairwise.filter _ List.pairwise_lt_range
  intro i h0 hi
  have := List.pairwise_iff_getElem.1 hs (i - 1) i (by omega) hi (by omega)
  have e1 : (frL F n a)[i - 1]'(by omega) = (frL F n a).getD (i - 1) 0 := by
    have : i - 1 < (frL F n a).length := by omega
    simp [List.getD, this]
  have e2 : (frL F n a)[i]'hi = (frL F n a).getD i 0 := by simp [List.getD, hi]
  rw [← e1, ← e2]
  exact this

/-- b lies under a where a is the nearest one over it. -/
theorem mem_undL {ov : Nat → Int} {n a b : Nat} : b ∈ undL ov n a ↔ b < n ∧ ov b = (a : Int) := by
  unfold undL
  rw [List.mem_filter, List.mem_range]
  simp

theorem bool_iff {a b : Bool} (h : a = true ↔ b = true) : a = b := by cases a <;> cases b <;> simp at h <;> rfl

theorem ans_dom {F : FV} {x y : Nat} {r : Bool} (hx : x < F.blk.n) (hy : y < F.blk.n) (h : r = true ↔ 0 ≤ (x : Int) ∧ (x : Int) < F.blk.n ∧ 0 ≤ (y : Int) ∧ (y : Int) < F.blk.n ∧ DomR F (x : Int).toNat (y : Int).toNat) : r = true ↔ DomR F x y := by
  rw [h]
  exact ⟨fun q => q.2.2.2.2, fun q => ⟨by omega, by omega, by omega, by omega, q⟩⟩

def red (a : Int) (n : Nat) : Nat := (a % 65536).toNat % n

theorem red16e (a : Int) {n : Nat} (hn : 0 < n) : ∃ x : Nat, red a n = x ∧ x < n ∧ ∃ a0 : Nat, bits .and .i64 a 65535 = (a0 : Int) ∧ (a0 : Int).tmod (n : Int) = (x : Int) := by
  refine ⟨_, rfl, Nat.mod_lt _ hn, (a % 65536).toNat, ?_, ?_⟩
  · rw [Low.low16]; omega
  · unfold red; rw [Int.ofNat_tmod]

end Go.Proofs.Ytahjippocejphaa.Dm
