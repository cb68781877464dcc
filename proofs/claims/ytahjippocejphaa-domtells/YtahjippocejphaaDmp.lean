/-
  What dom.Front has gathered, of the first blocks and of the first Prevs of one.
-/
import Derived.Test.YtahjippocejphaaDmo
namespace Go.Proofs.Ytahjippocejphaa.Dm
open Go.RowKit View Rd Copy Num Ty Srt Go.Proofs.Ytahjippocejphaa.Flo Go.Proofs.Ytahjippocejphaa.Lt

set_option linter.unusedVariables false

/-- The first t Prevs of b put it to a. -/
def FrA (F : FV) (b t a : Nat) : Prop := ∃ i, i < t ∧ Go.Proofs.Ytahjippocejphaa.Flo.Way (su F) 0 ((pvL F F.blk.n b).getD i 0) ∧ Fr F ((pvL F F.blk.n b).getD i 0) b a

open Classical in
/-- Of the first k blocks those that stand in a's front. -/
noncomputable def frL (F : FV) (k a : Nat) : List Nat := (List.range k).filter (fun b => decide (FrA F b (pvL F F.blk.n b).length a))

open Classical in
noncomputable def frT (F : FV) (b t a : Nat) : List Nat := frL F b a ++ if FrA F b t a then [b] else []

theorem frL_next (F : FV) (b a : Nat) : frL F (b + 1) a = frT F b (pvL F F.blk.n b).length a := by
  unfold frT frL
  rw [List.range_succ, List.filter_append]
  by_cases h : FrA F b (pvL F F.blk.n b).length a <;> simp [h]

theorem not_frA_zero (F : FV) (b a : Nat) : ¬ FrA F b 0 a := fun ⟨i, h, _⟩ => by omega

theorem frT_zero (F : FV) (b a : Nat) : frT F b 0 a = frL F b a := by
  unfold frT
  simp [not_frA_zero]

theorem frL_lt {F : FV} {k a x : Nat} (h : x ∈ frL F k a) : x < k := by
  unfold frL at h
  exact List.mem_range.1 (List.mem_filter.1 h).1

theorem frL_le (F : FV) (k a : Nat) : (frL F k a).length ≤ k := by
  unfold frL
  exact Nat.le_trans (List.length_filter_le _ _) (by simp)

theorem frT_le (F : FV) (b t a : Nat) : (frT F b t a).length ≤ b + 1 := by
  unfold frT
  have := frL_le F b a
  rw [List.length_append]
  split <;> simp <;> omega

theorem ends_frT (F : FV) (b t a : Nat) : EndsB (frT F b t a) b ↔ FrA F b t a := by
  unfold frT
  constructor
  · rintro ⟨pre, h⟩
    by_cases q : FrA F b t a
    · exact q
    · rw [if_neg q, List.append_nil] at h
      have : b ∈ frL F b a := by rw [h]; simp
      exact absurd (frL_lt this) (by omega)
  · intro q
    rw [if_pos q]
    exact ⟨_, rfl⟩

theorem frA_close {F : FV} {L : List Nat} {par : Nat → Nat} (hgr : Gro (su F) L par []) {p b t : Nat} (x y : Nat) (h : FrA F b t y) (hd : DomR F x y) (hf : Fr F p b x) : FrA F b t x := by
  obtain ⟨i, h1, h2, h3⟩ := h
  exact ⟨i, h1, h2, dom_trans hd h3.1 hgr, hf.2⟩

theorem frA_next (F : FV) (b t a : Nat) : FrA F b (t + 1) a ↔ FrA F b t a ∨ (Go.Proofs.Ytahjippocejphaa.Flo.Way (su F) 0 ((pvL F F.blk.n b).getD t 0) ∧ Fr F ((pvL F F.blk.n b).getD t 0) b a) := by
  constructor
  · rintro ⟨i, h1, h2⟩
    rcases Nat.lt_or_eq_of_le (Nat.le_of_lt_succ h1) with h | h
    · exact .inl ⟨i, h, h2⟩
    · subst h; exact .inr h2
  · rintro (⟨i, h1, h2⟩ | h)
    · exact ⟨i, by omega, h2⟩
    · exact ⟨t, by omega, h⟩

theorem frT_skip {F : FV} {b t : Nat} (h : ¬ Go.Proofs.Ytahjippocejphaa.Flo.Way (su F) 0 ((pvL F F.blk.n b).getD t 0)) (a : Nat) : frT F b (t + 1) a = frT F b t a := by
  have : FrA F b (t + 1) a ↔ FrA F b t a := by rw [frA_next]; exact ⟨fun z => by rcases z with z | z; exact z; exact absurd z.1 h, .inl⟩
  unfold frT
  by_cases q : FrA F b t a
  · rw [if_pos q, if_pos (this.2 q)]
  · rw [if_neg q, if_neg (fun z => q (this.1 z))]

theorem frT_put {F : FV} {p b t : Nat} {Lg : Nat → List Nat} (hp : (pvL F F.blk.n b).getD t 0 = p) (hw : Go.Proofs.Ytahjippocejphaa.Flo.Way (su F) 0 p) (h : Put1 F p b (FrA F b t) (-1) (frT F b t) Lg) (a : Nat) (ha : a < F.blk.n) : Lg a = frT F b (t + 1) a := by
  have e := frA_next F b t a
  rw [hp] at e
  have hu : ¬ UpTo F (-1) a := fun u => by have := u.1; omega
  by_cases q : FrA F b t a
  · rw [(h a ha).2 (fun z => z.2.1 q)]
    unfold frT
    rw [if_pos q, if_pos (e.2 (.inl q))]
  · by_cases r : Fr F p b a
    · rw [(h a ha).1 ⟨r, q, hu⟩]
      unfold frT
      rw [if_neg q, if_pos (e.2 (.inr ⟨hw, r⟩)), List.append_nil]
    · rw [(h a ha).2 (fun z => r z.1)]
      unfold frT
      rw [if_neg q, if_neg (fun z => by rcases e.1 z with z | z; exact q z; exact r z.2)]

end Go.Proofs.Ytahjippocejphaa.Dm
