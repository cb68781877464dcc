/-
  Words lie where they say, plainly: what holds from place to place.
-/
import Derived.Test.YtlakhndnoaoheaaLxP
namespace Go.Proofs.Ytlakhndnoaoheaa.Lx

set_option linter.unusedVariables false

theorem sep_cases {c : Int} (h : isSep c = true) (h35 : c ≠ 35) : c = 9 ∨ c = 32 := by simp [isSep] at h; omega

/-- Between two words: i, k which word, lines how many ends of lines since the last one. -/
def Jst (b : Nat → Int) (n i k lines j : Nat) (note : Bool) (x : Nat × Nat) (C : List (Nat × Nat)) (D : List (List (Nat × Nat))) : Prop :=
  (0 < k ∧ lines = 0 ∧ rem b n j note none = (x :: C, D)) ∨ (k = 0 ∧ (i = 0 ∨ 0 < lines) ∧ conz (rem b n j note none) = (x :: C) :: D) ∨ (k = 0 ∧ 0 < i ∧ lines = 0 ∧ rem b n j note none = ([], (x :: C) :: D))

theorem Jst.ge {b : Nat → Int} {n i k lines j : Nat} {note : Bool} {x : Nat × Nat} {C : List (Nat × Nat)} {D : List (List (Nat × Nat))} (h : Jst b n i k lines j note x C D) (hj : j ≤ n + 1) : j ≤ x.1 ∧ x.1 < x.2 ∧ x.2 ≤ n := by
  obtain ⟨p1, p2⟩ := rem_pos b n (n - j) j rfl hj note
  rcases h with ⟨_, _, e⟩ | ⟨_, _, e⟩ | ⟨_, _, _, e⟩
  · rw [e] at p1; exact p1 x List.mem_cons_self
  · exact (conz_pos b n j hj note (x :: C) (by rw [e]; exact List.mem_cons_self)).2 x List.mem_cons_self
  · rw [e] at p2; exact (p2 _ List.mem_cons_self).2 x List.mem_cons_self

theorem Jst.step {b : Nat → Int} {n i k lines j : Nat} {note : Bool} {x : Nat × Nat} {C : List (Nat × Nat)} {D : List (List (Nat × Nat))} (h : Jst b n i k lines j note x C D) (hj : j < x.1) :
    (b j = 10 ∧ k = 0 ∧ Jst b n i k (lines + 1) (j + 1) false x C D) ∨ (b j = 35 ∧ Jst b n i k lines (j + 1) true x C D) ∨ (b j ≠ 10 ∧ b j ≠ 35 ∧ (note = true ∨ b j = 9 ∨ b j = 32) ∧ Jst b n i k lines (j + 1) note x C D) := by
  have fin : ∀ note', rem b n j note none = rem b n (j + 1) note' none → Jst b n i k lines (j + 1) note' x C D := fun note' e => by
    unfold Jst; rw [← e]; exact h
  rcases rem_step b n j note with ⟨_, e⟩ | ⟨h1, h2, e⟩ | ⟨h1, h2, h3, e⟩ | ⟨h1, _, _, _, f, f1, f2, e⟩
  · exfalso
    rcases h with ⟨_, _, e'⟩ | ⟨_, _, e'⟩ | ⟨_, _, _, e'⟩ <;> rw [e] at e' <;> simp [conz] at e'
  · refine .inl ⟨h2, ?_⟩
    rcases h with ⟨_, _, e'⟩ | ⟨h3, _, e'⟩ | ⟨h3, _, _, e'⟩ <;> rw [e] at e'
    · simp at e'
    · exact ⟨h3, .inr (.inl ⟨h3, .inr (by omega), e'⟩)⟩
    · exact ⟨h3, .inr (.inl ⟨h3, .inr (by omega), by simpa using e'⟩)⟩
  · refine .inr ?_
    by_cases h35 : b j = 35
    · exact .inl ⟨h35, fin true (by rw [e]; simp [h35])⟩
    · refine .inr ⟨h2, h35, ?_, fin note (by rw [e]; simp [h35])⟩
      rcases h3 with h3 | h3
      · exact .inl h3
      · exact .inr (sep_cases h3 h35)
  · exfalso
    rcases h with ⟨_, _, e'⟩ | ⟨_, _, e'⟩ | ⟨_, _, _, e'⟩ <;> rw [e] at e' <;> simp [conz] at e'
    · rw [← e'.1.1] at hj; simp at hj
    · rw [← e'.1.1] at hj; simp at hj

theorem Jst.word {b : Nat → Int} {n i k lines j : Nat} {note : Bool} {x : Nat × Nat} {C : List (Nat × Nat)} {D : List (List (Nat × Nat))} (h : Jst b n i k lines j note x C D) (hj : j = x.1) (hn : x.1 < n) :
    note = false ∧ (0 < k → lines = 0) ∧ (k = 0 → 0 < i → 0 < lines) ∧ rem b n x.2 false none = (C, D) := by
  subst hj
  have no : ∀ r, conz (rem b n (x.1 + 1) r none) = (x :: C) :: D → False := fun r e => by
    have := (conz_pos b n (x.1 + 1) (by omega) r (x :: C) (by rw [e]; exact List.mem_cons_self)).2 x List.mem_cons_self
    omega
  have no' : ∀ r, rem b n (x.1 + 1) r none = (x :: C, D) → False := fun r e => no r (by rw [e]; rfl)
  have no2 : ∀ r, rem b n (x.1 + 1) r none = ([], (x :: C) :: D) → False := fun r e => no r (by rw [e]; rfl)
  rcases rem_step b n x.1 note with ⟨_, e⟩ | ⟨h1, h2, e⟩ | ⟨h1, h2, h3, e⟩ | ⟨h1, _, h3, _, f, f1, f2, e⟩
  · omega
  · exfalso
    rcases h with ⟨_, _, e'⟩ | ⟨_, _, e'⟩ | ⟨_, _, _, e'⟩ <;> rw [e] at e'
    · simp at e'
    · exact no _ e'
    · exact no _ (by simpa using e')
  · exfalso
    rcases h with ⟨_, _, e'⟩ | ⟨_, _, e'⟩ | ⟨_, _, _, e'⟩ <;> rw [e] at e'
    · exact no' _ e'
    · exact no _ e'
    · exact no2 _ e'
  · rcases h with ⟨k1, k2, e'⟩ | ⟨k1, k2, e'⟩ | ⟨_, _, _, e'⟩ <;> rw [e] at e' <;> simp [conz] at e'
    · obtain ⟨⟨e1, e2⟩, e3⟩ := e'
      refine ⟨h3, fun _ => k2, fun h => by omega, ?_⟩
      rw [← e1]; exact Prod.ext e2 e3
    · obtain ⟨⟨e1, e2⟩, e3⟩ := e'
      refine ⟨h3, fun h => by omega, fun _ h => by omega, ?_⟩
      rw [← e1]; exact Prod.ext e2 e3

/-- Ahead of word k of line i. -/
def Kst (b : Nat → Int) (n i k to : Nat) : Prop :=
  to ≤ n ∧ ((k = 0 ∧ i = 0 ∧ conz (rem b n to false none) = linesOf b n) ∨ (k = 0 ∧ 0 < i ∧ rem b n to false none = ([], (linesOf b n).drop i)) ∨ (0 < k ∧ rem b n to false none = (((linesOf b n).getD i []).drop k, (linesOf b n).drop (i + 1))))

theorem Kst.start (b : Nat → Int) (n : Nat) : Kst b n 0 0 0 := ⟨Nat.zero_le _, .inl ⟨rfl, rfl, rfl⟩⟩

theorem getD_drop {α : Type} {L : List α} {k : Nat} (h : k < L.length) (d : α) : L.drop k = L.getD k d :: L.drop (k + 1) := by
  rw [List.drop_eq_getElem_cons h]
  simp [List.getD, h]

theorem Kst.jst {b : Nat → Int} {n i k to : Nat} (h : Kst b n i k to) (hi : i < (linesOf b n).length) (hk : k < ((linesOf b n).getD i []).length) :
    Jst b n i k 0 to false (((linesOf b n).getD i []).getD k (0, 0)) (((linesOf b n).getD i []).drop (k + 1)) ((linesOf b n).drop (i + 1)) := by
  have e1 := getD_drop hi []
  have e2 := getD_drop hk (0, 0)
  obtain ⟨_, h⟩ := h
  rcases h with ⟨rfl, rfl, e⟩ | ⟨rfl, hi0, e⟩ | ⟨hk0, e⟩
  · refine .inr (.inl ⟨rfl, .inl rfl, ?_⟩)
    rw [e, ← e2, List.drop_zero, ← e1, List.drop_zero]
  · refine .inr (.inr ⟨rfl, hi0, rfl, ?_⟩)
    rw [e, ← e2, List.drop_zero, ← e1]
  · refine .inl ⟨hk0, rfl, ?_⟩
    rw [e, ← e2]

theorem Kst.line {b : Nat → Int} {n i k to : Nat} (h : Kst b n i k to) (hk : k = ((linesOf b n).getD i []).length) (h0 : 0 < k) : Kst b n (i + 1) 0 to := by
  obtain ⟨h1, h⟩ := h
  rcases h with ⟨rfl, rfl, e⟩ | ⟨rfl, hi0, e⟩ | ⟨hk0, e⟩
  · omega
  · omega
  · exact ⟨h1, .inr (.inl ⟨rfl, by omega, by rw [e, hk, List.drop_length]⟩)⟩

theorem Kst.last {b : Nat → Int} {n i to : Nat} (h : Kst b n i 0 to) (hi : i = (linesOf b n).length) : conz (rem b n to false none) = [] := by
  obtain ⟨h1, h⟩ := h
  rcases h with ⟨_, rfl, e⟩ | ⟨_, hi0, e⟩ | ⟨hk0, e⟩
  · rw [e]; exact List.eq_nil_of_length_eq_zero hi.symm
  · rw [e, hi, List.drop_length]; rfl
  · omega

/-- Behind the last word. -/
theorem rest_step {b : Nat → Int} {n j : Nat} {note : Bool} (h : conz (rem b n j note none) = []) (hj : j < n) :
    (b j = 10 ∧ conz (rem b n (j + 1) false none) = []) ∨ (b j = 35 ∧ conz (rem b n (j + 1) true none) = []) ∨ (b j ≠ 10 ∧ b j ≠ 35 ∧ (note = true ∨ b j = 9 ∨ b j = 32) ∧ conz (rem b n (j + 1) note none) = []) := by
  rcases rem_step b n j note with ⟨_, e⟩ | ⟨h1, h2, e⟩ | ⟨h1, h2, h3, e⟩ | ⟨h1, _, _, _, f, f1, f2, e⟩
  · omega
  · rw [e] at h; exact .inl ⟨h2, h⟩
  · rw [e] at h
    refine .inr ?_
    by_cases h35 : b j = 35
    · exact .inl ⟨h35, by simpa [h35] using h⟩
    · refine .inr ⟨h2, h35, ?_, by simpa [h35] using h⟩
      rcases h3 with h3 | h3
      · exact .inl h3
      · exact .inr (sep_cases h3 h35)
  · rw [e] at h; simp [conz] at h

theorem lines_at {b : Nat → Int} {n i : Nat} (hi : i < (linesOf b n).length) : 0 < ((linesOf b n).getD i []).length ∧ ((linesOf b n).getD i []).length ≤ n := by
  have e : (linesOf b n).getD i [] = (linesOf b n)[i] := by simp [List.getD, hi]
  rw [e]
  exact ⟨List.length_pos_iff.2 (lines_pos b n _ (List.getElem_mem hi)).1, line_len b n _ (List.getElem_mem hi)⟩

end Go.Proofs.Ytlakhndnoaoheaa.Lx
