/-
  What the document's own Num and Ref answer (plnref1).
-/
import Derived.Test.YtlakhndnoaoheaaDoorLxR
import Derived.BigQuiet
import Derived.Deep.QuietTactic
namespace Go.Proofs.YtlakhndnoaoheaaDoor.Lx
open Go.RowKit

set_option linter.unusedVariables false

/-- Where the digits begin. -/
def sgA (neg : Bool) : Nat := if neg then 1 else 0
def sgn (neg : Bool) (u : Nat) : Int := if neg then -(u : Int) else u
def sgB (neg : Bool) : Nat := if neg then 9223372036854775808 else 9223372036854775807

theorem form2 {l : List UInt8} {neg : Bool} {v : Int} (hneg : neg = true ↔ l.head? = some 45) (h : IsShow l v) : ∃ u : Nat, l.drop (sgA neg) = Lib.decDigits u ∧ v = sgn neg u ∧ u ≤ sgB neg ∧ (neg = true → 1 ≤ u) := by
  rcases h.form with ⟨u, rfl, h1, rfl⟩ | ⟨u, rfl, h1, h2, rfl⟩
  · cases neg with
    | true =>
      have hd := dec_digits u
      cases hl : Lib.decDigits u with
      | nil => exact absurd hl (dec_ne u)
      | cons c r =>
        rw [hl] at hneg hd
        have h45 := hneg.1 rfl
        simp at h45
        have hc := hd c List.mem_cons_self
        rw [h45] at hc
        unfold isDig at hc
        exact absurd hc.1 (by decide)
    | false => exact ⟨u, rfl, rfl, h1, fun h => by cases h⟩
  · cases neg with
    | true => exact ⟨u, rfl, rfl, h2, fun _ => h1⟩
    | false => exact absurd (hneg.2 rfl) (by simp)

theorem show_yes {l : List UInt8} {neg : Bool} {c : UInt8} {r : List UInt8} (hl : l = (if neg then [45] else []) ++ c :: r) (hd : ∀ x ∈ c :: r, isDig x) (h48 : c.toNat ≠ 48 ∨ (r = [] ∧ neg = false)) (hu : valA 0 (c :: r) ≤ sgB neg) :
    IsShow l (sgn neg (valA 0 (c :: r))) := by
  obtain ⟨e1, e2⟩ := val_dec r.length c r rfl hd (h48.imp id fun h => h.1)
  cases neg with
  | true =>
    have h1 := e2 (h48.resolve_right fun h => by cases h.2)
    have h2 := show_neg h1 hu
    rw [e1] at h2
    rw [hl]
    exact h2
  | false =>
    have h2 := show_pos hu
    rw [e1] at h2
    rw [hl]
    exact h2

theorem no_empty {l : List UInt8} {neg : Bool} (hneg : neg = true ↔ l.head? = some 45) (h : l.drop (sgA neg) = []) : ∀ v, ¬ IsShow l v := fun v hv => by
  obtain ⟨u, e, _⟩ := form2 hneg hv
  rw [h] at e
  exact dec_ne u e.symm

theorem no_long {l : List UInt8} {neg : Bool} (hneg : neg = true ↔ l.head? = some 45) (h : 19 < (l.drop (sgA neg)).length) : ∀ v, ¬ IsShow l v := fun v hv => by
  obtain ⟨u, e, _, hb, _⟩ := form2 hneg hv
  rw [e] at h
  have : u < 10 ^ (18 + 1) := by
    unfold sgB at hb
    split at hb <;> omega
  have := dec_len this
  omega

theorem no_zero {l : List UInt8} {neg : Bool} {c : UInt8} {r : List UInt8} (hneg : neg = true ↔ l.head? = some 45) (hl : l.drop (sgA neg) = c :: r) (hc : c.toNat = 48) (h : neg = true ∨ r ≠ []) : ∀ v, ¬ IsShow l v := fun v hv => by
  obtain ⟨u, e, _, _, h1⟩ := form2 hneg hv
  rw [hl] at e
  rcases Nat.eq_zero_or_pos u with rfl | hu
  · rcases h with h | h
    · exact absurd (h1 h) (by omega)
    · rw [Lib.decDigits_one (by omega)] at e
      injection e with _ e
      exact h e
  · obtain ⟨c', r', e', hc'⟩ := dec_head u hu
    rw [e'] at e
    injection e with e _
    subst e
    exact hc' hc

theorem no_digit {l : List UInt8} {neg : Bool} (hneg : neg = true ↔ l.head? = some 45) {x : UInt8} (hx : x ∈ l.drop (sgA neg)) (h : ¬ isDig x) : ∀ v, ¬ IsShow l v := fun v hv => by
  obtain ⟨u, e, _⟩ := form2 hneg hv
  rw [e] at hx
  exact h (dec_digits u x hx)

theorem no_great {l : List UInt8} {neg : Bool} (hneg : neg = true ↔ l.head? = some 45) (h : sgB neg < valA 0 (l.drop (sgA neg))) : ∀ v, ¬ IsShow l v := fun v hv => by
  obtain ⟨u, e, _, hb, _⟩ := form2 hneg hv
  rw [e, dec_val] at h
  omega

theorem byte_list (s : ByteArray) {i : Nat} (h : i < s.size) : ∃ c, s.data.toList[i]? = some c ∧ (c.toNat : Int) = byteAt s i := by
  have hd : i < s.data.size := h
  refine ⟨s[i]'h, ?_, ?_⟩
  · rw [Array.getElem?_toList, Array.getElem?_eq_getElem hd]; rfl
  · unfold byteAt; rw [dif_pos h]

theorem take_step {l : List UInt8} {k : Nat} {c : UInt8} (h : l[k]? = some c) : l.take (k + 1) = l.take k ++ [c] := by
  rw [List.take_add_one, h]; rfl

theorem val_small {l : List UInt8} {k : Nat} (hd : ∀ x ∈ l, isDig x) (hl : l.length ≤ k) : valA 0 l < 10 ^ k := by
  have := valA_lt l hd 0 1 (by omega)
  rw [Nat.one_mul] at this
  exact Nat.lt_of_lt_of_le this (Nat.pow_le_pow_right (by decide) hl)

end Go.Proofs.YtlakhndnoaoheaaDoor.Lx
