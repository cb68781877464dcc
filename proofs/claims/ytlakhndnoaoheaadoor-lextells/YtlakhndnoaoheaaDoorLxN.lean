/-
  Numerals, plainly: which words are a number's Show.
-/
import Derived.Lib.ItoaLen
import Derived.Lib.ParseIntBTie
import Derived.WalkKit
namespace Go.Proofs.YtlakhndnoaoheaaDoor.Lx

set_option linter.unusedVariables false

def W64 (n : Int) : Prop := -9223372036854775808 ≤ n ∧ n ≤ 9223372036854775807

def isDig (c : UInt8) : Prop := 48 ≤ c.toNat ∧ c.toNat ≤ 57

def valA (a : Nat) (l : List UInt8) : Nat := l.foldl (fun a c => a * 10 + (c.toNat - 48)) a

theorem valA_nil (a : Nat) : valA a [] = a := by unfold valA; exact List.foldl_nil
theorem valA_cons (a : Nat) (c : UInt8) (r : List UInt8) : valA a (c :: r) = valA (a * 10 + (c.toNat - 48)) r := by unfold valA; exact List.foldl_cons
theorem valA_app (l r : List UInt8) (a : Nat) : valA a (l ++ r) = valA (valA a l) r := by unfold valA; exact List.foldl_append

theorem valA_snoc (a : Nat) (l : List UInt8) (c : UInt8) : valA a (l ++ [c]) = valA a l * 10 + (c.toNat - 48) := by rw [valA_app, valA_cons, valA_nil]

theorem valA_ge : ∀ (l : List UInt8) (a : Nat), a ≤ valA a l
  | [], a => by rw [valA_nil]; exact Nat.le_refl a
  | c :: l, a => by
    have h := valA_ge l (a * 10 + (c.toNat - 48))
    rw [valA_cons]
    exact Nat.le_trans (by omega) h

theorem valA_lt : ∀ (l : List UInt8), (∀ c ∈ l, isDig c) → ∀ a p, a < p → valA a l < p * 10 ^ l.length
  | [], _, a, p, h => by rw [valA_nil]; simpa using h
  | c :: l, hd, a, p, h => by
    have hc := hd c List.mem_cons_self
    unfold isDig at hc
    have h1 := valA_lt l (fun c hc => hd c (List.mem_cons_of_mem _ hc)) (a * 10 + (c.toNat - 48)) (p * 10) (by omega)
    have e : p * 10 ^ (c :: l).length = p * 10 * 10 ^ l.length := by
      rw [List.length_cons, Nat.pow_succ, Nat.mul_assoc, Nat.mul_comm 10]
    rw [e, valA_cons]
    exact h1

theorem dig_of (d : Nat) (h : d < 10) : (UInt8.ofNat (48 + d)).toNat = 48 + d := by
  rw [UInt8.toNat_ofNat_of_lt' (by show 48 + d < 256; omega)]

theorem dig_eq {c : UInt8} (h : isDig c) : UInt8.ofNat (48 + (c.toNat - 48)) = c := by
  unfold isDig at h
  apply UInt8.toNat_inj.1
  rw [dig_of _ (by omega)]
  omega

theorem dec_big {u : Nat} (h : ¬ u < 10) : Lib.decDigits u = Lib.decDigits (u / 10) ++ [UInt8.ofNat (48 + u % 10)] := by
  rw [Lib.decDigits, dif_neg h]

theorem dec_digits (u : Nat) : ∀ c ∈ Lib.decDigits u, isDig c := by
  induction u using Nat.strongRecOn with
  | _ u ih =>
    intro c hc
    by_cases h : u < 10
    · rw [Lib.decDigits_one h] at hc
      have := List.mem_singleton.1 hc
      subst this
      unfold isDig
      rw [dig_of u h]; omega
    · rw [dec_big h] at hc
      rcases List.mem_append.1 hc with hc | hc
      · exact ih (u / 10) (by omega) c hc
      · have := List.mem_singleton.1 hc
        subst this
        unfold isDig
        rw [dig_of _ (by omega)]; omega

theorem dec_val (u : Nat) : valA 0 (Lib.decDigits u) = u := by
  induction u using Nat.strongRecOn with
  | _ u ih =>
    by_cases h : u < 10
    · rw [Lib.decDigits_one h]
      rw [valA_cons, valA_nil, dig_of u h]; omega
    · rw [dec_big h, valA_snoc, ih (u / 10) (by omega), dig_of _ (by omega)]; omega

theorem dec_ne (u : Nat) : Lib.decDigits u ≠ [] := by
  intro h
  have := Lib.decDigits_length u
  rw [h] at this
  have := Lib.nDigits_pos u
  simp at *
  omega

/-- The first digit is no 0 but of 0 itself. -/
theorem dec_head (u : Nat) (h : 1 ≤ u) : ∃ c r, Lib.decDigits u = c :: r ∧ c.toNat ≠ 48 := by
  induction u using Nat.strongRecOn with
  | _ u ih =>
    by_cases hu : u < 10
    · refine ⟨UInt8.ofNat (48 + u), [], Lib.decDigits_one hu, ?_⟩
      rw [dig_of u hu]; omega
    · obtain ⟨c, r, e, hc⟩ := ih (u / 10) (by omega) (by omega)
      exact ⟨c, r ++ [UInt8.ofNat (48 + u % 10)], by rw [dec_big hu, e]; rfl, hc⟩

theorem dec_snoc (a d : Nat) (ha : 1 ≤ a) (hd : d < 10) : Lib.decDigits (a * 10 + d) = Lib.decDigits a ++ [UInt8.ofNat (48 + d)] := by
  rw [dec_big (by omega), show (a * 10 + d) / 10 = a by omega, show (a * 10 + d) % 10 = d by omega]

/-- Digits, the first no 0, are their number's numeral. -/
theorem val_dec : ∀ (n : Nat) (c : UInt8) (r : List UInt8), r.length = n → (∀ x ∈ c :: r, isDig x) → (c.toNat ≠ 48 ∨ r = []) → Lib.decDigits (valA 0 (c :: r)) = c :: r ∧ (c.toNat ≠ 48 → 1 ≤ valA 0 (c :: r)) := by
  intro n
  induction n with
  | zero =>
    intro c r hr hd h
    obtain rfl : r = [] := List.eq_nil_of_length_eq_zero hr
    have hc := hd c List.mem_cons_self
    have hc' := hc
    unfold isDig at hc'
    refine ⟨?_, fun h => ?_⟩
    · rw [valA_cons, valA_nil, Nat.zero_mul, Nat.zero_add, Lib.decDigits_one (by omega), dig_eq hc]
    · rw [valA_cons, valA_nil]
      omega
  | succ n ih =>
    intro c r hr hd h
    have hne : r ≠ [] := fun e => by subst e; simp at hr
    have h48 : c.toNat ≠ 48 := h.resolve_right hne
    have e := List.dropLast_concat_getLast hne
    have hl : (r.dropLast).length = n := by simp; omega
    have hmem : ∀ x ∈ c :: r.dropLast, isDig x := fun x hx => by
      rcases List.mem_cons.1 hx with rfl | hx
      · exact hd _ List.mem_cons_self
      · exact hd _ (List.mem_cons_of_mem _ (List.dropLast_subset r hx))
    obtain ⟨i1, i2⟩ := ih c r.dropLast hl hmem (.inl h48)
    have i3 := i2 h48
    have hlast : isDig (r.getLast hne) := hd _ (List.mem_cons_of_mem _ (List.getLast_mem hne))
    have hlast' := hlast
    unfold isDig at hlast'
    have ev : valA 0 (c :: r) = valA 0 (c :: r.dropLast) * 10 + ((r.getLast hne).toNat - 48) := by
      rw [← valA_snoc]
      congr 1
      rw [List.cons_append, e]
    refine ⟨?_, fun _ => by omega⟩
    rw [ev, dec_snoc _ _ i3 (by omega), i1, dig_eq hlast, List.cons_append, e]

/-- ParseUint reads digits. -/
theorem parseM_ok {M : Nat} (hM : M ≤ 18446744073709551615) : ∀ (l : List UInt8) (a : Nat), (∀ c ∈ l, isDig c) → valA a l ≤ M → Lib.parseUintM M a l = .ok (valA a l)
  | [], a, _, _ => by rw [valA_nil]; rfl
  | c :: r, a, hd, h => by
    have hc := hd c List.mem_cons_self
    unfold isDig at hc
    have hg := valA_ge r (a * 10 + (c.toNat - 48))
    rw [valA_cons] at h ⊢
    simp only [Lib.parseUintM]
    rw [if_pos hc, if_neg (by omega), if_neg (by omega)]
    exact parseM_ok hM r _ (fun x hx => hd x (List.mem_cons_of_mem _ hx)) h

theorem parseU_dec (u : Nat) (h : u ≤ 18446744073709551615) : Lib.parseUintB 64 (Lib.decDigits u) = .ok u := by
  have e : (2 : Nat) ^ 64 - 1 = 18446744073709551615 := by decide
  unfold Lib.parseUintB
  rw [if_neg (dec_ne u), e, parseM_ok (Nat.le_refl _) _ _ (dec_digits u) (by rw [dec_val]; exact h), dec_val]

theorem parse_itoa {n : Int} (h : W64 n) : Lib.parseIntB 64 (Lib.itoa n) = .ok n := by
  have e : (2 : Nat) ^ (64 - 1) = 9223372036854775808 := by decide
  obtain ⟨h0, h1⟩ := h
  by_cases hneg : n < 0
  · obtain ⟨u, rfl⟩ : ∃ u : Nat, n = -(u : Int) := ⟨n.natAbs, by omega⟩
    rw [Lib.itoa_neg u (by omega), Lib.parseIntB_minus, parseU_dec u (by omega), Lib.signedC, e, if_neg (by omega)]
  · obtain ⟨u, rfl⟩ : ∃ u : Nat, n = u := ⟨n.toNat, by omega⟩
    rw [Lib.itoa_nonneg]
    have hu := parseU_dec u (by omega)
    have hd := dec_digits u
    cases hl : Lib.decDigits u with
    | nil => exact absurd hl (dec_ne u)
    | cons c r =>
      rw [hl] at hu hd
      have hc := hd c List.mem_cons_self
      unfold isDig at hc
      rw [Lib.parseIntB_plain 64 c r (by omega) (by omega), hu, Lib.signlessC, e, if_neg (by omega)]

/-- l is the Show of v. -/
def IsShow (l : List UInt8) (v : Int) : Prop := W64 v ∧ Lib.itoa v = l

theorem IsShow.one {l : List UInt8} {v v' : Int} (h : IsShow l v) (h' : IsShow l v') : v = v' := by
  have e := parse_itoa h.1
  have e' := parse_itoa h'.1
  rw [h.2] at e
  rw [h'.2, e] at e'
  injection e'

/-- Which number a word is. -/
def numV (l : List UInt8) : Int × Bool := match Lib.parseIntB 64 l with
  | .ok v => if Lib.itoa v = l then (v, true) else (0, false)
  | .syntax => (0, false)
  | .range => (0, false)

theorem numV_yes {l : List UInt8} {v : Int} (h : IsShow l v) : numV l = (v, true) := by
  unfold numV
  have e := parse_itoa h.1
  rw [h.2] at e
  rw [e]
  simp [h.2]

theorem parse_w64 {l : List UInt8} {v : Int} (h : Lib.parseIntB 64 l = .ok v) : W64 v := by
  have := Lib.parseIntB_bounds h
  have e : (2 : Nat) ^ (64 - 1) = 9223372036854775808 := by decide
  rw [e] at this
  unfold W64
  omega

theorem numV_no {l : List UInt8} (h : ∀ v, ¬ IsShow l v) : numV l = (0, false) := by
  unfold numV
  cases e : Lib.parseIntB 64 l with
  | ok v =>
    by_cases h' : Lib.itoa v = l
    · exact absurd ⟨parse_w64 e, h'⟩ (h v)
    · simp [h']
  | «syntax» => rfl
  | range => rfl

theorem numV_cases (l : List UInt8) : (∃ v, IsShow l v ∧ numV l = (v, true)) ∨ ((∀ v, ¬ IsShow l v) ∧ numV l = (0, false)) := by
  by_cases h : ∃ v, IsShow l v
  · obtain ⟨v, hv⟩ := h
    exact .inl ⟨v, hv, numV_yes hv⟩
  · have h' : ∀ v, ¬ IsShow l v := fun v hv => h ⟨v, hv⟩
    exact .inr ⟨h', numV_no h'⟩

/-- The two forms of a Show. -/
theorem IsShow.form {l : List UInt8} {v : Int} (h : IsShow l v) : (∃ u : Nat, v = u ∧ u ≤ 9223372036854775807 ∧ l = Lib.decDigits u) ∨ (∃ u : Nat, v = -(u : Int) ∧ 1 ≤ u ∧ u ≤ 9223372036854775808 ∧ l = 45 :: Lib.decDigits u) := by
  obtain ⟨⟨h0, h1⟩, h2⟩ := h
  by_cases hneg : v < 0
  · obtain ⟨u, rfl⟩ : ∃ u : Nat, v = -(u : Int) := ⟨v.natAbs, by omega⟩
    rw [Lib.itoa_neg u (by omega)] at h2
    exact .inr ⟨u, rfl, by omega, by omega, h2.symm⟩
  · obtain ⟨u, rfl⟩ : ∃ u : Nat, v = u := ⟨v.toNat, by omega⟩
    rw [Lib.itoa_nonneg] at h2
    exact .inl ⟨u, rfl, by omega, h2.symm⟩

theorem show_pos {u : Nat} (h : u ≤ 9223372036854775807) : IsShow (Lib.decDigits u) u := ⟨⟨by omega, by omega⟩, Lib.itoa_nonneg u⟩
theorem show_neg {u : Nat} (h1 : 1 ≤ u) (h : u ≤ 9223372036854775808) : IsShow (45 :: Lib.decDigits u) (-(u : Int)) := ⟨⟨by omega, by omega⟩, Lib.itoa_neg u h1⟩

theorem dec_len {u k : Nat} (h : u < 10 ^ (k + 1)) : (Lib.decDigits u).length ≤ k + 1 := by
  rw [Lib.decDigits_length]
  rcases Nat.eq_zero_or_pos u with rfl | hu
  · rw [Lib.nDigits_small (by omega)]; omega
  · rcases Nat.lt_or_ge (k + 1) (Lib.nDigits u) with h' | h'
    · exfalso
      have hk := Lib.nDigits_pos u
      have : 10 ^ (Lib.nDigits u - 1) ≤ u := by
        rcases Nat.lt_or_ge u (10 ^ (Lib.nDigits u - 1)) with q | q
        · exfalso
          have h3 : ∀ j, u < 10 ^ (j + 1) → Lib.nDigits u ≤ j + 1 := fun j => by
            induction j with
            | zero => intro hj; rw [Lib.nDigits_small (by simpa using hj)]; omega
            | succ j ih =>
              intro hj
              rcases Nat.lt_or_ge u (10 ^ (j + 1)) with a | a
              · have := ih a; omega
              · rw [Lib.nDigits_unique (j + 1) u a hj]; omega
          obtain ⟨j, hj⟩ : ∃ j, Lib.nDigits u - 1 = j + 1 := ⟨Lib.nDigits u - 2, by omega⟩
          rw [hj] at q
          have := h3 j q
          omega
        · exact q
      have h4 : 10 ^ (k + 1) ≤ 10 ^ (Lib.nDigits u - 1) := Nat.pow_le_pow_right (by decide) (by omega)
      omega
    · exact h'

/-- Which number stands behind a mark. -/
def refV (l : List UInt8) (mark : Int) : Int × Bool := match l with
  | [] => (0, false)
  | c :: r => if (c.toNat : Int) = mark then (if (numV r).2 = true ∧ 0 ≤ (numV r).1 ∧ (numV r).1 ≤ 9999 then ((numV r).1, true) else (0, false)) else (0, false)

theorem refV_long {c : UInt8} {r : List UInt8} (h : 5 ≤ r.length) : ¬ ((numV r).2 = true ∧ 0 ≤ (numV r).1 ∧ (numV r).1 ≤ 9999) := by
  rintro ⟨h1, h2, h3⟩
  rcases numV_cases r with ⟨v, hv, e⟩ | ⟨_, e⟩
  · rw [e] at h2 h3
    simp only at h2 h3
    rcases hv.form with ⟨u, rfl, _, rfl⟩ | ⟨u, rfl, _, _, _⟩
    · have := dec_len (u := u) (k := 3) (by omega)
      omega
    · omega
  · rw [e] at h1; cases h1

theorem numV_nil : numV [] = (0, false) := rfl

end Go.Proofs.YtlakhndnoaoheaaDoor.Lx
