/-
  LexWhere, walked.
-/
import Derived.Test.YtlakhndnoaoheaaLxF
import Derived.Test.YtlakhndnoaoheaaLxQ
import Derived.BigRegion
namespace Go.Proofs.Ytlakhndnoaoheaa.Lx
open Go.RowKit

set_option linter.unusedVariables false

set_option maxRecDepth 10000 in
theorem whereLong (s : ByteArray) (w : World) (hl : (1000 : Int) < s.size) :
    Calls Try.prog 3 #[.string s] w fun e w' => e = .returned (.bool true) ∧ Below w.heap.size w w' := by
  have t0 : decide ((1000 : Int) < (s.size : Int)) = true := by simpa using hl
  go_enter Try.func3, Try.ntmps3
  go_wp2_with fail
  refine (first_true _).mono ?_
  rintro e w1 ⟨rfl, hb1⟩
  go_wp2_with fail
  refine (first_true _).mono ?_
  rintro e w2 ⟨rfl, hb2⟩
  go_wp2_with fail
  go_ret
  exact ⟨rfl, more hb1 hb2⟩

theorem ok_cases {c : Int} (h : okC c = true) : c = 9 ∨ c = 10 ∨ (32 ≤ c ∧ c ≤ 126) := by simp [okC] at h; omega
theorem bad_cases {c : Int} (h : okC c = false) : c ≠ 9 ∧ c ≠ 10 ∧ (c < 32 ∨ 126 < c) := by simp [okC] at h; omega

set_option maxRecDepth 10000 in
set_option maxHeartbeats 1000000 in
theorem whereBad (s : ByteArray) (w : World) (hs : s.size ≤ 1000) (k0 : Nat) (hbad : Bad s k0) (hlines : ∀ w : World, Calls Try.prog 6 #[.string s] w fun e w' => e = .returned (.tuple #[.slice none 0 0, .int .i64 k0, .int .i64 1]) ∧ Below w.heap.size w w') :
    Calls Try.prog 3 #[.string s] w fun e w' => e = .returned (.bool true) ∧ Below w.heap.size w w' := by
  have t0 : decide ((1000 : Int) < (s.size : Int)) = false := by simp; omega
  have HL := hid hlines
  have lt0 := hbad.1
  have HB := hid hbad
  clear hlines hbad
  go_enter Try.func3, Try.ntmps3
  go_wp2_with fail
  refine (first_true _).mono ?_
  rintro e w1 ⟨rfl, hb1⟩
  go_wp2_with fail
  refine (HL.out _).mono ?_
  rintro e w2 ⟨rfl, hb2⟩
  have LOW := hid (more hb1 hb2)
  clear hb1 hb2
  go_wp2_with fail
  go_loop [6] (fun x => ∃ i : Nat, i ≤ k0 ∧ x = .int .i64 i) (fun x => s.size - (intOf x).toNat)
  case atStart => exact ⟨0, Nat.zero_le _, rfl⟩
  case round =>
    obtain ⟨i, hi, rfl⟩ := hrel
    have lk : i < s.size := by omega
    have hx := index_str s lk
    have hcc := at_str s lk
    by_cases e0 : i = k0
    · subst e0
      obtain ⟨h1, h2, h3⟩ := bad_cases HB.out.2.1
      have e1 : (byteAt s i != 9) = true := by simpa using h1
      have e2 : (byteAt s i != 10) = true := by simpa using h2
      have H3 := hid h3
      clear h1 h2 h3
      go_wp2_with fail
      all_goals first
        | (go_ret; exact ⟨rfl, LOW.out⟩)
        | (exfalso; have := H3.out; clear H3 HB HL LOW; go_light; simp_all <;> omega)
    · have H3 := hid (ok_cases (HB.out.2.2 i (by omega)))
      go_wp2_with fail
      all_goals first
        | (go_round; (case rel => exact ⟨i + 1, by omega, by go_num⟩); (case measure => simp [intOf]; omega))
        | (exfalso; have := H3.out; clear H3 HB HL LOW; go_light; simp_all <;> omega)

theorem good_or_bad (s : ByteArray) : Good s ∨ ∃ k, Bad s k := by
  have h : ∀ n, n ≤ s.size → (∀ i, i < n → okC (byteAt s i) = true) ∨ ∃ k, Bad s k := by
    intro n
    induction n with
    | zero => exact fun _ => .inl fun i hi => by omega
    | succ n ih =>
      intro hn
      rcases ih (by omega) with h | h
      · cases hc : okC (byteAt s n) with
        | true =>
          refine .inl fun i hi => ?_
          rcases Nat.lt_or_eq_of_le (Nat.le_of_lt_succ hi) with h' | rfl
          · exact h i h'
          · exact hc
        | false => exact .inr ⟨n, hn, hc, h⟩
      · exact .inr h
  exact h s.size (Nat.le_refl _)

theorem bad_same {s : ByteArray} {i k : Nat} (h : Bad s i) (h' : Bad s k) : i = k := by
  rcases Nat.lt_trichotomy i k with q | q | q
  · have := h'.2.2 i q; rw [h.2.1] at this; cases this
  · exact q
  · have := h.2.2 k q; rw [h'.2.1] at this; cases this

theorem lines_bad (s : ByteArray) (w : World) (hs : s.size ≤ 4000) {k0 : Nat} (hb : Bad s k0) :
    Calls Try.prog 6 #[.string s] w fun e w' => e = .returned (.tuple #[.slice none 0 0, .int .i64 k0, .int .i64 1]) ∧ Below w.heap.size w w' := by
  refine (lines_any s w hs).mono ?_
  rintro e w' ⟨sl, at_, er, rfl, hlow, h⟩
  rcases h with ⟨k, hk, rfl, rfl, rfl⟩ | ⟨hg, _⟩
  · obtain rfl := bad_same hk hb
    exact ⟨rfl, hlow⟩
  · exact (good_not_bad hg hb).elim

theorem lines_good (s : ByteArray) (w : World) (hs : s.size ≤ 4000) (hg : Good s) :
    Calls Try.prog 6 #[.string s] w fun e w' => ∃ sl : Sl, e = .returned (.tuple #[.slice sl.a sl.n sl.c, .int .i64 0, .int .i64 0]) ∧ Below w.heap.size w w' ∧ LinesAt s w' sl := by
  refine (lines_any s w hs).mono ?_
  rintro e w' ⟨sl, at_, er, rfl, hlow, h⟩
  rcases h with ⟨k, hk, rfl, rfl, rfl⟩ | ⟨_, rfl, rfl, h⟩
  · exact (good_not_bad hg hk).elim
  · exact ⟨sl, rfl, hlow, h⟩

end Go.Proofs.Ytlakhndnoaoheaa.Lx
