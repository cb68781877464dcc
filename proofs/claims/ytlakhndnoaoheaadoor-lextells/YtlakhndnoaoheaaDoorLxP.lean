/-
  Words of a text, plainly: what is left to be told from a place on.
-/
import Derived.WalkKit
namespace Go.Proofs.YtlakhndnoaoheaaDoor.Lx

set_option linter.unusedVariables false

/-- What parts words, or ends them. -/
def isSep (c : Int) : Bool := decide (c = 9) || decide (c = 32) || decide (c = 35)

def okC (c : Int) : Bool := decide (c = 9) || decide (c = 10) || (decide (32 ≤ c) && decide (c ≤ 126))

def flush (fr : Option Nat) (i : Nat) : List (Nat × Nat) := match fr with | none => [] | some f => [(f, i)]

/-- A line that has words goes ahead of the others. -/
def conz (r : List (Nat × Nat) × List (List (Nat × Nat))) : List (List (Nat × Nat)) := match r.1 with | [] => r.2 | _ :: _ => r.1 :: r.2

/-- From place i on, d bytes: the words that are left of this line, and the lines behind it. -/
def remA (b : Nat → Int) : Nat → Nat → Bool → Option Nat → List (Nat × Nat) × List (List (Nat × Nat))
  | 0, i, _, fr => (flush fr i, [])
  | d + 1, i, note, fr =>
    if b i = 10 then (flush fr i, conz (remA b d (i + 1) false none))
    else if isSep (b i) = true then (flush fr i ++ (remA b d (i + 1) (note || decide (b i = 35)) none).1, (remA b d (i + 1) (note || decide (b i = 35)) none).2)
    else if note = true then remA b d (i + 1) true none
    else remA b d (i + 1) false (some (fr.getD i))

def rem (b : Nat → Int) (n i : Nat) (note : Bool) (fr : Option Nat) := remA b (n - i) i note fr

def linesOf (b : Nat → Int) (n : Nat) : List (List (Nat × Nat)) := conz (rem b n 0 false none)

theorem rem_end {b : Nat → Int} {n i : Nat} (h : n ≤ i) (note : Bool) (fr : Option Nat) : rem b n i note fr = (flush fr i, []) := by
  unfold rem; rw [show n - i = 0 by omega]; rfl

theorem rem_at {b : Nat → Int} {n i : Nat} (h : i < n) (note : Bool) (fr : Option Nat) : rem b n i note fr =
    if b i = 10 then (flush fr i, conz (rem b n (i + 1) false none))
    else if isSep (b i) = true then (flush fr i ++ (rem b n (i + 1) (note || decide (b i = 35)) none).1, (rem b n (i + 1) (note || decide (b i = 35)) none).2)
    else if note = true then rem b n (i + 1) true none
    else rem b n (i + 1) false (some (fr.getD i)) := by
  unfold rem; rw [show n - i = (n - (i + 1)) + 1 by omega]; rfl

theorem rem_nl {b : Nat → Int} {n i : Nat} (h : i < n) (hb : b i = 10) (note : Bool) (fr : Option Nat) : rem b n i note fr = (flush fr i, conz (rem b n (i + 1) false none)) := by
  rw [rem_at h, if_pos hb]

theorem rem_sep {b : Nat → Int} {n i : Nat} (h : i < n) (hb : b i ≠ 10) (hs : isSep (b i) = true) (note : Bool) (fr : Option Nat) : rem b n i note fr = (flush fr i ++ (rem b n (i + 1) (note || decide (b i = 35)) none).1, (rem b n (i + 1) (note || decide (b i = 35)) none).2) := by
  rw [rem_at h, if_neg hb, if_pos hs]

theorem rem_sep0 {b : Nat → Int} {n i : Nat} (h : i < n) (hb : b i ≠ 10) (hs : isSep (b i) = true) (note : Bool) : rem b n i note none = rem b n (i + 1) (note || decide (b i = 35)) none := by
  rw [rem_sep h hb hs]; simp [flush]

theorem rem_note {b : Nat → Int} {n i : Nat} (h : i < n) (hb : b i ≠ 10) (hs : isSep (b i) = false) (fr : Option Nat) : rem b n i true fr = rem b n (i + 1) true none := by
  rw [rem_at h, if_neg hb, if_neg (by simp [hs]), if_pos rfl]

theorem rem_word {b : Nat → Int} {n i : Nat} (h : i < n) (hb : b i ≠ 10) (hs : isSep (b i) = false) (fr : Option Nat) : rem b n i false fr = rem b n (i + 1) false (some (fr.getD i)) := by
  rw [rem_at h, if_neg hb, if_neg (by simp [hs]), if_neg (by simp)]

theorem isSep_10 {c : Int} (h : isSep c = true) : c ≠ 10 := by rintro rfl; simp [isSep] at h

theorem sep_blank {c : Int} (h : c = 9 ∨ c = 32) : isSep c = true ∧ decide (c = 35) = false := by
  rcases h with rfl | rfl <;> simp [isSep]

/-- A blank says nothing. -/
theorem rem_blank {b : Nat → Int} {n i : Nat} (h : i < n) (hb : b i = 9 ∨ b i = 32) (note : Bool) : rem b n i note none = rem b n (i + 1) note none := by
  obtain ⟨h1, h2⟩ := sep_blank hb
  rw [rem_sep0 h (isSep_10 h1) h1, h2, Bool.or_false]

/-- A remark goes to the line's end. -/
theorem rem_skip {b : Nat → Int} {n e : Nat} (he : e ≤ n) : ∀ (d i : Nat), i + d = e → (∀ j, i ≤ j → j < e → b j ≠ 10) → rem b n i true none = rem b n e true none
  | 0, i, h, _ => by rw [show i = e by omega]
  | d + 1, i, h, hn => by
    have h1 : rem b n i true none = rem b n (i + 1) true none := by
      cases hs : isSep (b i) with
      | true => rw [rem_sep0 (by omega) (hn i (Nat.le_refl _) (by omega)) hs]; simp
      | false => exact rem_note (by omega) (hn i (Nat.le_refl _) (by omega)) hs none
    rw [h1]
    exact rem_skip he d (i + 1) (by omega) (fun j hj => hn j (by omega))

/-- At a line's end. -/
theorem rem_eol {b : Nat → Int} {n e : Nat} (h : e = n ∨ (e < n ∧ b e = 10)) (note : Bool) (fr : Option Nat) : rem b n e note fr = (flush fr e, conz (rem b n (e + 1) false none)) := by
  rcases h with rfl | ⟨h1, h2⟩
  · rw [rem_end (Nat.le_refl _), rem_end (by omega)]; rfl
  · exact rem_nl h1 h2 note fr

/-- A word goes on. -/
theorem rem_run {b : Nat → Int} {n e f : Nat} (he : e ≤ n) : ∀ (d i : Nat), i + d = e → (∀ j, i ≤ j → j < e → b j ≠ 10 ∧ isSep (b j) = false) → rem b n i false (some f) = rem b n e false (some f)
  | 0, i, h, _ => by rw [show i = e by omega]
  | d + 1, i, h, hn => by
    obtain ⟨h1, h2⟩ := hn i (Nat.le_refl _) (by omega)
    rw [rem_word (by omega) h1 h2]
    exact rem_run he d (i + 1) (by omega) (fun j hj => hn j (by omega))

/-- A word ends. -/
theorem rem_flush {b : Nat → Int} {n e f : Nat} (h : n ≤ e ∨ b e = 10 ∨ isSep (b e) = true) : rem b n e false (some f) = ((f, e) :: (rem b n e false none).1, (rem b n e false none).2) := by
  by_cases hn : n ≤ e
  · rw [rem_end hn, rem_end hn]; rfl
  · have hlt : e < n := by omega
    rcases h with h | h | h
    · exact absurd h hn
    · rw [rem_nl hlt h, rem_nl hlt h]; rfl
    · rw [rem_sep hlt (isSep_10 h) h, rem_sep hlt (isSep_10 h) h]; rfl

/-- A whole word. -/
theorem rem_one {b : Nat → Int} {n i e : Nat} (hi : i < e) (he : e ≤ n) (hn : ∀ j, i ≤ j → j < e → b j ≠ 10 ∧ isSep (b j) = false) (h : n ≤ e ∨ b e = 10 ∨ isSep (b e) = true) :
    rem b n i false none = ((i, e) :: (rem b n e false none).1, (rem b n e false none).2) := by
  obtain ⟨h1, h2⟩ := hn i (Nat.le_refl _) hi
  rw [rem_word (by omega) h1 h2, show (none : Option Nat).getD i = i from rfl, rem_run he (e - (i + 1)) (i + 1) (by omega) (fun j hj => hn j (by omega)), rem_flush h]

/-- Where a word that begins here ends. -/
theorem word_ends {b : Nat → Int} {n : Nat} : ∀ (d i : Nat), i + d = n → b i ≠ 10 → isSep (b i) = false → 0 < d →
    ∃ e, i < e ∧ e ≤ n ∧ (∀ j, i ≤ j → j < e → b j ≠ 10 ∧ isSep (b j) = false) ∧ (n ≤ e ∨ b e = 10 ∨ isSep (b e) = true)
  | 0, _, _, _, _, h => absurd h (by omega)
  | d + 1, i, h, h1, h2, _ => by
    by_cases hd : d = 0
    · exact ⟨i + 1, by omega, by omega, fun j hj hj' => by rw [show j = i by omega]; exact ⟨h1, h2⟩, .inl (by omega)⟩
    by_cases h3 : b (i + 1) = 10
    · exact ⟨i + 1, by omega, by omega, fun j hj hj' => by rw [show j = i by omega]; exact ⟨h1, h2⟩, .inr (.inl h3)⟩
    cases h4 : isSep (b (i + 1)) with
    | true => exact ⟨i + 1, by omega, by omega, fun j hj hj' => by rw [show j = i by omega]; exact ⟨h1, h2⟩, .inr (.inr h4)⟩
    | false =>
      obtain ⟨e, e1, e2, e3, e4⟩ := word_ends (n := n) d (i + 1) (by omega) h3 h4 (by omega)
      refine ⟨e, by omega, e2, fun j hj hj' => ?_, e4⟩
      by_cases hij : j = i
      · rw [hij]; exact ⟨h1, h2⟩
      · exact e3 j (by omega) hj'

/-- One step where no word is open: one of five. -/
theorem rem_step (b : Nat → Int) (n i : Nat) (note : Bool) :
    (n ≤ i ∧ rem b n i note none = ([], [])) ∨ (i < n ∧ b i = 10 ∧ rem b n i note none = ([], conz (rem b n (i + 1) false none))) ∨
    (i < n ∧ b i ≠ 10 ∧ (note = true ∨ isSep (b i) = true) ∧ rem b n i note none = rem b n (i + 1) (note || decide (b i = 35)) none) ∨
    (i < n ∧ b i ≠ 10 ∧ note = false ∧ isSep (b i) = false ∧ ∃ e, i < e ∧ e ≤ n ∧ rem b n i note none = ((i, e) :: (rem b n e false none).1, (rem b n e false none).2)) := by
  by_cases hn : n ≤ i
  · exact .inl ⟨hn, rem_end hn _ _⟩
  have hi : i < n := by omega
  by_cases h1 : b i = 10
  · exact .inr (.inl ⟨hi, h1, rem_nl hi h1 _ _⟩)
  cases h2 : isSep (b i) with
  | true => exact .inr (.inr (.inl ⟨hi, h1, .inr rfl, rem_sep0 hi h1 h2 note⟩))
  | false =>
    cases note with
    | true => exact .inr (.inr (.inl ⟨hi, h1, .inl rfl, by rw [rem_note hi h1 h2]; rfl⟩))
    | false =>
      obtain ⟨e, e1, e2, e3, e4⟩ := word_ends (b := b) (n := n) (n - i) i (by omega) h1 h2 (by omega)
      exact .inr (.inr (.inr ⟨hi, h1, rfl, rfl, e, e1, e2, rem_one e1 e2 e3 e4⟩))

theorem conz_mem {r : List (Nat × Nat) × List (List (Nat × Nat))} {l : List (Nat × Nat)} (h : l ∈ conz r) : (l = r.1 ∧ r.1 ≠ []) ∨ l ∈ r.2 := by
  obtain ⟨c, t⟩ := r
  cases c with
  | nil => exact .inr h
  | cons x y =>
    simp [conz] at h
    rcases h with h | h
    · exact .inl ⟨h, by simp⟩
    · exact .inr h

/-- Where words lie: behind i, not behind n; none is empty; no line is empty. -/
theorem rem_pos (b : Nat → Int) (n : Nat) : ∀ (d i : Nat), n - i = d → i ≤ n + 1 → ∀ note, (∀ x ∈ (rem b n i note none).1, i ≤ x.1 ∧ x.1 < x.2 ∧ x.2 ≤ n) ∧ (∀ l ∈ (rem b n i note none).2, l ≠ [] ∧ ∀ x ∈ l, i ≤ x.1 ∧ x.1 < x.2 ∧ x.2 ≤ n) := by
  intro d
  induction d using Nat.strongRecOn with
  | ind d ih =>
    intro i hd hi note
    rcases rem_step b n i note with ⟨_, e⟩ | ⟨h1, _, e⟩ | ⟨h1, _, _, e⟩ | ⟨h1, _, _, _, f, f1, f2, e⟩
    · rw [e]; simp
    · rw [e]
      obtain ⟨p1, p2⟩ := ih (n - (i + 1)) (by omega) (i + 1) rfl (by omega) false
      refine ⟨by simp, fun l hl => ?_⟩
      rcases conz_mem hl with ⟨rfl, hne⟩ | hl
      · exact ⟨hne, fun x hx => by have := p1 x hx; omega⟩
      · exact ⟨(p2 l hl).1, fun x hx => by have := (p2 l hl).2 x hx; omega⟩
    · rw [e]
      obtain ⟨p1, p2⟩ := ih (n - (i + 1)) (by omega) (i + 1) rfl (by omega) (note || decide (b i = 35))
      exact ⟨fun x hx => by have := p1 x hx; omega, fun l hl => ⟨(p2 l hl).1, fun x hx => by have := (p2 l hl).2 x hx; omega⟩⟩
    · rw [e]
      obtain ⟨p1, p2⟩ := ih (n - f) (by omega) f rfl (by omega) false
      refine ⟨fun x hx => ?_, fun l hl => ⟨(p2 l hl).1, fun x hx => by have := (p2 l hl).2 x hx; omega⟩⟩
      rcases List.mem_cons.1 hx with rfl | hx
      · exact ⟨Nat.le_refl _, f1, f2⟩
      · have := p1 x hx; omega

theorem conz_pos (b : Nat → Int) (n i : Nat) (hi : i ≤ n + 1) (note : Bool) : ∀ l ∈ conz (rem b n i note none), l ≠ [] ∧ ∀ x ∈ l, i ≤ x.1 ∧ x.1 < x.2 ∧ x.2 ≤ n := fun l hl => by
  obtain ⟨p1, p2⟩ := rem_pos b n (n - i) i rfl hi note
  rcases conz_mem hl with ⟨rfl, hne⟩ | hl
  · exact ⟨hne, p1⟩
  · exact p2 l hl

theorem lines_pos (b : Nat → Int) (n : Nat) : ∀ l ∈ linesOf b n, l ≠ [] ∧ ∀ x ∈ l, x.1 < x.2 ∧ x.2 ≤ n := fun l hl =>
  ⟨(conz_pos b n 0 (by omega) false l hl).1, fun x hx => ((conz_pos b n 0 (by omega) false l hl).2 x hx).2⟩

/-- How many words, how many lines: no more than bytes. -/
def words : List (List (Nat × Nat)) → Nat
  | [] => 0
  | l :: r => l.length + words r

theorem words_conz (r : List (Nat × Nat) × List (List (Nat × Nat))) : words (conz r) = r.1.length + words r.2 := by
  obtain ⟨c, t⟩ := r
  cases c <;> simp [conz, words]

theorem rem_words (b : Nat → Int) (n : Nat) : ∀ (d i : Nat), n - i = d → ∀ note, (rem b n i note none).1.length + words (rem b n i note none).2 ≤ d := by
  intro d
  induction d using Nat.strongRecOn with
  | ind d ih =>
    intro i hd note
    rcases rem_step b n i note with ⟨_, e⟩ | ⟨h1, _, e⟩ | ⟨h1, _, _, e⟩ | ⟨h1, _, _, _, f, f1, f2, e⟩
    · rw [e]; simp [words]
    · rw [e]
      have := ih (n - (i + 1)) (by omega) (i + 1) rfl false
      simp only [List.length_nil, words_conz]; omega
    · rw [e]
      have := ih (n - (i + 1)) (by omega) (i + 1) rfl (note || decide (b i = 35))
      omega
    · rw [e]
      have := ih (n - f) (by omega) f rfl false
      simp only [List.length_cons]; omega

theorem lines_words (b : Nat → Int) (n : Nat) : words (linesOf b n) ≤ n := by
  unfold linesOf; rw [words_conz]; exact rem_words b n (n - 0) 0 rfl false

theorem words_le {R : List (List (Nat × Nat))} : ∀ l ∈ R, l.length ≤ words R := by
  induction R with
  | nil => simp
  | cons x R ih =>
    intro l hl
    rcases List.mem_cons.1 hl with rfl | hl
    · simp [words]
    · have := ih l hl; simp only [words]; omega

theorem words_ge {R : List (List (Nat × Nat))} (h : ∀ l ∈ R, l ≠ []) : R.length ≤ words R := by
  induction R with
  | nil => simp
  | cons x R ih =>
    have h1 := ih (fun l hl => h l (List.mem_cons_of_mem _ hl))
    have h2 : 0 < x.length := List.length_pos_iff.2 (h x List.mem_cons_self)
    simp only [words, List.length_cons]; omega

theorem lines_len (b : Nat → Int) (n : Nat) : (linesOf b n).length ≤ n :=
  Nat.le_trans (words_ge fun l hl => (lines_pos b n l hl).1) (lines_words b n)

theorem line_len (b : Nat → Int) (n : Nat) : ∀ l ∈ linesOf b n, l.length ≤ n := fun l hl => Nat.le_trans (words_le l hl) (lines_words b n)

/-- Two texts, an end of a line between. -/
def sh (m : Nat) (x : Nat × Nat) : Nat × Nat := (x.1 + m, x.2 + m)

theorem conz_sh (m : Nat) (r : List (Nat × Nat) × List (List (Nat × Nat))) : conz (r.1.map (sh m), r.2.map (List.map (sh m))) = (conz r).map (List.map (sh m)) := by
  obtain ⟨c, t⟩ := r
  cases c <;> rfl

theorem rem_behind {b c : Nat → Int} {n nc m : Nat} (hn : nc = n + m) (hc : ∀ i, i < n → c (i + m) = b i) : ∀ (d i : Nat), n - i = d → ∀ note fr,
    rem c nc (i + m) note (fr.map (· + m)) = ((rem b n i note fr).1.map (sh m), (rem b n i note fr).2.map (List.map (sh m))) := by
  intro d
  induction d with
  | zero =>
    intro i hd note fr
    rw [rem_end (by omega), rem_end (by omega)]
    cases fr <;> rfl
  | succ d ih =>
    intro i hd note fr
    have h1 : ∀ fr, flush (fr.map (· + m)) (i + m) = (flush fr i).map (sh m) := fun fr => by cases fr <;> rfl
    rw [rem_at (show i + m < nc by omega), rem_at (show i < n by omega), hc i (by omega), show i + m + 1 = i + 1 + m by omega]
    have h2 := fun note => ih (i + 1) (by omega) note none
    simp only [Option.map_none] at h2
    split
    · rw [h1, h2, conz_sh]
    split
    · rw [h1, h2, List.map_append]
    split
    · exact h2 true
    · have := ih (i + 1) (by omega) false (some (fr.getD i))
      cases fr <;> exact this

theorem conz_app (r : List (Nat × Nat) × List (List (Nat × Nat))) (X : List (List (Nat × Nat))) : conz (r.1, r.2 ++ X) = conz r ++ X := by
  obtain ⟨c, t⟩ := r
  cases c <;> rfl

theorem rem_ahead {a c : Nat → Int} {n nc : Nat} (hn : n < nc) (hc : ∀ i, i < n → c i = a i) (h10 : c n = 10) : ∀ (d i : Nat), n - i = d → i ≤ n → ∀ note fr,
    rem c nc i note fr = ((rem a n i note fr).1, (rem a n i note fr).2 ++ conz (rem c nc (n + 1) false none)) := by
  intro d
  induction d with
  | zero =>
    intro i hd hi note fr
    obtain rfl : i = n := by omega
    rw [rem_end (b := a) (Nat.le_refl _), rem_nl hn h10]; rfl
  | succ d ih =>
    intro i hd hi note fr
    rw [rem_at (show i < nc by omega), rem_at (show i < n by omega), hc i (by omega)]
    have h2 := fun note fr => ih (i + 1) (by omega) (by omega) note fr
    split
    · rw [h2, conz_app]
    split
    · rw [h2]
    split
    · exact h2 _ _
    · exact h2 _ _

theorem lines_joined {a b c : Nat → Int} {na nb : Nat} (ha : ∀ i, i < na → c i = a i) (h10 : c na = 10) (hb : ∀ i, i < nb → c (i + (na + 1)) = b i) :
    linesOf c (nb + (na + 1)) = linesOf a na ++ (linesOf b nb).map (List.map (sh (na + 1))) := by
  unfold linesOf
  rw [rem_ahead (n := na) (by omega) ha h10 (na - 0) 0 rfl (by omega), conz_app]
  have := rem_behind (m := na + 1) rfl hb (nb - 0) 0 rfl false none
  simp only [Option.map_none, Nat.zero_add] at this
  rw [this, conz_sh]

end Go.Proofs.YtlakhndnoaoheaaDoor.Lx
