/-
  Depth-first trees, heads and what is always ahead: the plain part (no program).
-/

namespace Go.Proofs.Ytbmfimojhcdnbaa.Lt

set_option linter.unusedVariables false

/-- i is j or above it in the tree. -/
inductive Anc (par : Nat → Nat) (i : Nat) : Nat → Prop
  | refl : Anc par i i
  | up {j : Nat} : 0 < j → Anc par i (par j) → Anc par i j

/-- A depth-first tree over the places below m. -/
structure Dfs (m : Nat) (e : Nat → Nat → Prop) (par : Nat → Nat) : Prop where
  pos : 0 < m
  closed : ∀ i j, i < m → e i j → j < m
  lt : ∀ p, 0 < p → p < m → par p < p
  edge : ∀ p, 0 < p → p < m → e (par p) p
  fwd : ∀ i j, i < m → e i j → i < j → Anc par i j
  last : ∀ p, p + 1 < m → Anc par (par (p + 1)) p

theorem Anc.trans {par : Nat → Nat} {a b c : Nat} (h1 : Anc par a b) (h2 : Anc par b c) : Anc par a c := by
  induction h2 with
  | refl => exact h1
  | up h0 _ ih => exact .up h0 ih

section
variable {m : Nat} {e : Nat → Nat → Prop} {par : Nat → Nat}

theorem Anc.le (D : Dfs m e par) {i j : Nat} (h : Anc par i j) (hj : j < m) : i ≤ j := by
  induction h with
  | refl => exact Nat.le_refl _
  | @up j h0 _ ih => have := D.lt j h0 hj; have := ih (by omega); omega

/-- Two above the same: one above the other. -/
theorem Anc.chain (D : Dfs m e par) {a b c : Nat} (h1 : Anc par a c) (h2 : Anc par b c) (hab : a ≤ b) (hc : c < m) : Anc par a b := by
  induction h2 with
  | refl => exact h1
  | @up j h0 hb ih =>
    cases h1 with
    | refl => have := hb.le D (by have := D.lt _ h0 hc; omega); have := D.lt _ h0 hc; omega
    | up _ ha => exact ih ha (by have := D.lt j h0 hc; omega)

theorem Anc.par_of {i j : Nat} (h : Anc par i j) (hne : i ≠ j) : Anc par i (par j) := by
  cases h with
  | refl => exact absurd rfl hne
  | up _ h => exact h

theorem Anc.root (D : Dfs m e par) : ∀ j, j < m → Anc par 0 j := by
  intro j
  induction j using Nat.strongRecOn with
  | _ j ih =>
    intro hj
    by_cases h : j = 0
    · subst h; exact .refl
    · exact .up (by omega) (ih _ (D.lt j (by omega) hj) (by have := D.lt j (by omega) hj; omega))

/-- What is below one lies side by side. -/
theorem Anc.between (D : Dfs m e par) {x y : Nat} : ∀ {z : Nat}, z < m → Anc par x z → x ≤ y → y ≤ z → Anc par x y := by
  intro z
  induction z with
  | zero => intro _ h h1 h2; obtain rfl : y = 0 := by omega
            exact h
  | succ z ih =>
    intro hz h h1 h2
    by_cases e1 : y = z + 1
    · subst e1; exact h
    · have hne : x ≠ z + 1 := by omega
      exact ih (by omega) ((h.par_of hne).trans (D.last z hz)) h1 (by omega)

/-- From x a way to w whose steps between lie behind w. -/
inductive Hp (e : Nat → Nat → Prop) (w : Nat) : Nat → Prop
  | last {x : Nat} : e x w → Hp e w x
  | step {x y : Nat} : e x y → w < y → Hp e w y → Hp e w x

theorem edge_below (D : Dfs m e par) {x y y' w : Nat} (hx : Anc par x y) (he : e y y') (hy : y < m) (h1 : x ≤ y') : Anc par x y' := by
  by_cases h : y < y'
  · exact hx.trans (D.fwd y y' hy he h)
  · exact Anc.between D hy hx h1 (by omega)

theorem Hp.anc_of (D : Dfs m e par) {w x y : Nat} (h : Hp e w y) (hxw : x < w) (hx : Anc par x y) (hy : y < m) : Anc par x w := by
  induction h with
  | last he => exact edge_below (w := w) D hx he hy (by omega)
  | @step y y' he hw _ ih => exact ih (edge_below (w := w) D hx he hy (by omega)) (D.closed _ _ hy he)

theorem Hp.anc (D : Dfs m e par) {w x : Nat} (h : Hp e w x) (hxw : x < w) (hm : x < m) : Anc par x w := h.anc_of D hxw .refl hm

theorem Hp.further {u w x : Nat} (h : Hp e u x) (hu : w < u) (hw : Hp e w u) : Hp e w x := by
  induction h with
  | last he => exact .step he hu hw
  | step he hy _ ih => exact .step he (by omega) ih

theorem Hp.up (D : Dfs m e par) {u v w : Nat} (h : Anc par u v) (hv : v < m) (hw : w < u) (hp : Hp e w v) : Hp e w u := by
  induction h with
  | refl => exact hp
  | @up j h0 ha ih =>
    have h1 := D.lt j h0 hv
    have h2 := ha.le D (by omega)
    exact ih (by omega) (.step (D.edge j h0 hv) (by omega) hp)

/-- From x on to y, all behind w. -/
inductive HiTo (e : Nat → Nat → Prop) (w x : Nat) : Nat → Prop
  | one {y : Nat} : e x y → w < y → HiTo e w x y
  | more {y z : Nat} : HiTo e w x y → e y z → w < z → HiTo e w x z

theorem HiTo.hp {w x y : Nat} (h : HiTo e w x y) (hp : Hp e w y) : Hp e w x := by
  induction h with
  | one he hy => exact .step he hy hp
  | more _ he hz ih => exact ih (.step he hz hp)

/-- The way splits at a block above its last one, to which it comes from behind that. -/
theorem Hp.split (D : Dfs m e par) {w x : Nat} (h : Hp e w x) (hm : x < m) : e x w ∨ ∃ v u, e v w ∧ w < u ∧ v < m ∧ Anc par u v ∧ Hp e u x := by
  induction h with
  | last he => exact .inl he
  | @step x y he hy hp ih =>
    have hym := D.closed _ _ hm he
    rcases ih hym with h1 | ⟨v, u, hv, hu, hvm, ha, hpu⟩
    · exact .inr ⟨y, y, h1, hy, hym, .refl, .last he⟩
    · rcases Nat.lt_trichotomy y u with h | h | h
      · exact .inr ⟨v, y, hv, hy, hvm, (hpu.anc D h hym).trans ha, .last he⟩
      · subst h; exact .inr ⟨v, y, hv, hu, hvm, ha, .last he⟩
      · exact .inr ⟨v, u, hv, hu, hvm, ha, .step he h hpu⟩

/-- What a head is: a way leads from it, and from none below. -/
structure Head (m : Nat) (e : Nat → Nat → Prop) (w h : Nat) : Prop where
  lt : h < w
  way : Hp e w h
  least : ∀ x, x < w → Hp e w x → h ≤ x

/-- Reached around a. -/
inductive Av (e : Nat → Nat → Prop) (a : Nat) : Nat → Prop
  | root : a ≠ 0 → Av e a 0
  | step {x y : Nat} : Av e a x → e x y → y ≠ a → Av e a y

theorem Av.ne {a y : Nat} (h : Av e a y) : y ≠ a := by
  cases h with
  | root h => exact fun e => h e.symm
  | step _ _ h => exact h

theorem av_tree (D : Dfs m e par) {d : Nat} : ∀ x, x < m → ¬ Anc par d x → Av e d x := by
  intro x
  induction x using Nat.strongRecOn with
  | _ x ih =>
    intro hx h
    by_cases h0 : x = 0
    · subst h0; exact .root (fun e => h (e ▸ .refl))
    · have h1 := D.lt x (by omega) hx
      exact .step (ih _ h1 (by omega) (fun ha => h (.up (by omega) ha))) (D.edge x (by omega) hx) (fun e => h (e ▸ .refl))

theorem over_anc (D : Dfs m e par) {d x : Nat} (hx : x < m) (h : ¬ Av e d x) : Anc par d x := Classical.byContradiction fun hn => h (av_tree D x hx hn)

theorem Av.hp {d w x : Nat} (h : Hp e w x) (hd : d < w) (ha : Av e d x) : Av e d w := by
  induction h with
  | last he => exact .step ha he (by omega)
  | step he hy _ ih => exact ih (.step ha he (by omega))

theorem Av.down (D : Dfs m e par) {d x y : Nat} (h : Anc par x y) (hy : y < m) (hd : d < x) (ha : Av e d x) : Av e d y := by
  induction h with
  | refl => exact ha
  | @up j h0 hxj ih =>
    have h1 := D.lt j h0 hy
    have h2 := hxj.le D (by omega)
    exact .step (ih (by omega)) (D.edge j h0 hy) (by omega)

/-- Over a block, itself left out: not behind its head. -/
theorem over_le (D : Dfs m e par) {d w h : Nat} (hw : w < m) (hh : Head m e w h) (hd : ¬ Av e d w) (hne : d ≠ w) : d ≤ h := by
  have h1 := (over_anc D hw hd).le D hw
  refine Classical.byContradiction fun hgt => hd ?_
  exact Av.hp hh.way (by omega) (av_tree D h (by have := hh.lt; omega) (fun ha => by have := ha.le D (by have := hh.lt; omega); omega))

theorem over_par (D : Dfs m e par) {d w : Nat} (hw : w < m) (h0 : 0 < w) (hd : ¬ Av e d w) (hne : d ≠ w) : ¬ Av e d (par w) :=
  fun h => hd (.step h (D.edge w h0 hw) (fun e => hne e.symm))

theorem av_last {d w : Nat} (h0 : 0 < w) {y : Nat} (h : Av e d y) : w ≤ y → ∃ x, x < w ∧ Av e d x ∧ (Hp e w x ∨ (w < y ∧ HiTo e w x y)) := by
  induction h with
  | root _ => intro h; omega
  | @step x y hx he hy ih =>
    intro hwy
    by_cases hxw : x < w
    · by_cases hyw : y = w
      · subst hyw; exact ⟨x, hxw, hx, .inl (.last he)⟩
      · exact ⟨x, hxw, hx, .inr ⟨by omega, .one he (by omega)⟩⟩
    · obtain ⟨x', h1, h2, h3 | ⟨h3, h4⟩⟩ := ih (by omega)
      · exact ⟨x', h1, h2, .inl h3⟩
      · by_cases hyw : y = w
        · subst hyw; exact ⟨x', h1, h2, .inl (h4.hp (.last he))⟩
        · exact ⟨x', h1, h2, .inr ⟨by omega, .more h4 he (by omega)⟩⟩

theorem over_of_par (D : Dfs m e par) {d w h : Nat} (hw : w < m) (h0 : 0 < w) (hh : Head m e w h) (hd : ¬ Av e d (par w)) (hle : d ≤ h) : ¬ Av e d w := by
  intro ha
  obtain ⟨x, hx, hax, h3 | ⟨h3, _⟩⟩ := av_last h0 ha (Nat.le_refl _)
  · have h4 := hh.least x hx h3
    have h5 := hax.ne
    have h6 := (h3.anc D hx (by omega)).par_of (by omega)
    exact hd (Av.down D h6 (by have := D.lt w h0 hw; omega) (by omega) hax)
  · omega

theorem av_through {a d y : Nat} (h : Av e d y) : Av e d a ∨ Av e a y := by
  induction h with
  | root h =>
    by_cases h0 : a = 0
    · subst h0; exact .inl (.root h)
    · exact .inr (.root h0)
  | @step x y hx he hy ih =>
    rcases ih with h | h
    · exact .inl h
    · by_cases hya : y = a
      · subst hya; exact .inl (.step hx he hy)
      · exact .inr (.step h he hya)

theorem over_trans {a b c : Nat} (h1 : ¬ Av e a b) (h2 : ¬ Av e b c) : ¬ Av e a c := fun h => by
  rcases av_through (a := b) h with h | h
  · exact h1 h
  · exact h2 h

theorem over_chain (D : Dfs m e par) {a b c : Nat} (hc : c < m) (h1 : ¬ Av e a c) (h2 : ¬ Av e b c) (hab : a < b) : ¬ Av e a b := fun h =>
  h1 (Av.down D (over_anc D hc h2) hc hab h)

theorem over_self (a : Nat) : ¬ Av e a a := fun h => h.ne rfl

theorem over_anti (D : Dfs m e par) {a b : Nat} (ha : a < m) (hb : b < m) (h1 : ¬ Av e a b) (h2 : ¬ Av e b a) : a = b := by
  have := (over_anc D hb h1).le D hb
  have := (over_anc D ha h2).le D ha
  omega

/-- The nearest one over w. -/
structure Near (m : Nat) (e : Nat → Nat → Prop) (w o : Nat) : Prop where
  lt : o < w
  over : ¬ Av e o w
  low : ∀ d, d ≠ w → ¬ Av e d w → ¬ Av e d o

/-- What the loop keeps. -/
structure Step (m : Nat) (e : Nat → Nat → Prop) (par : Nat → Nat) (w o : Nat) : Prop where
  lt : o < w
  low : ∀ d, d ≠ w → ¬ Av e d w → ¬ Av e d o
  up : ∀ d, ¬ Av e d o → ¬ Av e d (par w)

theorem Step.start (D : Dfs m e par) {w : Nat} (hw : w < m) (h0 : 0 < w) : Step m e par w (par w) :=
  ⟨D.lt w h0 hw, fun d h1 h2 => over_par D hw h0 h2 h1, fun _ h => h⟩

theorem Step.next (D : Dfs m e par) {w o o' h : Nat} (s : Step m e par w o) (hw : w < m) (hh : Head m e w h) (hgt : h < o) (n : Near m e o o') : Step m e par w o' :=
  ⟨by have := n.lt; have := s.lt; omega, fun d h1 h2 => n.low d (by have := over_le D hw hh h2 h1; omega) (s.low d h1 h2), fun d h => s.up d (over_trans h n.over)⟩

theorem Step.done (D : Dfs m e par) {w o h : Nat} (s : Step m e par w o) (hw : w < m) (hh : Head m e w h) (hle : o ≤ h) : Near m e w o :=
  ⟨s.lt, over_of_par D hw (by have := s.lt; omega) hh (s.up o (over_self o)) hle, s.low⟩

theorem Near.unique (D : Dfs m e par) {w o o' : Nat} (hw : w < m) (h1 : Near m e w o) (h2 : Near m e w o') : o = o' := by
  have := h1.lt
  have := h2.lt
  exact over_anti D (by omega) (by omega) (h2.low o (by omega) h1.over) (h1.low o' (by omega) h2.over)

/-- What climbing knows of place x while w is at hand: up lies above x, least is the least head from x up to below it, and all of these but x itself lie behind w. -/
structure Climb (par : Nat → Nat) (H : Nat → Nat) (w x u l : Nat) : Prop where
  anc : Anc par u x
  lt : u < x
  le : ∀ z, Anc par z x → u < z → l ≤ H z
  is : ∃ z, Anc par z x ∧ u < z ∧ l = H z
  behind : ∀ z, Anc par z x → u < z → w < z

theorem Climb.start (D : Dfs m e par) {H : Nat → Nat} {w : Nat} (h0 : 0 < w) (hw : w < m) {v : Nat} (hv : v < w) : Climb par H v w (par w) (H w) := by
  have key : ∀ z, Anc par z w → par w < z → z = w := fun z h hlt => by
    refine Classical.byContradiction fun hne => ?_
    have := (h.par_of hne).le D (by have := D.lt w h0 hw; omega)
    omega
  exact ⟨.up h0 .refl, D.lt w h0 hw, fun z h hlt => by rw [key z h hlt]; exact Nat.le_refl _, ⟨w, .refl, D.lt w h0 hw, rfl⟩, fun z h hlt => by rw [key z h hlt]; exact hv⟩

theorem Climb.join (D : Dfs m e par) {H : Nat → Nat} {w x u l u' l' : Nat} (h : Climb par H w x u l) (h' : Climb par H w u u' l') (hx : x < m) : Climb par H w x u' (min l l') := by
  have hu := h.lt
  have hu' := h'.lt
  refine ⟨h'.anc.trans h.anc, by omega, fun z hz hlt => ?_, ?_, fun z hz hlt => ?_⟩
  · by_cases hzu : u < z
    · have := h.le z hz hzu; omega
    · have := h'.le z (Anc.chain D hz h.anc (by omega) hx) hlt; omega
  · by_cases hl : l ≤ l'
    · obtain ⟨z, h1, h2, h3⟩ := h.is
      exact ⟨z, h1, by omega, by omega⟩
    · obtain ⟨z, h1, h2, h3⟩ := h'.is
      exact ⟨z, h1.trans h.anc, h2, by omega⟩
  · by_cases hzu : u < z
    · exact h.behind z hz hzu
    · exact h'.behind z (Anc.chain D hz h.anc (by omega) hx) hlt

theorem Climb.mono {H : Nat → Nat} {w v x u l : Nat} (h : Climb par H w x u l) (hv : v ≤ w) : Climb par H v x u l :=
  ⟨h.anc, h.lt, h.le, h.is, fun z hz hlt => by have := h.behind z hz hlt; omega⟩

theorem Climb.congr {H H' : Nat → Nat} {w x u l : Nat} (h : Climb par H w x u l) (hH : ∀ z, w < z → H' z = H z) : Climb par H' w x u l :=
  ⟨h.anc, h.lt, fun z hz hlt => by rw [hH z (h.behind z hz hlt)]; exact h.le z hz hlt, by
    obtain ⟨z, h1, h2, h3⟩ := h.is
    exact ⟨z, h1, h2, by rw [hH z (h.behind z h1 h2)]; exact h3⟩, h.behind⟩

/-- The least of what the Prevs tell, so far. -/
structure Least (m : Nat) (e : Nat → Nat → Prop) (par : Nat → Nat) (H : Nat → Nat) (w : Nat) (P : Nat → Prop) (l : Nat) : Prop where
  le : l ≤ w
  way : l < w → Hp e w l
  low : ∀ v, P v → e v w → v < m → v ≤ w → l ≤ v
  least : ∀ v, P v → e v w → v < m → ∀ u, Anc par u v → w < u → l ≤ H u

theorem Least.head (D : Dfs m e par) {H : Nat → Nat} {w l : Nat} {P : Nat → Prop} (h : Least m e par H w P l) (hP : ∀ v, v < m → e v w → P v) (h0 : 0 < w) (hw : w < m) (hH : ∀ u, w < u → u < m → Head m e u (H u)) : Head m e w l := by
  have hp := D.lt w h0 hw
  have h1 := h.low (par w) (hP _ (by omega) (D.edge w h0 hw)) (D.edge w h0 hw) (by omega) (by omega)
  refine ⟨by omega, h.way (by omega), fun x hx hpx => ?_⟩
  rcases hpx.split D (by omega) with he | ⟨v, u, hv, hu, hvm, ha, hpu⟩
  · exact h.low x (hP x (by omega) he) he (by omega) (by omega)
  · have hum := ha.le D hvm
    have h2 := h.least v (hP v hvm hv) hv hvm u ha hu
    have h3 := (hH u hu (by omega)).least x (by omega) hpu
    omega

theorem Least.start (H : Nat → Nat) (w : Nat) : Least m e par H w (fun _ => False) w :=
  ⟨Nat.le_refl _, fun h => by omega, fun v h => h.elim, fun v h => h.elim⟩

/-- One Prev more, not behind w. -/
theorem Least.near (D : Dfs m e par) {H : Nat → Nat} {w l v : Nat} {P : Nat → Prop} (h : Least m e par H w P l) (hv : v ≤ w) (hw : w < m) (he : e v w) : Least m e par H w (fun x => P x ∨ x = v) (min l v) := by
  have hle := h.le
  refine ⟨by omega, fun hlt => ?_, fun x hx hex hxm hxw => ?_, fun x hx hex hxm u hu hwu => ?_⟩
  · by_cases hlv : l ≤ v
    · rw [Nat.min_eq_left hlv]; exact h.way (by omega)
    · rw [Nat.min_eq_right (by omega)]; exact .last he
  · rcases hx with hx | rfl
    · have := h.low x hx hex hxm hxw; omega
    · omega
  · rcases hx with hx | rfl
    · have := h.least x hx hex hxm u hu hwu; omega
    · have := hu.le D hxm; omega

/-- One Prev more, behind w: what climbing from it tells. -/
theorem Least.far (D : Dfs m e par) {H : Nat → Nat} {w l v u b : Nat} {P : Nat → Prop} (h : Least m e par H w P l) (hv : w < v) (hvm : v < m) (he : e v w) (hH : ∀ u, w < u → u < m → Head m e u (H u)) (c : Climb par H w v u b) (hu : u ≤ w) : Least m e par H w (fun x => P x ∨ x = v) (min l b) := by
  have hle := h.le
  refine ⟨by omega, fun hlt => ?_, fun x hx hex hxm hxw => ?_, fun x hx hex hxm z hz hwz => ?_⟩
  · by_cases hlb : l ≤ b
    · rw [Nat.min_eq_left hlb]; exact h.way (by omega)
    · rw [Nat.min_eq_right (by omega)]
      obtain ⟨z, h1, h2, h3⟩ := c.is
      have h4 := c.behind z h1 h2
      have h5 := h1.le D hvm
      rw [h3]
      exact (hH z h4 (by omega)).way.further h4 (Hp.up D h1 hvm h4 (.last he))
  · rcases hx with hx | rfl
    · have := h.low x hx hex hxm hxw; omega
    · omega
  · rcases hx with hx | rfl
    · have := h.least x hx hex hxm z hz hwz; omega
    · have := c.le z hz (by omega); omega

theorem Least.skip {H : Nat → Nat} {w l v : Nat} {P : Nat → Prop} (h : Least m e par H w P l) (hv : ¬ (v < m ∧ e v w)) : Least m e par H w (fun x => P x ∨ x = v) l :=
  ⟨h.le, h.way, fun x hx hex hxm hxw => by
    rcases hx with hx | rfl
    · exact h.low x hx hex hxm hxw
    · exact absurd ⟨hxm, hex⟩ hv, fun x hx hex hxm z hz hwz => by
    rcases hx with hx | rfl
    · exact h.least x hx hex hxm z hz hwz
    · exact absurd ⟨hxm, hex⟩ hv⟩

end
end Go.Proofs.Ytbmfimojhcdnbaa.Lt
