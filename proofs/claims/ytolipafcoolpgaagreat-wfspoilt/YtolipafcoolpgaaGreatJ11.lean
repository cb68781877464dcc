/-
  Lt, Dmb, Dmh, Wfq, Wfr: laid together.
-/
import Derived.Test.YtolipafcoolpgaaGreatJ2
import Derived.Test.YtolipafcoolpgaaGreatFloDm
import Derived.Test.YtolipafcoolpgaaGreatJ10
import Derived.Test.YtolipafcoolpgaaGreatDma
/-
  Depth-first trees, heads and what is always ahead: the plain part (no program).
-/
namespace Go.Proofs.YtolipafcoolpgaaGreat.Lt

set_option linter.unusedVariables false

inductive Anc (par : Nat → Nat) (i : Nat) : Nat → Prop
 | refl : Anc par i i
 | up {j : Nat} : 0 < j → Anc par i (par j) → Anc par i j

structure Dfs (m : Nat) (e : Nat → Nat → Prop) (par : Nat → Nat) : Prop where
 pos : 0 < m
 closed : ∀ i j, i < m → e i j → j < m
 lt : ∀ p, 0 < p → p < m → par p < p
 edge : ∀ p, 0 < p → p < m → e (par p) p
 fwd : ∀ i j, i < m → e i j → i < j → Anc par i j
 last : ∀ p, p + 1 < m → Anc par (par (p + 1)) p

theorem Anc.trans {par : Nat → Nat} {a b c : Nat} (h1 : Anc par a b) (h2 : Anc par b c) : Anc par a c := by
 induction h2 with
 | refl => exact h1
 | up h0 _ ih => exact .up h0 ih

section
variable {m : Nat} {e : Nat → Nat → Prop} {par : Nat → Nat}

theorem Anc.le (D : Dfs m e par) {i j : Nat} (h : Anc par i j) (hj : j < m) : i ≤ j := by
 induction h with
 | refl => exact Nat.le_refl _
 | @up j h0 _ ih => have := D.lt j h0 hj; have := ih (by omega); omega

theorem Anc.chain (D : Dfs m e par) {a b c : Nat} (h1 : Anc par a c) (h2 : Anc par b c) (hab : a ≤ b) (hc : c < m) : Anc par a b := by
 induction h2 with
 | refl => exact h1
 | @up j h0 hb ih =>
  cases h1 with
  | refl => have := hb.le D (by have := D.lt _ h0 hc; omega); have := D.lt _ h0 hc; omega
  | up _ ha => exact ih ha (by have := D.lt j h0 hc; omega)

theorem Anc.par_of {i j : Nat} (h : Anc par i j) (hne : i ≠ j) : Anc par i (par j) := by
 cases h with
 | refl => exact absurd rfl hne
 | up _ h => exact h

theorem Anc.root (D : Dfs m e par) : ∀ j, j < m → Anc par 0 j := by
 intro j
 induction j using Nat.strongRecOn with
 | _ j ih =>
  intro hj
  by_cases h : j = 0
  ·subst h; exact .refl
  ·exact .up (by omega) (ih _ (D.lt j (by omega) hj) (by have := D.lt j (by omega) hj; omega))

theorem Anc.between (D : Dfs m e par) {x y : Nat} : ∀ {z : Nat}, z < m → Anc par x z → x ≤ y → y ≤ z → Anc par x y := by
 intro z
 induction z with
 | zero => intro _ h h1 h2; obtain rfl : y = 0 := by omega
           exact h
 | succ z ih =>
  intro hz h h1 h2
  by_cases e1 : y = z + 1
  ·subst e1; exact h
  ·have hne : x ≠ z + 1 := by omega
   exact ih (by omega) ((h.par_of hne).trans (D.last z hz)) h1 (by omega)

inductive Hp (e : Nat → Nat → Prop) (w : Nat) : Nat → Prop
 | last {x : Nat} : e x w → Hp e w x
 | step {x y : Nat} : e x y → w < y → Hp e w y → Hp e w x

theorem edge_below (D : Dfs m e par) {x y y' w : Nat} (hx : Anc par x y) (he : e y y') (hy : y < m) (h1 : x ≤ y') : Anc par x y' := by
 by_cases h : y < y'
 ·exact hx.trans (D.fwd y y' hy he h)
 ·exact Anc.between D hy hx h1 (by omega)

theorem Hp.anc_of (D : Dfs m e par) {w x y : Nat} (h : Hp e w y) (hxw : x < w) (hx : Anc par x y) (hy : y < m) : Anc par x w := by
 induction h with
 | last he => exact edge_below (w := w) D hx he hy (by omega)
 | @step y y' he hw _ ih => exact ih (edge_below (w := w) D hx he hy (by omega)) (D.closed _ _ hy he)

theorem Hp.anc (D : Dfs m e par) {w x : Nat} (h : Hp e w x) (hxw : x < w) (hm : x < m) : Anc par x w := h.anc_of D hxw .refl hm

theorem Hp.further {u w x : Nat} (h : Hp e u x) (hu : w < u) (hw : Hp e w u) : Hp e w x := by
 induction h with
 | last he => exact .step he hu hw
 | step he hy _ ih => exact .step he (by omega) ih

theorem Hp.up (D : Dfs m e par) {u v w : Nat} (h : Anc par u v) (hv : v < m) (hw : w < u) (hp : Hp e w v) : Hp e w u := by
 induction h with
 | refl => exact hp
 | @up j h0 ha ih =>
  have h1 := D.lt j h0 hv
  have h2 := ha.le D (by omega)
  exact ih (by omega) (.step (D.edge j h0 hv) (by omega) hp)

inductive HiTo (e : Nat → Nat → Prop) (w x : Nat) : Nat → Prop
 | one {y : Nat} : e x y → w < y → HiTo e w x y
 | more {y z : Nat} : HiTo e w x y → e y z → w < z → HiTo e w x z

theorem HiTo.hp {w x y : Nat} (h : HiTo e w x y) (hp : Hp e w y) : Hp e w x := by
 induction h with
 | one he hy => exact .step he hy hp
 | more _ he hz ih => exact ih (.step he hz hp)

theorem Hp.split (D : Dfs m e par) {w x : Nat} (h : Hp e w x) (hm : x < m) : e x w ∨ ∃ v u, e v w ∧ w < u ∧ v < m ∧ Anc par u v ∧ Hp e u x := by
 induction h with
 | last he => exact .inl he
 | @step x y he hy hp ih =>
  have hym := D.closed _ _ hm he
  rcases ih hym with h1 | ⟨v, u, hv, hu, hvm, ha, hpu⟩
  ·exact .inr ⟨y, y, h1, hy, hym, .refl, .last he⟩
  ·rcases Nat.lt_trichotomy y u with h | h | h
   ·exact .inr ⟨v, y, hv, hy, hvm, (hpu.anc D h hym).trans ha, .last he⟩
   ·subst h; exact .inr ⟨v, y, hv, hu, hvm, ha, .last he⟩
   ·exact .inr ⟨v, u, hv, hu, hvm, ha, .step he h hpu⟩

structure Head (m : Nat) (e : Nat → Nat → Prop) (w h : Nat) : Prop where
 lt : h < w
 way : Hp e w h
 least : ∀ x, x < w → Hp e w x → h ≤ x

inductive Av (e : Nat → Nat → Prop) (a : Nat) : Nat → Prop
 | root : a ≠ 0 → Av e a 0
 | step {x y : Nat} : Av e a x → e x y → y ≠ a → Av e a y

theorem Av.ne {a y : Nat} (h : Av e a y) : y ≠ a := by
 cases h with
 | root h => exact fun e => h e.symm
 | step _ _ h => exact h

theorem av_tree (D : Dfs m e par) {d : Nat} : ∀ x, x < m → ¬ Anc par d x → Av e d x := by
 intro x
 induction x using Nat.strongRecOn with
 | _ x ih =>
  intro hx h
  by_cases h0 : x = 0
  ·subst h0; exact .root (fun e => h (e ▸ .refl))
  ·have h1 := D.lt x (by omega) hx
   exact .step (ih _ h1 (by omega) (fun ha => h (.up (by omega) ha))) (D.edge x (by omega) hx) (fun e => h (e ▸ .refl))

theorem over_anc (D : Dfs m e par) {d x : Nat} (hx : x < m) (h : ¬ Av e d x) : Anc par d x := Classical.byContradiction fun hn => h (av_tree D x hx hn)

theorem Av.hp {d w x : Nat} (h : Hp e w x) (hd : d < w) (ha : Av e d x) : Av e d w := by
 induction h with
 | last he => exact .step ha he (by omega)
 | step he hy _ ih => exact ih (.step ha he (by omega))

theorem Av.down (D : Dfs m e par) {d x y : Nat} (h : Anc par x y) (hy : y < m) (hd : d < x) (ha : Av e d x) : Av e d y := by
 induction h with
 | refl => exact ha
 | @up j h0 hxj ih =>
  have h1 := D.lt j h0 hy
  have h2 := hxj.le D (by omega)
  exact .step (ih (by omega)) (D.edge j h0 hy) (by omega)

theorem over_le (D : Dfs m e par) {d w h : Nat} (hw : w < m) (hh : Head m e w h) (hd : ¬ Av e d w) (hne : d ≠ w) : d ≤ h := by
 have h1 := (over_anc D hw hd).le D hw
 refine Classical.byContradiction fun hgt => hd ?_
 exact Av.hp hh.way (by omega) (av_tree D h (by have := hh.lt; omega) (fun ha => by have := ha.le D (by have := hh.lt; omega); omega))

theorem over_par (D : Dfs m e par) {d w : Nat} (hw : w < m) (h0 : 0 < w) (hd : ¬ Av e d w) (hne : d ≠ w) : ¬ Av e d (par w) :=
 fun h => hd (.step h (D.edge w h0 hw) (fun e => hne e.symm))

theorem av_last {d w : Nat} (h0 : 0 < w) {y : Nat} (h : Av e d y) : w ≤ y → ∃ x, x < w ∧ Av e d x ∧ (Hp e w x ∨ (w < y ∧ HiTo e w x y)) := by
 induction h with
 | root _ => intro h; omega
 | @step x y hx he hy ih =>
  intro hwy
  by_cases hxw : x < w
  ·by_cases hyw : y = w
   ·subst hyw; exact ⟨x, hxw, hx, .inl (.last he)⟩
   ·exact ⟨x, hxw, hx, .inr ⟨by omega, .one he (by omega)⟩⟩
  ·obtain ⟨x', h1, h2, h3 | ⟨h3, h4⟩⟩ := ih (by omega)
   ·exact ⟨x', h1, h2, .inl h3⟩
   ·by_cases hyw : y = w
    ·subst hyw; exact ⟨x', h1, h2, .inl (h4.hp (.last he))⟩
    ·exact ⟨x', h1, h2, .inr ⟨by omega, .more h4 he (by omega)⟩⟩

theorem over_of_par (D : Dfs m e par) {d w h : Nat} (hw : w < m) (h0 : 0 < w) (hh : Head m e w h) (hd : ¬ Av e d (par w)) (hle : d ≤ h) : ¬ Av e d w := by
 intro ha
 obtain ⟨x, hx, hax, h3 | ⟨h3, _⟩⟩ := av_last h0 ha (Nat.le_refl _)
 ·have h4 := hh.least x hx h3
  have h5 := hax.ne
  have h6 := (h3.anc D hx (by omega)).par_of (by omega)
  exact hd (Av.down D h6 (by have := D.lt w h0 hw; omega) (by omega) hax)
 ·omega

theorem av_through {a d y : Nat} (h : Av e d y) : Av e d a ∨ Av e a y := by
 induction h with
 | root h =>
  by_cases h0 : a = 0
  ·subst h0; exact .inl (.root h)
  ·exact .inr (.root h0)
 | @step x y hx he hy ih =>
  rcases ih with h | h
  ·exact .inl h
  ·by_cases hya : y = a
   ·subst hya; exact .inl (.step hx he hy)
   ·exact .inr (.step h he hya)

theorem over_trans {a b c : Nat} (h1 : ¬ Av e a b) (h2 : ¬ Av e b c) : ¬ Av e a c := fun h => by
 rcases av_through (a := b) h with h | h
 ·exact h1 h
 ·exact h2 h

theorem over_self (a : Nat) : ¬ Av e a a := fun h => h.ne rfl

theorem over_anti (D : Dfs m e par) {a b : Nat} (ha : a < m) (hb : b < m) (h1 : ¬ Av e a b) (h2 : ¬ Av e b a) : a = b := by
 have := (over_anc D hb h1).le D hb
 have := (over_anc D ha h2).le D ha
 omega

structure Near (m : Nat) (e : Nat → Nat → Prop) (w o : Nat) : Prop where
 lt : o < w
 over : ¬ Av e o w
 low : ∀ d, d ≠ w → ¬ Av e d w → ¬ Av e d o

structure Step (m : Nat) (e : Nat → Nat → Prop) (par : Nat → Nat) (w o : Nat) : Prop where
 lt : o < w
 low : ∀ d, d ≠ w → ¬ Av e d w → ¬ Av e d o
 up : ∀ d, ¬ Av e d o → ¬ Av e d (par w)

theorem Step.start (D : Dfs m e par) {w : Nat} (hw : w < m) (h0 : 0 < w) : Step m e par w (par w) :=
 ⟨D.lt w h0 hw, fun d h1 h2 => over_par D hw h0 h2 h1, fun _ h => h⟩

theorem Step.next (D : Dfs m e par) {w o o' h : Nat} (s : Step m e par w o) (hw : w < m) (hh : Head m e w h) (hgt : h < o) (n : Near m e o o') : Step m e par w o' :=
 ⟨by have := n.lt; have := s.lt; omega, fun d h1 h2 => n.low d (by have := over_le D hw hh h2 h1; omega) (s.low d h1 h2), fun d h => s.up d (over_trans h n.over)⟩

theorem Step.done (D : Dfs m e par) {w o h : Nat} (s : Step m e par w o) (hw : w < m) (hh : Head m e w h) (hle : o ≤ h) : Near m e w o :=
 ⟨s.lt, over_of_par D hw (by have := s.lt; omega) hh (s.up o (over_self o)) hle, s.low⟩

structure Climb (par : Nat → Nat) (H : Nat → Nat) (w x u l : Nat) : Prop where
 anc : Anc par u x
 lt : u < x
 le : ∀ z, Anc par z x → u < z → l ≤ H z
 is : ∃ z, Anc par z x ∧ u < z ∧ l = H z
 behind : ∀ z, Anc par z x → u < z → w < z

theorem Climb.start (D : Dfs m e par) {H : Nat → Nat} {w : Nat} (h0 : 0 < w) (hw : w < m) {v : Nat} (hv : v < w) : Climb par H v w (par w) (H w) := by
 have key : ∀ z, Anc par z w → par w < z → z = w := fun z h hlt => by
  refine Classical.byContradiction fun hne => ?_
  have := (h.par_of hne).le D (by have := D.lt w h0 hw; omega)
  omega
 exact ⟨.up h0 .refl, D.lt w h0 hw, fun z h hlt => by rw [key z h hlt]; exact Nat.le_refl _, ⟨w, .refl, D.lt w h0 hw, rfl⟩, fun z h hlt => by rw [key z h hlt]; exact hv⟩

theorem Climb.join (D : Dfs m e par) {H : Nat → Nat} {w x u l u' l' : Nat} (h : Climb par H w x u l) (h' : Climb par H w u u' l') (hx : x < m) : Climb par H w x u' (min l l') := by
 have hu := h.lt
 have hu' := h'.lt
 refine ⟨h'.anc.trans h.anc, by omega, fun z hz hlt => ?_, ?_, fun z hz hlt => ?_⟩
 ·by_cases hzu : u < z
  ·have := h.le z hz hzu; omega
  ·have := h'.le z (Anc.chain D hz h.anc (by omega) hx) hlt; omega
 ·by_cases hl : l ≤ l'
  ·obtain ⟨z, h1, h2, h3⟩ := h.is
   exact ⟨z, h1, by omega, by omega⟩
  ·obtain ⟨z, h1, h2, h3⟩ := h'.is
   exact ⟨z, h1.trans h.anc, h2, by omega⟩
 ·by_cases hzu : u < z
  ·exact h.behind z hz hzu
  ·exact h'.behind z (Anc.chain D hz h.anc (by omega) hx) hlt

theorem Climb.mono {H : Nat → Nat} {w v x u l : Nat} (h : Climb par H w x u l) (hv : v ≤ w) : Climb par H v x u l :=
 ⟨h.anc, h.lt, h.le, h.is, fun z hz hlt => by have := h.behind z hz hlt; omega⟩

theorem Climb.congr {H H' : Nat → Nat} {w x u l : Nat} (h : Climb par H w x u l) (hH : ∀ z, w < z → H' z = H z) : Climb par H' w x u l :=
 ⟨h.anc, h.lt, fun z hz hlt => by rw [hH z (h.behind z hz hlt)]; exact h.le z hz hlt, by
  obtain ⟨z, h1, h2, h3⟩ := h.is
  exact ⟨z, h1, h2, by rw [hH z (h.behind z h1 h2)]; exact h3⟩, h.behind⟩

structure Least (m : Nat) (e : Nat → Nat → Prop) (par : Nat → Nat) (H : Nat → Nat) (w : Nat) (P : Nat → Prop) (l : Nat) : Prop where
 le : l ≤ w
 way : l < w → Hp e w l
 low : ∀ v, P v → e v w → v < m → v ≤ w → l ≤ v
 least : ∀ v, P v → e v w → v < m → ∀ u, Anc par u v → w < u → l ≤ H u

theorem Least.head (D : Dfs m e par) {H : Nat → Nat} {w l : Nat} {P : Nat → Prop} (h : Least m e par H w P l) (hP : ∀ v, v < m → e v w → P v) (h0 : 0 < w) (hw : w < m) (hH : ∀ u, w < u → u < m → Head m e u (H u)) : Head m e w l := by
 have hp := D.lt w h0 hw
 have h1 := h.low (par w) (hP _ (by omega) (D.edge w h0 hw)) (D.edge w h0 hw) (by omega) (by omega)
 refine ⟨by omega, h.way (by omega), fun x hx hpx => ?_⟩
 rcases hpx.split D (by omega) with he | ⟨v, u, hv, hu, hvm, ha, hpu⟩
 ·exact h.low x (hP x (by omega) he) he (by omega) (by omega)
 ·have hum := ha.le D hvm
  have h2 := h.least v (hP v hvm hv) hv hvm u ha hu
  have h3 := (hH u hu (by omega)).least x (by omega) hpu
  omega

theorem Least.start (H : Nat → Nat) (w : Nat) : Least m e par H w (fun _ => False) w :=
 ⟨Nat.le_refl _, fun h => by omega, fun v h => h.elim, fun v h => h.elim⟩

theorem Least.near (D : Dfs m e par) {H : Nat → Nat} {w l v : Nat} {P : Nat → Prop} (h : Least m e par H w P l) (hv : v ≤ w) (hw : w < m) (he : e v w) : Least m e par H w (fun x => P x ∨ x = v) (min l v) := by
 have hle := h.le
 refine ⟨by omega, fun hlt => ?_, fun x hx hex hxm hxw => ?_, fun x hx hex hxm u hu hwu => ?_⟩
 ·by_cases hlv : l ≤ v
  ·rw [Nat.min_eq_left hlv]; exact h.way (by omega)
  ·rw [Nat.min_eq_right (by omega)]; exact .last he
 ·rcases hx with hx | rfl
  ·have := h.low x hx hex hxm hxw; omega
  ·omega
 ·rcases hx with hx | rfl
  ·have := h.least x hx hex hxm u hu hwu; omega
  ·have := hu.le D hxm; omega

theorem Least.far (D : Dfs m e par) {H : Nat → Nat} {w l v u b : Nat} {P : Nat → Prop} (h : Least m e par H w P l) (hv : w < v) (hvm : v < m) (he : e v w) (hH : ∀ u, w < u → u < m → Head m e u (H u)) (c : Climb par H w v u b) (hu : u ≤ w) : Least m e par H w (fun x => P x ∨ x = v) (min l b) := by
 have hle := h.le
 refine ⟨by omega, fun hlt => ?_, fun x hx hex hxm hxw => ?_, fun x hx hex hxm z hz hwz => ?_⟩
 ·by_cases hlb : l ≤ b
  ·rw [Nat.min_eq_left hlb]; exact h.way (by omega)
  ·rw [Nat.min_eq_right (by omega)]
   obtain ⟨z, h1, h2, h3⟩ := c.is
   have h4 := c.behind z h1 h2
   have h5 := h1.le D hvm
   rw [h3]
   exact (hH z h4 (by omega)).way.further h4 (Hp.up D h1 hvm h4 (.last he))
 ·rcases hx with hx | rfl
  ·have := h.low x hx hex hxm hxw; omega
  ·omega
 ·rcases hx with hx | rfl
  ·have := h.least x hx hex hxm z hz hwz; omega
  ·have := c.le z hz (by omega); omega

end

end Go.Proofs.YtolipafcoolpgaaGreat.Lt

/-
  Depth first with a pile of steps, in plain words: what dom.grow keeps.
-/
namespace Go.Proofs.YtolipafcoolpgaaGreat.Dm
open Flo Go.Proofs.YtolipafcoolpgaaGreat.Lt

set_option linter.unusedVariables false

theorem anc_lt {par : Nat → Nat} {m : Nat} (hlt : ∀ p, 0 < p → p < m → par p < p) {i j : Nat} (h : Anc par i j) (hj : j < m) : i ≤ j := by
 induction h with
 | refl => exact Nat.le_refl _
 | @up j h0 _ ih => have := hlt j h0 hj; have := ih (by omega); omega

theorem anc_chain {par : Nat → Nat} {m : Nat} (hlt : ∀ p, 0 < p → p < m → par p < p) {a b c : Nat} (h1 : Anc par a c) (h2 : Anc par b c) (hab : a ≤ b) (hc : c < m) : Anc par a b := by
 induction h2 with
 | refl => exact h1
 | @up j h0 hb ih =>
  cases h1 with
  | refl => have := anc_lt hlt hb (by have := hlt _ h0 hc; omega); have := hlt _ h0 hc; omega
  | up _ ha => exact ih ha (by have := hlt j h0 hc; omega)

theorem anc_congr {par par' : Nat → Nat} {m : Nat} (hlt : ∀ p, 0 < p → p < m → par p < p) (he : ∀ p, p < m → par' p = par p) {i j : Nat} (h : Anc par i j) (hj : j < m) : Anc par' i j := by
 induction h with
 | refl => exact .refl
 | @up j h0 _ ih =>
  have := hlt j h0 hj
  exact .up h0 (by rw [he j hj]; exact ih (by omega))

structure Gro (N : Nat → List Nat) (L : List Nat) (par : Nat → Nat) (U : List (Nat × Nat)) : Prop where
 pos : 0 < L.length
 zero : L.getD 0 0 = 0
 nodup : L.Nodup
 way : ∀ x ∈ L, Flo.Way N 0 x
 lt : ∀ p, 0 < p → p < L.length → par p < p
 edge : ∀ p, 0 < p → p < L.length → L.getD p 0 ∈ N (L.getD (par p) 0)
 last : ∀ p, p + 1 < L.length → Anc par (par (p + 1)) p
 fwd : ∀ i j, i < L.length → j < L.length → L.getD j 0 ∈ N (L.getD i 0) → i < j → Anc par i j
 ent : ∀ u ∈ U, u.1 < L.length ∧ u.2 ∈ N (L.getD u.1 0) ∧ Anc par u.1 (L.length - 1)
 sorted : U.Pairwise (fun a b => a.1 ≤ b.1)
 pend : ∀ i, i < L.length → ∀ v ∈ N (L.getD i 0), v ∈ L ∨ (i, v) ∈ U

theorem getD_app {L : List Nat} {x i : Nat} (h : i < L.length) : (L ++ [x]).getD i 0 = L.getD i 0 := by
 simp [List.getD, List.getElem?_append_left h]
theorem getD_new {L : List Nat} {x : Nat} : (L ++ [x]).getD L.length 0 = x := by simp [List.getD]
theorem getD_in {L : List Nat} {i : Nat} (h : i < L.length) : L.getD i 0 ∈ L := by simp [List.getD, h]

theorem Gro.start (N : Nat → List Nat) : Gro N [0] (fun _ => 0) ((N 0).map (fun v => (0, v))) := by
 refine ⟨by simp, rfl, by simp, fun x hx => by simp at hx; subst hx; exact .refl 0, fun p h1 h2 => by simp at h2; omega, fun p h1 h2 => by simp at h2; omega, fun p h => by simp at h, fun i j hi hj _ hij => by simp at hi hj; omega, fun u hu => ?_, ?_, fun i hi v hv => ?_⟩
 ·obtain ⟨v, hv, rfl⟩ := List.mem_map.1 hu
  exact ⟨by simp, by simpa using hv, .refl⟩
 ·rw [List.pairwise_map]; exact List.pairwise_of_forall (fun _ _ => Nat.le_refl _)
 ·simp at hi
  subst hi
  exact .inr (List.mem_map.2 ⟨v, by simpa using hv, rfl⟩)

theorem Gro.skip {N : Nat → List Nat} {L : List Nat} {par : Nat → Nat} {U : List (Nat × Nat)} {u : Nat × Nat} (h : Gro N L par (U ++ [u])) (hu : u.2 ∈ L) : Gro N L par U := by
 refine ⟨h.pos, h.zero, h.nodup, h.way, h.lt, h.edge, h.last, h.fwd, fun x hx => h.ent x (by simp [hx]), (List.pairwise_append.1 h.sorted).1, fun i hi v hv => ?_⟩
 rcases h.pend i hi v hv with h1 | h1
 ·exact .inl h1
 ·rcases List.mem_append.1 h1 with h2 | h2
  ·exact .inr h2
  ·simp at h2
   subst h2
   exact .inl hu

def parN (par : Nat → Nat) (m f : Nat) : Nat → Nat := fun p => if p = m then f else par p

theorem Gro.meet {N : Nat → List Nat} {L : List Nat} {par : Nat → Nat} {U : List (Nat × Nat)} {u : Nat × Nat} (h : Gro N L par (U ++ [u])) (hu : u.2 ∉ L) :
  Gro N (L ++ [u.2]) (parN par L.length u.1) (U ++ (N u.2).map (fun v => (L.length, v))) := by
 have hent := h.ent u (by simp)
 have hp0 := h.pos
 have hlt' : ∀ p, 0 < p → p < L.length + 1 → parN par L.length u.1 p < p := fun p h1 h2 => by
  unfold parN
  by_cases e : p = L.length
  ·rw [if_pos e]; have := hent.1; omega
  ·rw [if_neg e]; exact h.lt p h1 (by omega)
 have hold : ∀ p, p < L.length → parN par L.length u.1 p = par p := fun p hp => by unfold parN; rw [if_neg (by omega)]
 have cg : ∀ {i j : Nat}, Anc par i j → j < L.length → Anc (parN par L.length u.1) i j := fun ha hj => anc_congr h.lt hold ha hj
 have hnew : parN par L.length u.1 L.length = u.1 := by simp [parN]
 have top : Anc (parN par L.length u.1) u.1 L.length := .up hp0 (by rw [hnew]; exact .refl)
 have below : ∀ x ∈ U, Anc (parN par L.length u.1) x.1 L.length := fun x hx => by
  have h1 := h.ent x (by simp [hx])
  have h2 : x.1 ≤ u.1 := (List.pairwise_append.1 h.sorted).2.2 x hx u (by simp)
  have h3 := anc_chain h.lt h1.2.2 hent.2.2 h2 (by omega)
  exact (cg h3 hent.1).trans top
 refine ⟨by simp, by rw [getD_app hp0]; exact h.zero, ?_, fun x hx => ?_, fun p h1 h2 => hlt' p h1 (by simpa using h2), fun p h1 h2 => ?_, fun p hp => ?_, fun i j hi hj he hij => ?_, fun x hx => ?_, ?_, fun i hi v hv => ?_⟩
 ·exact List.nodup_append.2 ⟨h.nodup, by simp, fun a ha b hb => by simp at hb; rintro rfl; exact hu (hb ▸ ha)⟩
 ·rcases List.mem_append.1 hx with h1 | h1
  ·exact h.way x h1
  ·simp at h1
   subst h1
   exact .step (h.way _ (getD_in hent.1)) hent.2.1
 ·simp at h2
  by_cases e : p = L.length
  ·subst e
   rw [getD_new, hnew, getD_app hent.1]
   exact hent.2.1
  ·have hp : p < L.length := by omega
   have := h.lt p h1 hp
   rw [getD_app hp, hold p hp, getD_app (by omega)]
   exact h.edge p h1 hp
 ·simp at hp
  by_cases e : p + 1 = L.length
  ·rw [e, hnew]
   have := hent.2.2
   rw [show L.length - 1 = p by omega] at this
   exact cg this (by omega)
  ·rw [hold _ (by omega)]
   exact cg (h.last p (by omega)) (by omega)
 ·simp at hi hj
  by_cases ej : j = L.length
  ·subst ej
   rw [getD_new, getD_app hij] at he
   rcases h.pend i hij u.2 he with h1 | h1
   ·exact absurd h1 hu
   ·rcases List.mem_append.1 h1 with h2 | h2
    ·exact below _ h2
    ·simp at h2
     rw [show i = u.1 from congrArg Prod.fst h2]
     exact top
  ·have hj' : j < L.length := by omega
   rw [getD_app hj', getD_app (by omega)] at he
   exact cg (h.fwd i j (by omega) hj' he hij) hj'
 ·rw [List.length_append]
  show _ < L.length + 1 ∧ _ ∧ Anc _ _ (L.length + 1 - 1)
  rcases List.mem_append.1 hx with h1 | h1
  ·have h2 := h.ent x (by simp [h1])
   exact ⟨by omega, by rw [getD_app h2.1]; exact h2.2.1, by simpa using below x h1⟩
  ·obtain ⟨v, hv, rfl⟩ := List.mem_map.1 h1
   exact ⟨by simp, by rw [getD_new]; exact hv, by simpa using Anc.refl⟩
 ·refine List.pairwise_append.2 ⟨(List.pairwise_append.1 h.sorted).1, ?_, fun a ha b hb => ?_⟩
  ·rw [List.pairwise_map]; exact List.pairwise_of_forall (fun _ _ => Nat.le_refl _)
  ·obtain ⟨v, hv, rfl⟩ := List.mem_map.1 hb
   have := (h.ent a (by simp [ha])).1
   show a.1 ≤ L.length
   omega
 ·simp at hi
  by_cases e : i = L.length
  ·subst e
   rw [getD_new] at hv
   exact .inr (List.mem_append_right _ (List.mem_map.2 ⟨v, hv, rfl⟩))
  ·rw [getD_app (by omega)] at hv
   rcases h.pend i (by omega) v hv with h1 | h1
   ·exact .inl (by simp [h1])
   ·rcases List.mem_append.1 h1 with h2 | h2
    ·exact .inr (by simp [h2])
    ·simp at h2
     have e2 : v = u.2 := congrArg Prod.snd h2
     exact .inl (by simp [e2])

def ePl (N : Nat → List Nat) (L : List Nat) (i j : Nat) : Prop := i < L.length ∧ j < L.length ∧ L.getD j 0 ∈ N (L.getD i 0)

theorem Gro.dfs {N : Nat → List Nat} {L : List Nat} {par : Nat → Nat} (h : Gro N L par []) : Dfs L.length (ePl N L) par :=
 ⟨h.pos, fun i j _ he => he.2.1, h.lt, fun p h1 h2 => ⟨by have := h.lt p h1 h2; omega, h2, h.edge p h1 h2⟩, fun i j hi he hij => h.fwd i j hi he.2.1 he.2.2 hij, h.last⟩

theorem Gro.reach {N : Nat → List Nat} {L : List Nat} {par : Nat → Nat} (h : Gro N L par []) {b : Nat} (hw : Flo.Way N 0 b) : b ∈ L := by
 induction hw with
 | refl => have := getD_in h.pos; rw [h.zero] at this; exact this
 | @step b c _ hc ih =>
  obtain ⟨i, hi, e⟩ := List.getElem_of_mem ih
  have e2 : L.getD i 0 = b := by simp [List.getD, hi, e]
  rcases h.pend i hi c (by rw [e2]; exact hc) with h1 | h1
  ·exact h1
  ·simp at h1

end Go.Proofs.YtolipafcoolpgaaGreat.Dm

/-
  What is over what, by blocks and by places.
-/
namespace Go.Proofs.YtolipafcoolpgaaGreat.Dm
open Go.RowKit View Rd Copy Num Ty Srt Flo Go.Proofs.YtolipafcoolpgaaGreat.Lt

set_option linter.unusedVariables false

theorem Av.notroot {e : Nat → Nat → Prop} {a y : Nat} (h : Av e a y) : a ≠ 0 := by
 induction h with
 | root h => exact h
 | step _ _ _ ih => exact ih

theorem getD_inj {L : List Nat} (hn : L.Nodup) {i j : Nat} (hi : i < L.length) (hj : j < L.length) (h : L.getD i 0 = L.getD j 0) : i = j := by
 have h1 : L[i] = L[j] := by simpa [List.getD, hi, hj] using h
 have hp := List.pairwise_iff_getElem.1 hn
 rcases Nat.lt_trichotomy i j with h | h | h
 ·exact absurd h1 (hp i j hi hj h)
 ·exact h
 ·exact absurd h1.symm (hp j i hj hi h)

theorem mem_getD {L : List Nat} {b : Nat} (h : b ∈ L) : ∃ i, i < L.length ∧ L.getD i 0 = b := by
 obtain ⟨i, hi, e⟩ := List.getElem_of_mem h
 exact ⟨i, hi, by simp [List.getD, hi, e]⟩

variable {F : FV} {L : List Nat} {par : Nat → Nat}

theorem av_way (hgr : Gro (su F) L par []) {i j : Nat} (hi : i < L.length) (h : Av (ePl (su F) L) i j) : Flo.Way (suL F (L.getD i 0 : Nat)) 0 (L.getD j 0) := by
 induction h with
 | root h => rw [hgr.zero]; exact .refl 0
 | @step x y _ he hy ih =>
  refine .step ih (mem_suL.2 ⟨he.2.2, fun e => hy ?_⟩)
  exact getD_inj hgr.nodup he.2.1 hi (by omega)

theorem way_av (hgr : Gro (su F) L par []) {i : Nat} (hi : i < L.length) (h0 : i ≠ 0) {b : Nat} (h : Flo.Way (suL F (L.getD i 0 : Nat)) 0 b) : ∃ j, j < L.length ∧ L.getD j 0 = b ∧ Av (ePl (su F) L) i j := by
 induction h with
 | refl => exact ⟨0, hgr.pos, hgr.zero, .root h0⟩
 | @step b c _ hc ih =>
  obtain ⟨j, hj, e, ha⟩ := ih
  obtain ⟨h1, h2⟩ := mem_suL.1 hc
  have hw : Flo.Way (su F) 0 c := .step (hgr.way b (by rw [← e]; exact getD_in hj)) h1
  obtain ⟨k, hk, e2⟩ := mem_getD (hgr.reach hw)
  refine ⟨k, hk, e2, .step ha ⟨hj, hk, by rw [e, e2]; exact h1⟩ (fun ek => h2 ?_)⟩
  rw [← e2, ek]

theorem dom_av (hgr : Gro (su F) L par []) {i j : Nat} (hi : i < L.length) (hj : j < L.length) : DomR F (L.getD i 0) (L.getD j 0) ↔ ¬ Av (ePl (su F) L) i j := by
 constructor
 ·rintro ⟨_, _, h⟩ ha
  rcases h with h | h
  ·exact ha.ne (getD_inj hgr.nodup hj hi h.symm)
  ·refine h ⟨fun e => Av.notroot ha ?_, av_way hgr hi ha⟩
   exact getD_inj hgr.nodup hi hgr.pos (by rw [e, hgr.zero])
 ·intro h
  refine ⟨hgr.way _ (getD_in hi), hgr.way _ (getD_in hj), ?_⟩
  by_cases e : L.getD i 0 = L.getD j 0
  ·exact .inl e
  ·refine .inr fun ⟨h1, h2⟩ => ?_
   obtain ⟨k, hk, e2, ha⟩ := way_av hgr hi (fun e0 => h1 (by rw [e0, hgr.zero])) h2
   rw [getD_inj hgr.nodup hk hj e2] at ha
   exact h ha

structure NearB (F : FV) (b a : Nat) : Prop where
 dom : DomR F a b
 ne : a ≠ b
 low : ∀ d, d ≠ b → DomR F d b → DomR F d a

theorem nearB_of (hgr : Gro (su F) L par []) {p o : Nat} (hp : p < L.length) (h : Near L.length (ePl (su F) L) p o) : NearB F (L.getD p 0) (L.getD o 0) := by
 have ho := h.lt
 refine ⟨(dom_av hgr (by omega) hp).2 h.over, fun e => by have := getD_inj hgr.nodup (by omega) hp e; omega, fun d hd hdb => ?_⟩
 obtain ⟨i, hi, e⟩ := mem_getD (hgr.reach hdb.1)
 subst e
 exact (dom_av hgr hi (by omega)).2 (h.low i (fun e => hd (by rw [e])) ((dom_av hgr hi hp).1 hdb))

structure OverIs (F : FV) (ov : Nat → Int) : Prop where
 some : ∀ b, b < F.blk.n → b ≠ 0 → Flo.Way (su F) 0 b → ∃ a : Nat, a < F.blk.n ∧ ov b = a ∧ NearB F b a
 none : ∀ b, b < F.blk.n → (b = 0 ∨ ¬ Flo.Way (su F) 0 b) → ov b = -1

theorem dom_trans {F : FV} {a b c : Nat} (h1 : DomR F a b) (h2 : DomR F b c) (hgr : Gro (su F) L par []) : DomR F a c := by
 obtain ⟨i, hi, rfl⟩ := mem_getD (hgr.reach h1.1)
 obtain ⟨j, hj, rfl⟩ := mem_getD (hgr.reach h1.2.1)
 obtain ⟨k, hk, rfl⟩ := mem_getD (hgr.reach h2.2.1)
 exact (dom_av hgr hi hk).2 (over_trans ((dom_av hgr hi hj).1 h1) ((dom_av hgr hj hk).1 h2))

theorem dom_anti {F : FV} {a b : Nat} (h1 : DomR F a b) (h2 : DomR F b a) (hgr : Gro (su F) L par []) : a = b := by
 obtain ⟨i, hi, rfl⟩ := mem_getD (hgr.reach h1.1)
 obtain ⟨j, hj, rfl⟩ := mem_getD (hgr.reach h1.2.1)
 rw [over_anti hgr.dfs hi hj ((dom_av hgr hi hj).1 h1) ((dom_av hgr hj hi).1 h2)]

theorem dom_self {F : FV} {a : Nat} (h : Flo.Way (su F) 0 a) : DomR F a a := ⟨h, h, .inl rfl⟩

end Go.Proofs.YtolipafcoolpgaaGreat.Dm

/-
  wf: whether a block is over another, by the row of blocks above.
-/
namespace Go.Proofs.YtolipafcoolpgaaGreat.Wf
open Go.RowKit View Rd Num Opn Copy Srt Go.Proofs.YtolipafcoolpgaaGreat.Mod Chk Flo Dm

set_option linter.unusedVariables false

open Classical in

noncomputable def deep (F : FV) (c : Nat) : Nat := ((List.range F.blk.n).filter (fun x => decide (DomR F x c))).length

theorem filter_lt {l : List Nat} {p q : Nat → Bool} (h : ∀ x ∈ l, p x = true → q x = true) {y : Nat} (hy : y ∈ l) (hp : p y = false) (hq : q y = true) : (l.filter p).length < (l.filter q).length := by
 induction l with
 | nil => simp at hy
 | cons z l ih =>
  have le : ∀ l' : List Nat, (∀ x ∈ l', p x = true → q x = true) → (l'.filter p).length ≤ (l'.filter q).length := by
   intro l'
   induction l' with
   | nil => intro _; simp
   | cons x l' ih' =>
    intro hh
    have h0 := ih' (fun x hx => hh x (by simp [hx]))
    have h1 := hh x (by simp)
    cases hpx : p x with
    | true => rw [List.filter_cons, List.filter_cons, hpx, h1 hpx]; simpa using h0
    | false =>
     rw [List.filter_cons, List.filter_cons, hpx]
     cases q x <;> simp <;> omega
  have hl := le l (fun x hx => h x (by simp [hx]))
  have hz := h z (by simp)
  rcases List.mem_cons.1 hy with rfl | hy'
  ·rw [List.filter_cons, List.filter_cons, hp, hq]
   simp
   omega
  ·have := ih (fun x hx => h x (by simp [hx])) hy'
   cases hpz : p z with
   | true => rw [List.filter_cons, List.filter_cons, hpz, hz hpz]; simpa using this
   | false =>
    rw [List.filter_cons, List.filter_cons, hpz]
    cases q z <;> simp <;> omega

theorem deep_lt {F : FV} {L : List Nat} {par : Nat → Nat} (hgr : Gro (su F) L par []) {b o : Nat} (hb : b < F.blk.n) (hw : Flo.Way (su F) 0 b) (h : NearB F b o) : deep F o < deep F b := by
 unfold deep
 refine filter_lt (y := b) (fun x _ hx => ?_) (List.mem_range.2 hb) ?_ ?_
 ·simp only [decide_eq_true_eq] at hx ⊢
  exact dom_trans hx h.dom hgr
 ·simp only [decide_eq_false_iff_not]
  intro hc
  exact h.ne (dom_anti h.dom hc hgr)
 ·simp only [decide_eq_true_eq]
  exact dom_self hw

def UpAt (F : FV) (a b : Nat) (c : Int) : Prop := (c = -1 ∧ ¬ DomR F a b) ∨ ∃ n : Nat, c = n ∧ n < F.blk.n ∧ (DomR F a b ↔ DomR F a n)

noncomputable def upM (F : FV) (v : Value) : Nat := if intOf v < 0 then 0 else deep F (intOf v).toNat + 1

theorem up_next {F : FV} {L : List Nat} {par : Nat → Nat} {ov : Nat → Int} (hgr : Gro (su F) L par []) (ho : OverIs F ov) (hw : ∀ i, i < F.blk.n → Flo.Way (su F) 0 i) {a b n : Nat} (hn : n < F.blk.n) (hna : n ≠ a) (h : DomR F a b ↔ DomR F a n) : UpAt F a b (ov n) ∧ (ov n < 0 ∨ deep F (ov n).toNat < deep F n) := by
 by_cases h0 : n = 0
 ·subst h0
  have e := ho.none 0 hn (.inl rfl)
  refine ⟨.inl ⟨e, fun hc => ?_⟩, .inl (by omega)⟩
  have h1 := h.1 hc
  rcases h1.2.2 with h2 | h2
  ·exact hna h2.symm
  ·exact h2 ⟨fun h => hna h.symm, .refl _⟩
 ·obtain ⟨o, ho1, e, hN⟩ := ho.some n hn h0 (hw n hn)
  refine ⟨.inr ⟨o, e, ho1, h.trans ⟨fun h => hN.low a (fun e => hna e.symm) h, fun h => dom_trans h hN.dom hgr⟩⟩, .inr ?_⟩
  rw [e]
  exact deep_lt hgr hn (hw n hn) hN

theorem upM_lt {F : FV} {x : Int} {n : Nat} (h : x < 0 ∨ deep F x.toNat < deep F n) : upM F (.int .i64 x) < upM F (.int .i64 (n : Int)) := by
 have h1 : ¬ (intOf (.int .i64 (n : Int)) < 0) := by show ¬ ((n : Int) < 0); omega
 unfold upM
 rw [if_neg h1]
 by_cases h2 : intOf (.int .i64 x) < 0
 ·rw [if_pos h2]; omega
 ·rw [if_neg h2]
  show deep F x.toNat + 1 < deep F n + 1
  have h3 : ¬ x < 0 := h2
  omega

set_option maxHeartbeats 4000000 in
theorem isOver_any (F : FV) (L : List Nat) (par : Nat → Nat) (gs : Sl) (g c : Nat) (ov : Nat → Int) (a b : Nat) (w : World) (hgr : Gro (su F) L par []) (hr : Ro w g F.blk.n ov) (ho : OverIs F ov) (hw : ∀ i, i < F.blk.n → Flo.Way (su F) 0 i) (ha : a < F.blk.n) (hb : b < F.blk.n) (hn : F.blk.n ≤ 48) (hc : F.blk.n ≤ c) :
  Calls Tryz.prog 169 #[.agg #[.slice gs.a gs.n gs.c, .slice (some ⟨g, 0, none⟩) F.blk.n c], .int .i64 a, .int .i64 b] w fun e w' => Ans (fun r => r = true ↔ DomR F a b) w e w' := by
 have HR := hid hr
 have NX := hid (show ∀ n, n < F.blk.n → n ≠ a → (DomR F a b ↔ DomR F a n) → UpAt F a b (ov n) ∧ (ov n < 0 ∨ deep F (ov n).toNat < deep F n) from fun n h1 h2 h3 => up_next hgr ho hw h1 h2 h3)
 have SELF := hid (dom_self (hw a ha))
 obtain ⟨W, hW⟩ : ∃ W, w.alloc (.cells #[.slice gs.a gs.n gs.c, .slice (some ⟨g, 0, none⟩) F.blk.n c] 174) = W := ⟨_, rfl⟩
 have BX := hid (show W.cell? ⟨w.heap.size, 1, none⟩ = some (.slice (some ⟨g, 0, none⟩) F.blk.n c) by rw [← hW]; simp)
 have LW := hid (show Below w.heap.size w W by rw [← hW]; exact new (same w) _)
 have HWW := hid hW
 clear hgr hr ho hw hW
 go_enter Tryz.func169, Tryz.ntmps169
 go_wp2_with fail
 simp only [HWW.out]
 clear HWW
 go_loopw [2] (fun iv wr => ∃ x : Int, iv = .int .i64 x ∧ UpAt F a b x ∧ Below W.heap.size W wr) (fun iv _ => upM F iv)
 case atStart => exact ⟨b, rfl, .inr ⟨b, rfl, hb, Iff.rfl⟩, same _⟩
 case round =>
  obtain ⟨x, rfl, hup, hb⟩ := hrel
  have m1 := cell_on hb BX.out
  have HB := hid hb
  rcases hup with ⟨rfl, hno⟩ | ⟨n, rfl, hn1, hiff⟩
  ·have HNO := hid hno
   have t9 : ((-1 : Int) == (a : Int)) = false := by rw [beq_eq_false_iff_ne]; omega
   clear hb hno
   go_wp2_with fail
   go_ret
   exact ⟨false, rfl, ⟨fun h => absurd h (by simp), fun h => absurd h HNO.out⟩, View.more LW.out HB.out⟩
  ·by_cases hna : n = a
   ·have t0 : decide ((0 : Int) ≤ (n : Int)) = true := by simp
    have t1 : ((n : Int) != (a : Int)) = false := by simp [hna]
    have t2 : ((n : Int) == (a : Int)) = true := by simp [hna]
    have t3 : (n != a) = false := by simp [hna]
    have t4 : (n == a) = true := by simp [hna]
    have YES := hid (show DomR F a b by rw [hiff, hna]; exact SELF.out)
    clear hb hiff hna
    go_wp2_with fail
    go_ret
    exact ⟨true, rfl, ⟨fun _ => YES.out, fun _ => rfl⟩, View.more LW.out HB.out⟩
   ·have t0 : decide ((0 : Int) ≤ (n : Int)) = true := by simp
    have t1 : ((n : Int) != (a : Int)) = true := by rw [bne_iff_ne]; omega
    have t3 : (n != a) = true := by simp [hna]
    have i1 := int_at (g := g) (c := c) hn1
    have r1 := (HR.out.on (View.more LW.out hb)).cell n hn1
    have NN := hid (NX.out n hn1 hna hiff)
    clear hb hiff hna
    go_wp2_with fail
    go_round
    case rel => exact ⟨ov n, rfl, NN.out.1, HB.out⟩
    case measure =>
     exact upM_lt NN.out.2

end Go.Proofs.YtolipafcoolpgaaGreat.Wf

/-
  wf: whether what an instruction takes is there.
-/
namespace Go.Proofs.YtolipafcoolpgaaGreat.Wf
open Go.RowKit View Rd Num Opn Copy Srt Go.Proofs.YtolipafcoolpgaaGreat.Mod Chk Flo Dm

set_option linter.unusedVariables false

structure Gv (F : FV) (w : World) (O : Nat) (bl pl : Nat → Int) : Prop where
 cb : ∀ v, v ≤ allV F → w.cell? ⟨O, v * 2, none⟩ = some (.int .i64 (bl v))
 cp : ∀ v, v ≤ allV F → w.cell? ⟨O, v * 2 + 1, none⟩ = some (.int .i64 (pl v))
 par : ∀ v, v ≤ F.par.n → bl v = 0 ∧ pl v = -1
 val : ∀ b' k', b' < F.blk.n → k' < (F.B b').n → (F.I b' k').ty ≠ 0 → bl (idx F b' k') = b' ∧ pl (idx F b' k') = k'

theorem Gv.on {F : FV} {w w' : World} {O : Nat} {bl pl : Nat → Int} (h : Gv F w O bl pl) (hb : Below w.heap.size w w') : Gv F w' O bl pl :=
 ⟨fun v hv => cell_on hb (h.cb v hv), fun v hv => cell_on hb (h.cp v hv), h.par, h.val⟩

theorem Gv.useI {F : FV} {w : World} {O : Nat} {bl pl : Nat → Int} (hw : Gv F w O bl pl) {b k i b0 k0 : Nat} (h1 : 1 ≤ F.A b k i) (h2 : F.A b k i ≤ allV F) (hb : b0 < F.blk.n) (hk : k0 < (F.B b0).n) (ht : (F.I b0 k0).ty ≠ 0) (he : F.A b k i = idx F b0 k0) : UseI F b k i ↔ There F b k i b0 k0 := by
 refine ⟨fun h => h.2.2 b0 k0 hb hk ht he, fun h => ⟨h1, h2, fun b' k' a c d e => ?_⟩⟩
 have e2 : idx F b' k' = idx F b0 k0 := by have := he.symm.trans e; omega
 have q1 := hw.val b' k' a c d
 have q2 := hw.val b0 k0 hb hk ht
 rw [e2] at q1
 have r1 : b' = b0 := by have := q1.1.symm.trans q2.1; omega
 have r2 : k' = k0 := by have := q1.2.symm.trans q2.2; omega
 rw [r1, r2]; exact h

theorem dom_zero {F : FV} {b : Nat} (h0 : 0 < F.blk.n) (h : Flo.Way (su F) 0 b) : DomR F 0 b := ⟨.refl _, h, .inr fun h => h.1 rfl⟩

def Sees (F : FV) (b k i : Nat) (fb fp : Int) : Prop := (F.I b k).op = 26 ∧ DomR F fb.toNat (F.J b k i).toNat ∨ (F.I b k).op ≠ 26 ∧ (fb = b ∧ fp < k ∨ fb ≠ b ∧ DomR F fb.toNat b)

theorem Gv.sees {F : FV} {w : World} {O : Nat} {bl pl : Nat → Int} (hw : Gv F w O bl pl) (hway : ∀ i, i < F.blk.n → Flo.Way (su F) 0 i) {b k i v : Nat} (lb : b < F.blk.n) (hp : (F.I b k).op = 26 → (F.J b k i).toNat < F.blk.n) (hv : F.A b k i = v) (h1 : 1 ≤ v) (h2 : v ≤ allV F) :
  (∃ b0 : Nat, bl v = b0 ∧ b0 < F.blk.n) ∧ (UseI F b k i ↔ Sees F b k i (bl v) (pl v)) := by
 by_cases g : v ≤ F.par.n
 ·obtain ⟨e1, e2⟩ := hw.par v g
  refine ⟨⟨0, by rw [e1]; rfl, by omega⟩, ⟨fun _ => ?_, fun _ => useI_par (by omega) (by omega)⟩⟩
  rw [e1, e2]
  by_cases ho : (F.I b k).op = 26
  ·exact .inl ⟨ho, dom_zero (by omega) (hway _ (hp ho))⟩
  ·refine .inr ⟨ho, ?_⟩
   by_cases hb0 : b = 0
   ·exact .inl ⟨by omega, by omega⟩
   ·exact .inr ⟨by omega, dom_zero (by omega) (hway b lb)⟩
 ·obtain ⟨b0, k0, lb0, lk0, ht0, he0⟩ := idx_onto F F.blk.n (Nat.le_refl _) v (by omega) (by rw [lastOf_all]; omega)
  obtain ⟨e1, e2⟩ := hw.val b0 k0 lb0 lk0 ht0
  rw [he0] at e1 e2
  refine ⟨⟨b0, e1, lb0⟩, ?_⟩
  rw [hw.useI (by omega) (by omega) lb0 lk0 ht0 (by rw [hv, he0]), e1, e2]
  unfold There Sees
  by_cases ho : (F.I b k).op = 26
  ·rw [if_pos ho]; simp [ho]
  ·rw [if_neg ho]
   constructor
   ·rintro (⟨h1, h2⟩ | ⟨h1, h2⟩)
    ·exact .inr ⟨ho, .inl ⟨by omega, by omega⟩⟩
    ·exact .inr ⟨ho, .inr ⟨by omega, h2⟩⟩
   ·rintro (⟨h1, _⟩ | ⟨_, ⟨h1, h2⟩ | ⟨h1, h2⟩⟩)
    ·exact absurd h1 ho
    ·exact .inl ⟨by omega, by omega⟩
    ·exact .inr ⟨by omega, h2⟩

theorem spot_at {g n c x : Nat} (hx : x < n) : ∀ wx, (Instr.indexAt 171 (.slice (some ⟨g, 0, none⟩) n c) (.int .i64 x)).run Tryz.prog wx = .ok (.pointer (some ⟨g, x * 2, none⟩)) wx := by
 have := index_row (s := ⟨some ⟨g, 0, none⟩, n, c⟩) rfl (show Tryz.prog.underlying 171 = some (.slice 177) by kernel_rfl) (show (Tryz.prog.info? 177).map (fun i => i.size) = some 2 by kernel_rfl) hx
 simpa using this

def ArgsOk (F : FV) (b k : Nat) (u : IV) : Prop := ∀ i, i < u.args.n → UseI F b k i

set_option maxRecDepth 10000 in
set_option maxHeartbeats 8000000 in
theorem argFault_any (F : FV) (b k : Nat) (L : List Nat) (par : Nat → Nat) (O n cO g c : Nat) (bl pl ov : Nat → Int) (w : World) (hF : In w F) (hl : Light F) (hf : FormF F) (hfl : FlowF F) (lb : b < F.blk.n) (lk : k < (F.B b).n)
  (hgv : Gv F w O bl pl) (hn : n = allV F + 1) (hgr : Gro (su F) L par []) (hr : Ro w g F.blk.n ov) (ho : OverIs F ov) (hc : F.blk.n ≤ c) (hcO : n ≤ cO) :
  Calls Tryz.prog 133 #[.agg #[.slice (some ⟨O, 0, none⟩) n cO, .slice (some ⟨g, 0, none⟩) F.blk.n c], (F.I b k).val, .agg #[.int .i64 b, .int .i64 k]] w fun e w' => Ans (fun r => r = true ↔ ¬ ArgsOk F b k (F.I b k)) w e w' := by
 have gb := hl.blk
 have gi := hl.ins b lb
 have ga := hl.args b lb k lk
 have gin := hl.into b lb k lk
 have gv := allV_le hl
 have hway : ∀ i, i < F.blk.n → Flo.Way (su F) 0 i := fun i hi => (hfl.2 i hi).1
 have JP := hid (show (F.I b k).op = 26 → (F.I b k).into.n = (F.I b k).args.n ∧ ∀ i, i < (F.I b k).into.n → ∃ p : Nat, F.J b k i = p ∧ p < F.blk.n from fun h => by
  obtain ⟨_, h1, h2⟩ := (hfl.2 b lb).2 k lk h
  exact ⟨phi_into (hf.2.2 b lb k lk) h, fun i hi => ⟨_, h2 i hi, pvL_lt _ (getD_mem (by omega))⟩⟩)
 have IA := hid (hF.args b lb k lk)
 have II := hid (hF.into b lb k lk)
 have HW := hid hway
 have HG := hid hgv
 have HN0 := hid hn
 have HGR := hid hgr
 have HRO := hid hr
 have HOV := hid ho
 obtain ⟨u, hu⟩ : ∃ u, F.I b k = u := ⟨_, rfl⟩
 have EU := hid hu
 rw [hu] at JP IA II ga gin ⊢
 obtain ⟨W1, hW1⟩ : ∃ W1, w.alloc (.cells #[.slice (some ⟨O, 0, none⟩) n cO, .slice (some ⟨g, 0, none⟩) F.blk.n c] 174) = W1 := ⟨_, rfl⟩
 obtain ⟨W2, hW2⟩ : ∃ W2, W1.alloc (.cells u.cells 43) = W2 := ⟨_, rfl⟩
 obtain ⟨W, hW⟩ : ∃ W, W2.alloc (.cells #[.int .i64 b, .int .i64 k] 177) = W := ⟨_, rfl⟩
 have z1 : W1.heap.size = w.heap.size + 1 := by rw [← hW1]; simp
 have z2 : W2.heap.size = w.heap.size + 1 + 1 := by rw [← hW2]; simp [z1]
 have BX := hid (show W.cell? ⟨w.heap.size, 0, none⟩ = some (.slice (some ⟨O, 0, none⟩) n cO) ∧ W.cell? ⟨w.heap.size, 1, none⟩ = some (.slice (some ⟨g, 0, none⟩) F.blk.n c) ∧ W.cell? ⟨w.heap.size + 1, 0, none⟩ = some (.int .i64 u.op) ∧ W.cell? ⟨w.heap.size + 1, 5, none⟩ = some (.slice u.args.a u.args.n u.args.c) ∧ W.cell? ⟨w.heap.size + 1, 6, none⟩ = some (.slice u.into.a u.into.n u.into.c) ∧ W.cell? ⟨w.heap.size + 1 + 1, 0, none⟩ = some (.int .i64 b) ∧ W.cell? ⟨w.heap.size + 1 + 1, 1, none⟩ = some (.int .i64 k) from by
  have a1 : W2.cell? ⟨w.heap.size, 0, none⟩ = some (.slice (some ⟨O, 0, none⟩) n cO) ∧ W2.cell? ⟨w.heap.size, 1, none⟩ = some (.slice (some ⟨g, 0, none⟩) F.blk.n c) := by
   have q : Below W1.heap.size W1 W2 := by rw [← hW2]; exact new (same _) _
   exact ⟨cell_on q (by rw [← hW1]; simp), cell_on q (by rw [← hW1]; simp)⟩
  have q : Below W2.heap.size W2 W := by rw [← hW]; exact new (same _) _
  have a2 : W2.cell? ⟨w.heap.size + 1, 0, none⟩ = some (.int .i64 u.op) ∧ W2.cell? ⟨w.heap.size + 1, 5, none⟩ = some (.slice u.args.a u.args.n u.args.c) ∧ W2.cell? ⟨w.heap.size + 1, 6, none⟩ = some (.slice u.into.a u.into.n u.into.c) := by
   rw [← z1, ← hW2]; exact ⟨by simp, by simp, by simp⟩
  exact ⟨cell_on q a1.1, cell_on q a1.2, cell_on q a2.1, cell_on q a2.2.1, cell_on q a2.2.2, by rw [← z2, ← hW]; simp, by rw [← z2, ← hW]; simp⟩)
 have LW := hid (show Below w.heap.size w W by rw [← hW, ← hW2, ← hW1]; exact new (new (new (same w) _) _) _)
 have zW : w.heap.size + 3 = W.heap.size := by rw [← hW]; simp [z2]
 obtain ⟨m0, m1, m2, m3, m4, m5, m6⟩ := BX.out
 clear hF hl hf hfl hgv hn hgr hr ho hway hu
 go_enter Tryz.func133, Tryz.ntmps133
 go_wp2_with fail
 clear hW1 hW2 hW z1 z2 m0 m1 m2 m3 m4 m5 m6
 go_loopw [13] (fun iv wr => ∃ i : Nat, i ≤ u.args.n ∧ iv = .int .i64 i ∧ (∀ t, t < i → UseI F b k t) ∧ Below W.heap.size W wr) (fun iv _ => u.args.n - (intOf iv).toNat)
 case atStart => exact ⟨0, Nat.zero_le _, rfl, fun t ht => by omega, same _⟩
 case round =>
  obtain ⟨i, hi, rfl, hall, hb⟩ := hrel
  have HI := hid (And.intro hall hb)
  have LL := hid (View.more LW.out hb)
  by_cases li : i < u.args.n
  ·obtain ⟨pb, po, hpx, hpc⟩ := (IA.out.on LL.out).at li
   obtain ⟨m0, m1, m2, m3, m4, m5, m6⟩ := BX.out
   replace m0 := cell_on hb m0
   replace m1 := cell_on hb m1
   replace m2 := cell_on hb m2
   replace m4 := cell_on hb m4
   replace m5 := cell_on hb m5
   replace m6 := cell_on hb m6
   have z0 := World.block_lt_of_cell? _ _ m0
   have z1 := World.block_lt_of_cell? _ _ m2
   have z2 := World.block_lt_of_cell? _ _ m5
   clear m3
   by_cases g1 : F.A b k i < 1
   ·have t1 : decide (F.A b k i < 1) = true := by simpa using g1
    have HN := hid (show ¬ ArgsOk F b k u from fun h => by have := (h i li).1; omega)
    clear hall hb g1
    go_wp2_with fail
    go_ret
    exact ⟨true, rfl, ⟨fun _ => HN.out, fun _ => rfl⟩, LL.out⟩
   have t1 : decide (F.A b k i < 1) = false := by simpa using g1
   by_cases g2 : (n : Int) ≤ F.A b k i
   ·have t2 : decide ((n : Int) ≤ F.A b k i) = true := by simpa using g2
    have HN := hid (show ¬ ArgsOk F b k u from fun h => by have := (h i li).2.1; have := HN0.out; omega)
    clear hall hb g1 g2
    go_wp2_with fail
    go_ret
    exact ⟨true, rfl, ⟨fun _ => HN.out, fun _ => rfl⟩, LL.out⟩
   have t2 : decide ((n : Int) ≤ F.A b k i) = false := by simpa using g2
   obtain ⟨v, hv⟩ : ∃ v : Nat, F.A b k i = v := ⟨(F.A b k i).toNat, by omega⟩
   have hvn : v < n := by omega
   have hvv : v ≤ allV F := by have := HN0.out; omega
   have GV := HG.out.on LL.out
   have hvx := spot_at (g := O) (c := cO) hvn
   have q1 := GV.cb v hvv
   have q2 := GV.cp v hvv
   obtain ⟨⟨b0, eb0, lb0⟩, hsee⟩ := GV.sees HW.out lb (fun h => by
    obtain ⟨e, hh⟩ := JP.out (by rw [← EU.out]; exact h)
    obtain ⟨p, hp, hp2⟩ := hh i (by omega)
    rw [hp]; simpa using hp2) hv (by omega) hvv
   rw [eb0] at q1 hsee
   obtain ⟨P, hP⟩ : ∃ P, pl v = P := ⟨_, rfl⟩
   rw [hP] at q2 hsee
   rw [hv] at hpc t1 t2
   have SEE := hid (show UseI F b k i ↔ Sees F b k i b0 P from hsee)
   obtain ⟨W3, hW3⟩ : ∃ W3, wr.alloc (.cells #[.int .i64 b0, .int .i64 P] 177) = W3 := ⟨_, rfl⟩
   have N3 := hid (show Below wr.heap.size wr W3 by rw [← hW3]; exact new (same _) _)
   have L2 := hid (View.more HI.out.2 N3.out)
   have y0 : W3.cell? ⟨wr.heap.size, 0, none⟩ = some (.int .i64 b0) := by rw [← hW3]; simp
   have y1 : W3.cell? ⟨wr.heap.size, 1, none⟩ = some (.int .i64 P) := by rw [← hW3]; simp
   have M0 := cell_on N3.out m0
   have M1 := cell_on N3.out m1
   have M2 := cell_on N3.out m2
   have M4 := cell_on N3.out m4
   have M5 := cell_on N3.out m5
   have M6 := cell_on N3.out m6
   have st0 : Below W3.heap.size W3 W3.drew := Below.drew (same _)
   have A0 : ∀ wx, Below W3.heap.size W3 wx → wx.cell? ⟨w.heap.size, 0, none⟩ = some (.slice (some ⟨O, 0, none⟩) n cO) := fun wx h => cell_on h M0
   have A1 : ∀ wx, Below W3.heap.size W3 wx → wx.cell? ⟨w.heap.size, 1, none⟩ = some (.slice (some ⟨g, 0, none⟩) F.blk.n c) := fun wx h => cell_on h M1
   have A4 : ∀ wx, Below W3.heap.size W3 wx → wx.cell? ⟨w.heap.size + 1, 6, none⟩ = some (.slice u.into.a u.into.n u.into.c) := fun wx h => cell_on h M4
   have A5 : ∀ wx, Below W3.heap.size W3 wx → wx.cell? ⟨w.heap.size + 1 + 1, 0, none⟩ = some (.int .i64 b) := fun wx h => cell_on h M5
   have Y0 : ∀ wx, Below W3.heap.size W3 wx → wx.cell? ⟨wr.heap.size, 0, none⟩ = some (.int .i64 b0) := fun wx h => cell_on h y0
   have HA := hid (And.intro st0 (And.intro A0 (And.intro A1 (And.intro A4 (And.intro A5 Y0)))))
   clear st0 A0 A1 A4 A5 Y0
   have YES := hid (show ∀ wx, Below W.heap.size W wx → ¬ UseI F b k i → Ans (fun r => r = true ↔ ¬ ArgsOk F b k u) w (.returned (.bool true)) wx from fun wx h hno => ⟨true, rfl, ⟨fun _ => fun h => hno (h i li), fun _ => rfl⟩, View.more LW.out h⟩)
   clear hall hb g1 g2 hv GV hsee eb0 hP
   by_cases h26 : u.op = 26
   ·have t26 : (u.op == 26) = true := by simp [h26]
    obtain ⟨e, hh⟩ := JP.out h26
    obtain ⟨p, hp, hp2⟩ := hh i (by omega)
    obtain ⟨jb, jo, hjx, hjc⟩ := (II.out.on (View.more LL.out N3.out)).at (k := i) (by omega)
    rw [hp] at hjc
    have J0 : ∀ wx, Below W3.heap.size W3 wx → wx.cell? ⟨jb, jo, none⟩ = some (.int .i64 p) := fun wx h => cell_on h hjc
    have HJ := hid J0
    have SE := hid (show UseI F b k i ↔ DomR F b0 p by
     rw [SEE.out]
     unfold Sees
     rw [EU.out, hp]
     simp [h26])
    clear h26 e hh hp hjc J0
    go_upto_region 8 with fail
    clear hW3 y0 y1 M0 M1 M2 M4 M5 M6 m0 m1 m2 m4 m5 m6 hpc q1 q2
    have J0 := HJ.out
    obtain ⟨st0, A0, A1, A4, A5, Y0⟩ := HA.out
    refine wp_region_noPanic ?_
    refine wp_region_held_drew (S := fun wx => Below W3.heap.size W3 wx) (by kernel_rfl) st0 (fun hS => ?_)
    refine tk (i := 0) (d := some 36) (v := ?vr80) rfl (by rfl) ?yr80 hS ?_
    case yr80 => intro wx hSw; (go_simp) <;> with_reducible rfl
    simp only [Act.put, sP1, sP2, sP3]
    refine tk (i := 1) (d := some 37) (v := ?vr81) rfl (by rfl) ?yr81 hS ?_
    case yr81 => intro wx hSw; (go_simp) <;> with_reducible rfl
    simp only [Act.put, sP1, sP2, sP3]
    refine tk (i := 2) (d := some 38) (v := ?vr82) rfl (by rfl) ?yr82 hS ?_
    case yr82 => intro wx hSw; (go_simp) <;> with_reducible rfl
    simp only [Act.put, sP1, sP2, sP3]
    refine tk (i := 3) (d := some 39) (v := ?vr83) rfl (by rfl) ?yr83 hS ?_
    case yr83 => intro wx hSw; (go_simp) <;> with_reducible rfl
    simp only [Act.put, sP1, sP2, sP3]
    refine tk (i := 4) (d := some 40) (v := ?vr84) rfl (by rfl) ?yr84 hS ?_
    case yr84 => intro wx hSw; (go_simp) <;> with_reducible rfl
    simp only [Act.put, sP1, sP2, sP3]
    refine tk (i := 5) (d := some 41) (v := ?vr85) rfl (by rfl) ?yr85 hS ?_
    case yr85 => intro wx hSw; (go_simp) <;> with_reducible rfl
    simp only [Act.put, sP1, sP2, sP3]
    refine tk (i := 6) (d := some 42) (v := ?vr86) rfl (by rfl) ?yr86 hS ?_
    case yr86 => intro wx hSw; (go_simp) <;> with_reducible rfl
    simp only [Act.put, sP1, sP2, sP3]
    refine tk (i := 7) (d := some 43) (v := ?vr87) rfl (by rfl) ?yr87 hS ?_
    case yr87 => intro wx hSw; (go_simp) <;> with_reducible rfl
    simp only [Act.put, sP1, sP2, sP3]
    refine wpAnyH_ready (rs := [8]) (by kernel_rfl) (by simp) ?_
    refine AllReadyH.cons rfl (fun K hK => ?_) AllReadyH.nil
    go_simp
    refine (isOver_any F L par ⟨some ⟨O, 0, none⟩, n, cO⟩ g c ov b0 p _ HGR.out (HRO.out.on (View.more (View.more LL.out N3.out) st0)) HOV.out HW.out lb0 hp2 gb hc).mono ?_
    rintro e wp1 ⟨r, rfl, hr, hbp⟩
    have p1 : Below W3.heap.size W3 wp1 := View.more st0 hbp
    have RR := hid hr
    clear hr hbp
    go_wp2_with fail
    refine hK.out _ _ p1 (fun _ => ?_)
    clear hK K
    replace hS := p1
    try simp only [Act.put, sP1, sP2, sP3]
    refine tk (i := 9) (d := some 45) (v := ?vr89) rfl (by rfl) ?yr89 hS ?_
    case yr89 => intro wx hSw; (go_simp) <;> with_reducible rfl
    simp only [Act.put, sP1, sP2, sP3]
    refine wpAnyH_done (by kernel_rfl) ?_ _
    refine NoPanic.normal ?_
    have P1 := hid p1
    clear hS st0 p1 A0 A1 A4 A5 Y0 J0
    cases r with
    | false =>
     have HN := hid (show ¬ UseI F b k i from fun h => by have := RR.out.2 (SE.out.1 h); cases this)
     go_wp2_with fail
     go_ret
     exact YES.out _ (View.more L2.out P1.out) HN.out
    | true =>
     have HP := hid (SE.out.2 (RR.out.1 rfl))
     go_wp2_with fail
     go_round
     case rel => exact ⟨i + 1, by omega, by go_num, upto1 HI.out.1 HP.out, View.more L2.out P1.out⟩
     case measure => simp [intOf]; omega
   ·have t26 : (u.op == 26) = false := by simp [h26]
    by_cases h5 : b0 = b
    ·have t5 : ((b0 : Int) == (b : Int)) = true := by simp [h5]
     have t6 : (b0 == b) = true := by simp [h5]
     by_cases h7 : (k : Int) ≤ P
     ·have t7 : decide ((k : Int) ≤ P) = true := by simpa using h7
      have HN := hid (show ¬ UseI F b k i from fun h => by
       have h2 := SEE.out.1 h
       unfold Sees at h2
       rw [EU.out] at h2
       rcases h2 with ⟨h3, _⟩ | ⟨_, ⟨_, h3⟩ | ⟨h3, _⟩⟩
       ·exact h26 h3
       ·omega
       ·omega)
      clear h26 h5 h7
      go_wp2_with fail
      go_ret
      exact YES.out _ L2.out HN.out
     ·have t7 : decide ((k : Int) ≤ P) = false := by simpa using h7
      have HP := hid (SEE.out.2 (by unfold Sees; rw [EU.out]; exact .inr ⟨h26, .inl ⟨by omega, by omega⟩⟩))
      clear h26 h5 h7
      go_wp2_with fail
      go_round
      case rel => exact ⟨i + 1, by omega, by go_num, upto1 HI.out.1 HP.out, L2.out⟩
      case measure => simp [intOf]; omega
    ·have t5 : ((b0 : Int) == (b : Int)) = false := by rw [beq_eq_false_iff_ne]; omega
     have t6 : (b0 == b) = false := by simp [h5]
     have SE := hid (show UseI F b k i ↔ DomR F b0 b by
      rw [SEE.out]
      unfold Sees
      rw [EU.out]
      constructor
      ·rintro (⟨h3, _⟩ | ⟨_, ⟨h3, _⟩ | ⟨_, h3⟩⟩)
       ·exact absurd h3 h26
       ·omega
       ·simpa using h3
      ·intro h3
       exact .inr ⟨h26, .inr ⟨by omega, by simpa using h3⟩⟩)
     clear h26 h5
     go_wp2_with fail
     refine (isOver_any F L par ⟨some ⟨O, 0, none⟩, n, cO⟩ g c ov b0 b _ HGR.out (HRO.out.on (View.more LL.out N3.out)) HOV.out HW.out lb0 lb gb hc).mono ?_
     rintro e wp1 ⟨r, rfl, hr, hbp⟩
     have P1 := hid hbp
     have RR := hid hr
     clear hr hbp
     cases r with
     | false =>
      have HN := hid (show ¬ UseI F b k i from fun h => by have := RR.out.2 (SE.out.1 h); cases this)
      go_wp2_with fail
      go_ret
      exact YES.out _ (View.more L2.out P1.out) HN.out
     | true =>
      have HP := hid (SE.out.2 (RR.out.1 rfl))
      go_wp2_with fail
      go_round
      case rel => exact ⟨i + 1, by omega, by go_num, upto1 HI.out.1 HP.out, View.more L2.out P1.out⟩
      case measure => simp [intOf]; omega
  ·obtain rfl : i = u.args.n := by omega
   clear hall hb
   go_wp2_with fail
   go_ret
   exact ⟨false, rfl, ⟨fun h => absurd h (by simp), fun h => absurd HI.out.1 h⟩, LL.out⟩

end Go.Proofs.YtolipafcoolpgaaGreat.Wf
