/-
  What is over what, by blocks and by places.
-/
import Derived.Test.YtahjippocejphaaDmb
import Derived.Test.YtahjippocejphaaFloDm
namespace Go.Proofs.Ytahjippocejphaa.Dm
open Go.RowKit View Rd Copy Num Ty Srt Go.Proofs.Ytahjippocejphaa.Flo Go.Proofs.Ytahjippocejphaa.Lt

set_option linter.unusedVariables false

theorem Av.notroot {e : Nat → Nat → Prop} {a y : Nat} (h : Av e a y) : a ≠ 0 := by
  induction h with
  | root h => exact h
  | step _ _ _ ih => exact ih

theorem getD_inj {L : List Nat} (hn : L.Nodup) {i j : Nat} (hi : i < L.length) (hj : j < L.length) (h : L.getD i 0 = L.getD j 0) : i = j := by
  have h1 : L[i] = L[j] := by simpa [List.getD, hi, hj] using h
  have hp := List.pairwise_iff_getElem.1 hn
  rcases Nat.lt_trichotomy i j with h | h | h
  · exact absurd h1 (hp i j hi hj h)
  · exact h
  · exact absurd h1.symm (hp j i hj hi h)

theorem mem_getD {L : List Nat} {b : Nat} (h : b ∈ L) : ∃ i, i < L.length ∧ L.getD i 0 = b := by
  obtain ⟨i, hi, e⟩ := List.getElem_of_mem h
  exact ⟨i, hi, by simp [List.getD, hi, e]⟩

variable {F : FV} {L : List Nat} {par : Nat → Nat}

theorem av_way (hgr : Gro (su F) L par []) {i j : Nat} (hi : i < L.length) (h : Av (ePl (su F) L) i j) : Go.Proofs.Ytahjippocejphaa.Flo.Way (suL F (L.getD i 0 : Nat)) 0 (L.getD j 0) := by
  induction h with
  | root h => rw [hgr.zero]; exact .refl 0
  | @step x y _ he hy ih =>
    refine .step ih (mem_suL.2 ⟨he.2.2, fun e => hy ?_⟩)
    exact getD_inj hgr.nodup he.2.1 hi (by omega)

theorem way_av (hgr : Gro (su F) L par []) {i : Nat} (hi : i < L.length) (h0 : i ≠ 0) {b : Nat} (h : Go.Proofs.Ytahjippocejphaa.Flo.Way (suL F (L.getD i 0 : Nat)) 0 b) : ∃ j, j < L.length ∧ L.getD j 0 = b ∧ Av (ePl (su F) L) i j := by
  induction h with
  | refl => exact ⟨0, hgr.pos, hgr.zero, .root h0⟩
  | @step b c _ hc ih =>
    obtain ⟨j, hj, e, ha⟩ := ih
    obtain ⟨h1, h2⟩ := mem_suL.1 hc
    have hw : Go.Proofs.Ytahjippocejphaa.Flo.Way (su F) 0 c := .step (hgr.way b (by rw [← e]; exact getD_in hj)) h1
    obtain ⟨k, hk, e2⟩ := mem_getD (hgr.reach hw)
    refine ⟨k, hk, e2, .step ha ⟨hj, hk, by rw [e, e2]; exact h1⟩ (fun ek => h2 ?_)⟩
    rw [← e2, ek]

/-- Over, by blocks and by places. -/
theorem dom_av (hgr : Gro (su F) L par []) {i j : Nat} (hi : i < L.length) (hj : j < L.length) : DomR F (L.getD i 0) (L.getD j 0) ↔ ¬ Av (ePl (su F) L) i j := by
  constructor
  · rintro ⟨_, _, h⟩ ha
    rcases h with h | h
    · exact ha.ne (getD_inj hgr.nodup hj hi h.symm)
    · refine h ⟨fun e => Av.notroot ha ?_, av_way hgr hi ha⟩
      exact getD_inj hgr.nodup hi hgr.pos (by rw [e, hgr.zero])
  · intro h
    refine ⟨hgr.way _ (getD_in hi), hgr.way _ (getD_in hj), ?_⟩
    by_cases e : L.getD i 0 = L.getD j 0
    · exact .inl e
    · refine .inr fun ⟨h1, h2⟩ => ?_
      obtain ⟨k, hk, e2, ha⟩ := way_av hgr hi (fun e0 => h1 (by rw [e0, hgr.zero])) h2
      rw [getD_inj hgr.nodup hk hj e2] at ha
      exact h ha

/-- a is the nearest one over b. -/
structure NearB (F : FV) (b a : Nat) : Prop where
  dom : DomR F a b
  ne : a ≠ b
  low : ∀ d, d ≠ b → DomR F d b → DomR F d a

theorem nearB_of (hgr : Gro (su F) L par []) {p o : Nat} (hp : p < L.length) (h : Near L.length (ePl (su F) L) p o) : NearB F (L.getD p 0) (L.getD o 0) := by
  have ho := h.lt
  refine ⟨(dom_av hgr (by omega) hp).2 h.over, fun e => by have := getD_inj hgr.nodup (by omega) hp e; omega, fun d hd hdb => ?_⟩
  obtain ⟨i, hi, e⟩ := mem_getD (hgr.reach hdb.1)
  subst e
  exact (dom_av hgr hi (by omega)).2 (h.low i (fun e => hd (by rw [e])) ((dom_av hgr hi hp).1 hdb))

/-- What Over is. -/
structure OverIs (F : FV) (ov : Nat → Int) : Prop where
  some : ∀ b, b < F.blk.n → b ≠ 0 → Go.Proofs.Ytahjippocejphaa.Flo.Way (su F) 0 b → ∃ a : Nat, a < F.blk.n ∧ ov b = a ∧ NearB F b a
  none : ∀ b, b < F.blk.n → (b = 0 ∨ ¬ Go.Proofs.Ytahjippocejphaa.Flo.Way (su F) 0 b) → ov b = -1

theorem dom_trans {F : FV} {a b c : Nat} (h1 : DomR F a b) (h2 : DomR F b c) (hgr : Gro (su F) L par []) : DomR F a c := by
  obtain ⟨i, hi, rfl⟩ := mem_getD (hgr.reach h1.1)
  obtain ⟨j, hj, rfl⟩ := mem_getD (hgr.reach h1.2.1)
  obtain ⟨k, hk, rfl⟩ := mem_getD (hgr.reach h2.2.1)
  exact (dom_av hgr hi hk).2 (over_trans ((dom_av hgr hi hj).1 h1) ((dom_av hgr hj hk).1 h2))

theorem dom_anti {F : FV} {a b : Nat} (h1 : DomR F a b) (h2 : DomR F b a) (hgr : Gro (su F) L par []) : a = b := by
  obtain ⟨i, hi, rfl⟩ := mem_getD (hgr.reach h1.1)
  obtain ⟨j, hj, rfl⟩ := mem_getD (hgr.reach h1.2.1)
  rw [over_anti hgr.dfs hi hj ((dom_av hgr hi hj).1 h1) ((dom_av hgr hj hi).1 h2)]

/-- Of two over a third one is over the other. -/
theorem dom_chain {F : FV} {a b c : Nat} (h1 : DomR F a c) (h2 : DomR F b c) (hgr : Gro (su F) L par []) : DomR F a b ∨ DomR F b a := by
  obtain ⟨i, hi, rfl⟩ := mem_getD (hgr.reach h1.1)
  obtain ⟨j, hj, rfl⟩ := mem_getD (hgr.reach h2.1)
  obtain ⟨k, hk, rfl⟩ := mem_getD (hgr.reach h2.2.1)
  rcases Nat.lt_trichotomy i j with h | h | h
  · exact .inl ((dom_av hgr hi hj).2 (over_chain hgr.dfs hk ((dom_av hgr hi hk).1 h1) ((dom_av hgr hj hk).1 h2) h))
  · subst h; exact .inl ((dom_av hgr hi hi).2 (over_self i))
  · exact .inr ((dom_av hgr hj hi).2 (over_chain hgr.dfs hk ((dom_av hgr hj hk).1 h2) ((dom_av hgr hi hk).1 h1) h))

theorem dom_self {F : FV} {a : Nat} (h : Go.Proofs.Ytahjippocejphaa.Flo.Way (su F) 0 a) : DomR F a a := ⟨h, h, .inl rfl⟩

theorem nearB_unique {F : FV} {a a' b : Nat} (h : NearB F b a) (h' : NearB F b a') (hgr : Gro (su F) L par []) : a = a' :=
  dom_anti (h'.low a h.ne h.dom) (h.low a' h'.ne h'.dom) hgr

end Go.Proofs.Ytahjippocejphaa.Dm
