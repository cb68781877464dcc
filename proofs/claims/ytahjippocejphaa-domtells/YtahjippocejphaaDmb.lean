/-
  Depth first with a pile of steps, in plain words: what dom.grow keeps.
-/
import Derived.Test.YtahjippocejphaaLt
import Derived.Test.YtahjippocejphaaFloQ
namespace Go.Proofs.Ytahjippocejphaa.Dm
open Go.Proofs.Ytahjippocejphaa.Flo Go.Proofs.Ytahjippocejphaa.Lt

set_option linter.unusedVariables false

theorem anc_lt {par : Nat → Nat} {m : Nat} (hlt : ∀ p, 0 < p → p < m → par p < p) {i j : Nat} (h : Anc par i j) (hj : j < m) : i ≤ j := by
  induction h with
  | refl => exact Nat.le_refl _
  | @up j h0 _ ih => have := hlt j h0 hj; have := ih (by omega); omega

theorem anc_chain {par : Nat → Nat} {m : Nat} (hlt : ∀ p, 0 < p → p < m → par p < p) {a b c : Nat} (h1 : Anc par a c) (h2 : Anc par b c) (hab : a ≤ b) (hc : c < m) : Anc par a b := by
  induction h2 with
  | refl => exact h1
  | @up j h0 hb ih =>
    cases h1 with
    | refl => have := anc_lt hlt hb (by have := hlt _ h0 hc; omega); have := hlt _ h0 hc; omega
    | up _ ha => exact ih ha (by have := hlt j h0 hc; omega)

theorem anc_congr {par par' : Nat → Nat} {m : Nat} (hlt : ∀ p, 0 < p → p < m → par p < p) (he : ∀ p, p < m → par' p = par p) {i j : Nat} (h : Anc par i j) (hj : j < m) : Anc par' i j := by
  induction h with
  | refl => exact .refl
  | @up j h0 _ ih =>
    have := hlt j h0 hj
    exact .up h0 (by rw [he j hj]; exact ih (by omega))

/-- What grow keeps: the blocks met so far, whence each was met, the steps to be tried. -/
structure Gro (N : Nat → List Nat) (L : List Nat) (par : Nat → Nat) (U : List (Nat × Nat)) : Prop where
  pos : 0 < L.length
  zero : L.getD 0 0 = 0
  nodup : L.Nodup
  way : ∀ x ∈ L, Go.Proofs.Ytahjippocejphaa.Flo.Way N 0 x
  lt : ∀ p, 0 < p → p < L.length → par p < p
  edge : ∀ p, 0 < p → p < L.length → L.getD p 0 ∈ N (L.getD (par p) 0)
  last : ∀ p, p + 1 < L.length → Anc par (par (p + 1)) p
  fwd : ∀ i j, i < L.length → j < L.length → L.getD j 0 ∈ N (L.getD i 0) → i < j → Anc par i j
  ent : ∀ u ∈ U, u.1 < L.length ∧ u.2 ∈ N (L.getD u.1 0) ∧ Anc par u.1 (L.length - 1)
  sorted : U.Pairwise (fun a b => a.1 ≤ b.1)
  pend : ∀ i, i < L.length → ∀ v ∈ N (L.getD i 0), v ∈ L ∨ (i, v) ∈ U

theorem getD_app {L : List Nat} {x i : Nat} (h : i < L.length) : (L ++ [x]).getD i 0 = L.getD i 0 := by
  simp [List.getD, List.getElem?_append_left h]
theorem getD_new {L : List Nat} {x : Nat} : (L ++ [x]).getD L.length 0 = x := by simp [List.getD]
theorem getD_in {L : List Nat} {i : Nat} (h : i < L.length) : L.getD i 0 ∈ L := by simp [List.getD, h]

theorem Gro.start (N : Nat → List Nat) : Gro N [0] (fun _ => 0) ((N 0).map (fun v => (0, v))) := by
  refine ⟨by simp, rfl, by simp, fun x hx => by simp at hx; subst hx; exact .refl 0, fun p h1 h2 => by simp at h2; omega, fun p h1 h2 => by simp at h2; omega, fun p h => by simp at h, fun i j hi hj _ hij => by simp at hi hj; omega, fun u hu => ?_, ?_, fun i hi v hv => ?_⟩
  · obtain ⟨v, hv, rfl⟩ := List.mem_map.1 hu
    exact ⟨by simp, by simpa using hv, .refl⟩
  · rw [List.pairwise_map]; exact List.pairwise_of_forall (fun _ _ => Nat.le_refl _)
  · simp at hi
    subst hi
    exact .inr (List.mem_map.2 ⟨v, by simpa using hv, rfl⟩)

theorem Gro.skip {N : Nat → List Nat} {L : List Nat} {par : Nat → Nat} {U : List (Nat × Nat)} {u : Nat × Nat} (h : Gro N L par (U ++ [u])) (hu : u.2 ∈ L) : Gro N L par U := by
  refine ⟨h.pos, h.zero, h.nodup, h.way, h.lt, h.edge, h.last, h.fwd, fun x hx => h.ent x (by simp [hx]), (List.pairwise_append.1 h.sorted).1, fun i hi v hv => ?_⟩
  rcases h.pend i hi v hv with h1 | h1
  · exact .inl h1
  · rcases List.mem_append.1 h1 with h2 | h2
    · exact .inr h2
    · simp at h2
      subst h2
      exact .inl hu

/-- Whence the new one was met. -/
def parN (par : Nat → Nat) (m f : Nat) : Nat → Nat := fun p => if p = m then f else par p

theorem Gro.meet {N : Nat → List Nat} {L : List Nat} {par : Nat → Nat} {U : List (Nat × Nat)} {u : Nat × Nat} (h : Gro N L par (U ++ [u])) (hu : u.2 ∉ L) :
    Gro N (L ++ [u.2]) (parN par L.length u.1) (U ++ (N u.2).map (fun v => (L.length, v))) := by
  have hent := h.ent u (by simp)
  have hp0 := h.pos
  have hlt' : ∀ p, 0 < p → p < L.length + 1 → parN par L.length u.1 p < p := fun p h1 h2 => by
    unfold parN
    by_cases e : p = L.length
    · rw [if_pos e]; have := hent.1; omega
    · rw [if_neg e]; exact h.lt p h1 (by omega)
  have hold : ∀ p, p < L.length → parN par L.length u.1 p = par p := fun p hp => by unfold parN; rw [if_neg (by omega)]
  have cg : ∀ {i j : Nat}, Anc par i j → j < L.length → Anc (parN par L.length u.1) i j := fun ha hj => anc_congr h.lt hold ha hj
  have hnew : parN par L.length u.1 L.length = u.1 := by simp [parN]
  have top : Anc (parN par L.length u.1) u.1 L.length := .up hp0 (by rw [hnew]; exact .refl)
  have below : ∀ x ∈ U, Anc (parN par L.length u.1) x.1 L.length := fun x hx => by
    have h1 := h.ent x (by simp [hx])
    have h2 : x.1 ≤ u.1 := (List.pairwise_append.1 h.sorted).2.2 x hx u (by simp)
    have h3 := anc_chain h.lt h1.2.2 hent.2.2 h2 (by omega)
    exact (cg h3 hent.1).trans top
  refine ⟨by simp, by rw [getD_app hp0]; exact h.zero, ?_, fun x hx => ?_, fun p h1 h2 => hlt' p h1 (by simpa using h2), fun p h1 h2 => ?_, fun p hp => ?_, fun i j hi hj he hij => ?_, fun x hx => ?_, ?_, fun i hi v hv => ?_⟩
  · exact List.nodup_append.2 ⟨h.nodup, by simp, fun a ha b hb => by simp at hb; rintro rfl; exact hu (hb ▸ ha)⟩
  · rcases List.mem_append.1 hx with h1 | h1
    · exact h.way x h1
    · simp at h1
      subst h1
      exact .step (h.way _ (getD_in hent.1)) hent.2.1
  · simp at h2
    by_cases e : p = L.length
    · subst e
      rw [getD_new, hnew, getD_app hent.1]
      exact hent.2.1
    · have hp : p < L.length := by omega
      have := h.lt p h1 hp
      rw [getD_app hp, hold p hp, getD_app (by omega)]
      exact h.edge p h1 hp
  · simp at hp
    by_cases e : p + 1 = L.length
    · rw [e, hnew]
      have := hent.2.2
      rw [show L.length - 1 = p by omega] at this
      exact cg this (by omega)
    · rw [hold _ (by omega)]
      exact cg (h.last p (by omega)) (by omega)
  · simp at hi hj
    by_cases ej : j = L.length
    · subst ej
      rw [getD_new, getD_app hij] at he
      rcases h.pend i hij u.2 he with h1 | h1
      · exact absurd h1 hu
      · rcases List.mem_append.1 h1 with h2 | h2
        · exact below _ h2
        · simp at h2
          rw [show i = u.1 from congrArg Prod.fst h2]
          exact top
    · have hj' : j < L.length := by omega
      rw [getD_app hj', getD_app (by omega)] at he
      exact cg (h.fwd i j (by omega) hj' he hij) hj'
  · rw [List.length_append]
    show _ < L.length + 1 ∧ _ ∧ Anc _ _ (L.length + 1 - 1)
    rcases List.mem_append.1 hx with h1 | h1
    · have h2 := h.ent x (by simp [h1])
      exact ⟨by omega, by rw [getD_app h2.1]; exact h2.2.1, by simpa using below x h1⟩
    · obtain ⟨v, hv, rfl⟩ := List.mem_map.1 h1
      exact ⟨by simp, by rw [getD_new]; exact hv, by simpa using Anc.refl⟩
  · refine List.pairwise_append.2 ⟨(List.pairwise_append.1 h.sorted).1, ?_, fun a ha b hb => ?_⟩
    · rw [List.pairwise_map]; exact List.pairwise_of_forall (fun _ _ => Nat.le_refl _)
    · obtain ⟨v, hv, rfl⟩ := List.mem_map.1 hb
      have := (h.ent a (by simp [ha])).1
      show a.1 ≤ L.length
      omega
  · simp at hi
    by_cases e : i = L.length
    · subst e
      rw [getD_new] at hv
      exact .inr (List.mem_append_right _ (List.mem_map.2 ⟨v, hv, rfl⟩))
    · rw [getD_app (by omega)] at hv
      rcases h.pend i (by omega) v hv with h1 | h1
      · exact .inl (by simp [h1])
      · rcases List.mem_append.1 h1 with h2 | h2
        · exact .inr (by simp [h2])
        · simp at h2
          have e2 : v = u.2 := congrArg Prod.snd h2
          exact .inl (by simp [e2])

/-- Steps from place to place. -/
def ePl (N : Nat → List Nat) (L : List Nat) (i j : Nat) : Prop := i < L.length ∧ j < L.length ∧ L.getD j 0 ∈ N (L.getD i 0)

theorem Gro.dfs {N : Nat → List Nat} {L : List Nat} {par : Nat → Nat} (h : Gro N L par []) : Dfs L.length (ePl N L) par :=
  ⟨h.pos, fun i j _ he => he.2.1, h.lt, fun p h1 h2 => ⟨by have := h.lt p h1 h2; omega, h2, h.edge p h1 h2⟩, fun i j hi he hij => h.fwd i j hi he.2.1 he.2.2 hij, h.last⟩

theorem Gro.reach {N : Nat → List Nat} {L : List Nat} {par : Nat → Nat} (h : Gro N L par []) {b : Nat} (hw : Go.Proofs.Ytahjippocejphaa.Flo.Way N 0 b) : b ∈ L := by
  induction hw with
  | refl => have := getD_in h.pos; rw [h.zero] at this; exact this
  | @step b c _ hc ih =>
    obtain ⟨i, hi, e⟩ := List.getElem_of_mem ih
    have e2 : L.getD i 0 = b := by simp [List.getD, hi, e]
    rcases h.pend i hi c (by rw [e2]; exact hc) with h1 | h1
    · exact h1
    · simp at h1

end Go.Proofs.Ytahjippocejphaa.Dm
