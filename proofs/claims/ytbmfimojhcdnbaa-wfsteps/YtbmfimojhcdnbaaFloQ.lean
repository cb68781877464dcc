/-
  Depth first, in plain words: what is done, what has been met; what follows of it.
-/
import Derived.WalkKit
import Derived.ProofKit
namespace Go.Proofs.Ytbmfimojhcdnbaa.Flo

set_option linter.unusedVariables false

def upd (m : Nat → Bool) (t : Nat) : Nat → Bool := fun x => if x = t then true else m x

/-- The untried ones of a list are gone through: done and met, ahead and behind. -/
inductive Rest (N : Nat → List Nat) : List Nat → List Nat → (Nat → Bool) → List Nat → (Nat → Bool) → Prop
  | nil (d : List Nat) (m : Nat → Bool) : Rest N [] d m d m
  | skip {t : Nat} {l d : List Nat} {m : Nat → Bool} {d' : List Nat} {m' : Nat → Bool} : m t = true → Rest N l d m d' m' → Rest N (t :: l) d m d' m'
  | go {t : Nat} {l d : List Nat} {m : Nat → Bool} {d1 : List Nat} {m1 : Nat → Bool} {d' : List Nat} {m' : Nat → Bool} : m t = false → Rest N (N t) d (upd m t) d1 m1 → Rest N l (d1 ++ [t]) m1 d' m' → Rest N (t :: l) d m d' m'

/-- From one to another by steps. -/
inductive Way (N : Nat → List Nat) : Nat → Nat → Prop
  | refl (a : Nat) : Way N a a
  | step {a b c : Nat} : Way N a b → c ∈ N b → Way N a c

theorem Way.trans {N : Nat → List Nat} {a b c : Nat} (h : Way N a b) (k : Way N b c) : Way N a c := by
  induction k with
  | refl => exact h
  | step _ hc ih => exact ih.step hc

theorem Way.ahead {N : Nat → List Nat} {a b c : Nat} (h : b ∈ N a) (k : Way N b c) : Way N a c := ((Way.refl a).step h).trans k

/-- What is laid behind. -/
structure Told (N : Nat → List Nat) (l : List Nat) (m : Nat → Bool) (e : List Nat) (m' : Nat → Bool) : Prop where
  nd : e.Nodup
  new : ∀ x ∈ e, m x = false
  met : ∀ x, m' x = true ↔ m x = true ∨ x ∈ e
  all : ∀ x ∈ l, m' x = true
  shut : ∀ x ∈ e, ∀ t ∈ N x, m' t = true
  par : ∀ (i x : Nat), e[i]? = some x → x ∈ l ∨ ∃ j y : Nat, i < j ∧ e[j]? = some y ∧ x ∈ N y
  from_ : ∀ x ∈ e, ∃ y ∈ l, Way N y x
  back : ∀ (i x : Nat), e[i]? = some x → ∀ t ∈ N x, m t = true ∨ (∃ j : Nat, j < i ∧ e[j]? = some t) ∨ Way N t x

theorem Rest.told {N : Nat → List Nat} {l d : List Nat} {m : Nat → Bool} {d' : List Nat} {m' : Nat → Bool} (h : Rest N l d m d' m') : ∃ e, d' = d ++ e ∧ Told N l m e m' := by
  induction h with
  | nil d m => exact ⟨[], by simp, ⟨by simp, by simp, by simp, by simp, by simp, by simp, by simp, by simp⟩⟩
  | @skip t l d m d' m' hm h ih =>
    obtain ⟨e, he, T⟩ := ih
    refine ⟨e, he, T.nd, T.new, T.met, ?_, T.shut, ?_, ?_, T.back⟩
    · intro x hx
      rcases List.mem_cons.1 hx with rfl | hx
      · exact (T.met x).2 (.inl hm)
      · exact T.all x hx
    · intro i x hx
      rcases T.par i x hx with h | h
      · exact .inl (List.mem_cons_of_mem _ h)
      · exact .inr h
    · intro x hx
      obtain ⟨y, hy, hw⟩ := T.from_ x hx
      exact ⟨y, List.mem_cons_of_mem _ hy, hw⟩
  | @go t l d m d1 m1 d' m' hm h1 h2 ih1 ih2 =>
    obtain ⟨e1, he1, A⟩ := ih1
    obtain ⟨e2, he2, B⟩ := ih2
    have hu : ∀ x, upd m t x = true ↔ x = t ∨ m x = true := fun x => by unfold upd; split <;> simp_all
    have hu' : ∀ x, upd m t x = false → x ≠ t ∧ m x = false := fun x h => by
      refine ⟨fun e => ?_, ?_⟩
      · subst e; simp [upd] at h
      · by_cases hx : m x = true
        · have := (hu x).2 (.inr hx); rw [this] at h; cases h
        · simpa using hx
    have h1t : m1 t = true := (A.met t).2 (.inl ((hu t).2 (.inl rfl)))
    have hm1 : ∀ x, m1 x = true ↔ m x = true ∨ x = t ∨ x ∈ e1 := fun x => by
      rw [A.met x, hu x]
      constructor
      · rintro ((h | h) | h)
        · exact .inr (.inl h)
        · exact .inl h
        · exact .inr (.inr h)
      · rintro (h | h | h)
        · exact .inl (.inr h)
        · exact .inl (.inl h)
        · exact .inr h
    have hE : d' = d ++ (e1 ++ t :: e2) := by rw [he2, he1]; simp
    have tE1 : t ∉ e1 := fun h => (hu' t (A.new t h)).1 rfl
    have e2new : ∀ x ∈ e2, m x = false ∧ x ≠ t ∧ x ∉ e1 := fun x hx => by
      have := B.new x hx
      refine ⟨?_, ?_, ?_⟩
      · by_cases h : m x = true
        · rw [(hm1 x).2 (.inl h)] at this; cases this
        · simpa using h
      · intro h; rw [(hm1 x).2 (.inr (.inl h))] at this; cases this
      · intro h; rw [(hm1 x).2 (.inr (.inr h))] at this; cases this
    have hmem : ∀ x, x ∈ e1 ++ t :: e2 ↔ x ∈ e1 ∨ x = t ∨ x ∈ e2 := fun x => by simp
    have at1 : ∀ i, i < e1.length → (e1 ++ t :: e2)[i]? = e1[i]? := fun i hi => List.getElem?_append_left hi
    have at2 : (e1 ++ t :: e2)[e1.length]? = some t := by simp
    have at3 : ∀ i, (e1 ++ t :: e2)[e1.length + 1 + i]? = e2[i]? := fun i => by
      rw [List.getElem?_append_right (by omega)]
      have : e1.length + 1 + i - e1.length = i + 1 := by omega
      rw [this]; simp
    have split3 : ∀ i x, (e1 ++ t :: e2)[i]? = some x → (i < e1.length ∧ e1[i]? = some x) ∨ (i = e1.length ∧ x = t) ∨ ∃ k, i = e1.length + 1 + k ∧ e2[k]? = some x := fun i x hx => by
      rcases Nat.lt_trichotomy i e1.length with h | h | h
      · exact .inl ⟨h, by rw [← at1 i h]; exact hx⟩
      · subst h; rw [at2] at hx; exact .inr (.inl ⟨rfl, by simpa using hx.symm⟩)
      · obtain ⟨k, rfl⟩ : ∃ k, i = e1.length + 1 + k := ⟨i - e1.length - 1, by omega⟩
        exact .inr (.inr ⟨k, rfl, by rw [← at3 k]; exact hx⟩)
    have fromT : ∀ x ∈ e1, Way N t x := fun x hx => by
      obtain ⟨y, hy, hw⟩ := A.from_ x hx
      exact Way.ahead hy hw
    have hmet : ∀ x, m' x = true ↔ m x = true ∨ x ∈ e1 ++ t :: e2 := fun x => by
      rw [B.met x, hm1 x, hmem]
      constructor
      · rintro ((h | h | h) | h)
        · exact .inl h
        · exact .inr (.inr (.inl h))
        · exact .inr (.inl h)
        · exact .inr (.inr (.inr h))
      · rintro (h | h | h | h)
        · exact .inl (.inl h)
        · exact .inl (.inr (.inr h))
        · exact .inl (.inr (.inl h))
        · exact .inr h
    refine ⟨e1 ++ t :: e2, hE, ?_, ?_, hmet, ?_, ?_, ?_, ?_, ?_⟩
    · rw [List.nodup_append]
      refine ⟨A.nd, ?_, ?_⟩
      · rw [List.nodup_cons]
        exact ⟨fun h => (e2new t h).2.1 rfl, B.nd⟩
      · intro a ha b hb e
        subst e
        rcases List.mem_cons.1 hb with rfl | hb
        · exact tE1 ha
        · exact (e2new _ hb).2.2 ha
    · intro x hx
      rcases (hmem x).1 hx with h | h | h
      · exact (hu' x (A.new x h)).2
      · rw [h]; exact hm
      · exact (e2new x h).1
    · intro x hx
      rcases List.mem_cons.1 hx with rfl | hx
      · exact (hmet x).2 (.inr (by simp))
      · exact B.all x hx
    · intro x hx s hs
      have mono : ∀ y, m1 y = true → m' y = true := fun y hy => (B.met y).2 (.inl hy)
      rcases (hmem x).1 hx with h | h | h
      · exact mono s (A.shut x h s hs)
      · subst h; exact mono s (A.all s hs)
      · exact B.shut x h s hs
    · intro i x hx
      rcases split3 i x hx with ⟨hi, h⟩ | ⟨hi, h⟩ | ⟨k, hi, h⟩
      · rcases A.par i x h with h' | ⟨j, y, hj, hy, hxy⟩
        · exact .inr ⟨e1.length, t, hi, at2, h'⟩
        · have hjl : j < e1.length := (List.getElem?_eq_some_iff.1 hy).1
          exact .inr ⟨j, y, hj, by rw [at1 j hjl]; exact hy, hxy⟩
      · exact .inl (by rw [h]; simp)
      · rcases B.par k x h with h' | ⟨j, y, hj, hy, hxy⟩
        · exact .inl (List.mem_cons_of_mem _ h')
        · exact .inr ⟨e1.length + 1 + j, y, by omega, by rw [at3 j]; exact hy, hxy⟩
    · intro x hx
      rcases (hmem x).1 hx with h | h | h
      · exact ⟨t, by simp, fromT x h⟩
      · exact ⟨t, by simp, by rw [h]; exact Way.refl t⟩
      · obtain ⟨y, hy, hw⟩ := B.from_ x h
        exact ⟨y, List.mem_cons_of_mem _ hy, hw⟩
    · intro i x hx s hs
      rcases split3 i x hx with ⟨hi, h⟩ | ⟨hi, h⟩ | ⟨k, hi, h⟩
      · rcases A.back i x h s hs with h' | ⟨j, hj, hy⟩ | h'
        · rcases (hu s).1 h' with rfl | h'
          · exact .inr (.inr (fromT x (List.mem_of_getElem? h)))
          · exact .inl h'
        · exact .inr (.inl ⟨j, hj, by rw [at1 j (by omega)]; exact hy⟩)
        · exact .inr (.inr h')
      · subst h
        rcases (hm1 s).1 (A.all s hs) with h' | h' | h'
        · exact .inl h'
        · exact .inr (.inr (by rw [h']; exact Way.refl _))
        · obtain ⟨j, hj, hy⟩ := List.getElem_of_mem h'
          exact .inr (.inl ⟨j, by omega, by rw [at1 j hj, List.getElem?_eq_getElem hj, hy]⟩)
      · rcases B.back k x h s hs with h' | ⟨j, hj, hy⟩ | h'
        · rcases (hm1 s).1 h' with h' | h' | h'
          · exact .inl h'
          · exact .inr (.inl ⟨e1.length, by omega, by rw [at2, h']⟩)
          · obtain ⟨j, hj, hy⟩ := List.getElem_of_mem h'
            exact .inr (.inl ⟨j, by omega, by rw [at1 j hj, List.getElem?_eq_getElem hj, hy]⟩)
        · exact .inr (.inl ⟨e1.length + 1 + j, by omega, by rw [at3 j]; exact hy⟩)
        · exact .inr (.inr h')

/-- How many of the first n are not met. -/
def unmet (m : Nat → Bool) : Nat → Nat
  | 0 => 0
  | n + 1 => unmet m n + if m n = true then 0 else 1

theorem unmet_upd {m : Nat → Bool} {t : Nat} (hm : m t = false) : ∀ {n : Nat}, unmet m n = unmet (upd m t) n + if t < n then 1 else 0
  | 0 => by simp [unmet]
  | n + 1 => by
    rw [unmet, unmet, unmet_upd hm (n := n)]
    by_cases e : n = t
    · subst e; simp [upd, hm]
    · have : upd m t n = m n := by simp [upd, e]
      rw [this]
      split <;> split <;> split <;> omega

theorem unmet_mono {m m' : Nat → Bool} (h : ∀ x, m x = true → m' x = true) : ∀ n, unmet m' n ≤ unmet m n
  | 0 => Nat.le_refl _
  | n + 1 => by
    have := unmet_mono h n
    rw [unmet, unmet]
    by_cases e : m n = true
    · simp [e, h n e]; exact this
    · simp [e]; split <;> omega

theorem rest_ex {N : Nat → List Nat} {n : Nat} (hN : ∀ b, ∀ x ∈ N b, x < n) : ∀ (k : Nat) (l : List Nat), (∀ x ∈ l, x < n) → ∀ (d : List Nat) (m : Nat → Bool), unmet m n = k → ∃ d' m', Rest N l d m d' m' := by
  intro k
  induction k using Nat.strongRecOn with
  | _ k ih =>
    intro l
    induction l with
    | nil => intro _ d m _; exact ⟨d, m, .nil d m⟩
    | cons t l ihl =>
      intro hl d m hk
      by_cases hm : m t = true
      · obtain ⟨d', m', h⟩ := ihl (fun x hx => hl x (List.mem_cons_of_mem _ hx)) d m hk
        exact ⟨d', m', .skip hm h⟩
      · have hm' : m t = false := by simpa using hm
        have ht : t < n := hl t (by simp)
        have hu := unmet_upd hm' (n := n)
        rw [if_pos ht] at hu
        obtain ⟨d1, m1, h1⟩ := ih (unmet (upd m t) n) (by omega) (N t) (hN t) d (upd m t) rfl
        obtain ⟨e, he, T⟩ := h1.told
        have hle : unmet m1 n ≤ unmet (upd m t) n := unmet_mono (fun x hx => (T.met x).2 (.inl hx)) n
        obtain ⟨d', m', h2⟩ := ih (unmet m1 n) (by omega) l (fun x hx => hl x (List.mem_cons_of_mem _ hx)) (d1 ++ [t]) m1 rfl
        exact ⟨d', m', .go hm' h1 h2⟩

/-- What is still to come of a stack: the top is last. -/
inductive Stk (N : Nat → List Nat) : List Nat → (Nat → Bool) → List (Nat × List Nat) → List Nat → Prop
  | nil (d : List Nat) (m : Nat → Bool) : Stk N d m [] d
  | top {d : List Nat} {m : Nat → Bool} {ws : List (Nat × List Nat)} {b : Nat} {l d1 : List Nat} {m1 : Nat → Bool} {D : List Nat} : Rest N l d m d1 m1 → Stk N (d1 ++ [b]) m1 ws D → Stk N d m (ws ++ [(b, l)]) D

theorem Stk.inv {N : Nat → List Nat} {d : List Nat} {m : Nat → Bool} {ws : List (Nat × List Nat)} {b : Nat} {l D : List Nat} (h : Stk N d m (ws ++ [(b, l)]) D) : ∃ d1 m1, Rest N l d m d1 m1 ∧ Stk N (d1 ++ [b]) m1 ws D := by
  generalize hW : ws ++ [(b, l)] = W at h
  cases h with
  | nil => simp at hW
  | @top ws' b' l' d1 m1 _ _ _ h1 h2 =>
    obtain ⟨rfl, h'⟩ := List.append_inj' hW rfl
    simp at h'
    obtain ⟨rfl, rfl⟩ := h'
    exact ⟨_, _, h1, h2⟩

theorem Stk.inv_nil {N : Nat → List Nat} {d : List Nat} {m : Nat → Bool} {D : List Nat} (h : Stk N d m [] D) : D = d := by
  generalize hW : ([] : List (Nat × List Nat)) = W at h
  cases h with
  | nil => rfl
  | top _ _ => simp at hW

theorem Stk.pop {N : Nat → List Nat} {d : List Nat} {m : Nat → Bool} {ws : List (Nat × List Nat)} {b : Nat} {D : List Nat} (h : Stk N d m (ws ++ [(b, [])]) D) : Stk N (d ++ [b]) m ws D := by
  obtain ⟨d1, m1, h1, h2⟩ := h.inv
  cases h1
  exact h2

theorem Stk.skip {N : Nat → List Nat} {d : List Nat} {m : Nat → Bool} {ws : List (Nat × List Nat)} {b t : Nat} {l D : List Nat} (hm : m t = true) (h : Stk N d m (ws ++ [(b, t :: l)]) D) : Stk N d m (ws ++ [(b, l)]) D := by
  obtain ⟨d1, m1, h1, h2⟩ := h.inv
  cases h1 with
  | skip _ h => exact .top h h2
  | go h' _ _ => rw [hm] at h'; cases h'

theorem Stk.push {N : Nat → List Nat} {d : List Nat} {m : Nat → Bool} {ws : List (Nat × List Nat)} {b t : Nat} {l D : List Nat} (hm : m t = false) (h : Stk N d m (ws ++ [(b, t :: l)]) D) : Stk N d (upd m t) (ws ++ [(b, l)] ++ [(t, N t)]) D := by
  obtain ⟨d1, m1, h1, h2⟩ := h.inv
  cases h1 with
  | skip h' _ => rw [hm] at h'; cases h'
  | go _ h3 h4 => exact .top h3 (.top h4 h2)

/-- All that is to come, as a number. -/
def toCome (N : Nat → List Nat) (m : Nat → Bool) : Nat → Nat
  | 0 => 0
  | n + 1 => toCome N m n + if m n = true then 0 else (N n).length + 2

def pile (W : List (Nat × List Nat)) : Nat := (W.map (fun p => p.2.length + 1)).sum

theorem toCome_upd {N : Nat → List Nat} {m : Nat → Bool} {t : Nat} (hm : m t = false) : ∀ {n : Nat}, t < n → toCome N m n = toCome N (upd m t) n + (N t).length + 2
  | 0, h => by omega
  | n + 1, h => by
    rw [toCome, toCome]
    by_cases e : n = t
    · subst e
      have key : ∀ k, k ≤ n → toCome N m k = toCome N (upd m n) k := by
        intro k
        induction k with
        | zero => intro _; rfl
        | succ k ih =>
          intro hk
          rw [toCome, toCome, ih (by omega)]
          have : upd m n k = m k := by simp [upd, show k ≠ n by omega]
          rw [this]
      rw [key n (Nat.le_refl _)]
      simp [upd, hm]; omega
    · rw [toCome_upd hm (n := n) (by omega)]
      have : upd m t n = m n := by simp [upd, e]
      rw [this]
      split <;> omega

theorem toCome_le {N : Nat → List Nat} {m : Nat → Bool} {c : Nat} (h : ∀ b, (N b).length ≤ c) : ∀ n, toCome N m n ≤ n * (c + 2)
  | 0 => by simp [toCome]
  | n + 1 => by
    have := toCome_le (m := m) h n
    have := h n
    rw [toCome, Nat.add_mul]
    split <;> omega

theorem pile_snoc (W : List (Nat × List Nat)) (p : Nat × List Nat) : pile (W ++ [p]) = pile W + p.2.length + 1 := by
  simp [pile]; omega
theorem pile_len : ∀ (W : List (Nat × List Nat)), W.length ≤ pile W
  | [] => by simp
  | p :: W => by have := pile_len W; simp [pile] at *; omega

end Go.Proofs.Ytbmfimojhcdnbaa.Flo
