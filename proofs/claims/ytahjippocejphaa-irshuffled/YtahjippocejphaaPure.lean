/-
  Made neat twice is made neat; what numbers become (no program in it).
-/
import Derived.Test.YtahjippocejphaaNeat
import Derived.Test.YtahjippocejphaaTy
import Derived.Test.YtahjippocejphaaSame
namespace Go.Proofs.Ytahjippocejphaa.Own
open Go.RowKit View Rd Copy Srt Num Ty

set_option linter.unusedVariables false

theorem sel_last {c : Int} {p q p' q' : Nat → Int} {n : Nat} (h : sel c p q (n + 1) = sel c p' q' (n + 1)) (h1 : q n = c) (h2 : q' n = c) : sel c p q n = sel c p' q' n ∧ p n = p' n := by
  rw [sel, sel, if_pos h1, if_pos h2] at h
  have := List.append_inj' h rfl
  exact ⟨this.1, by simpa using this.2⟩

theorem sel_drop {c : Int} {p q p' q' : Nat → Int} {n : Nat} (h : sel c p q (n + 1) = sel c p' q' (n + 1)) (h1 : q n ≠ c) (h2 : q' n ≠ c) : sel c p q n = sel c p' q' n := by
  rw [sel, sel, if_neg h1, if_neg h2, List.append_nil, List.append_nil] at h
  exact h

/-- One order alone. -/
theorem sorted_unique {p q p' q' : Nat → Int} : ∀ {n : Nat}, Rises q n → Rises q' n → (∀ c, sel c p q n = sel c p' q' n) → ∀ i, i < n → p i = p' i ∧ q i = q' i
  | 0, _, _, _, i, hi => by omega
  | n + 1, hr, hr', hs, i, hi => by
    have hq : q n = q' n := by
      have m1 : p n ∈ sel (q n) p' q' (n + 1) := by rw [← hs]; exact sel_mem (by omega)
      obtain ⟨i1, h1, e1, _⟩ := mem_sel m1
      have m2 : p' n ∈ sel (q' n) p q (n + 1) := by rw [hs]; exact sel_mem (by omega)
      obtain ⟨i2, h2, e2, _⟩ := mem_sel m2
      have a1 : q n ≤ q' n := by
        rw [← e1]
        rcases Nat.lt_or_eq_of_le (Nat.le_of_lt_succ h1) with h | h
        · exact hr' i1 n h (by omega)
        · rw [h]; exact Int.le_refl _
      have a2 : q' n ≤ q n := by
        rw [← e2]
        rcases Nat.lt_or_eq_of_le (Nat.le_of_lt_succ h2) with h | h
        · exact hr i2 n h (by omega)
        · rw [h]; exact Int.le_refl _
      omega
    have hp : p n = p' n := (sel_last (hs (q n)) rfl hq.symm).2
    have ih := sorted_unique (n := n) (fun x y h1 h2 => hr x y h1 (by omega)) (fun x y h1 h2 => hr' x y h1 (by omega)) (fun c => by
      by_cases e : q n = c
      · exact (sel_last (hs c) e (by rw [← hq]; exact e)).1
      · exact sel_drop (hs c) e (by rw [← hq]; exact e))
    rcases Nat.lt_or_eq_of_le (Nat.le_of_lt_succ hi) with h | h
    · exact ih i h
    · rw [h]; exact ⟨hp, hq⟩

/-- Two that were made of the same one. -/
theorem put_unique {v v' : IV} {a j a1 j1 a2 j2 : Nat → Int} (ho : v'.op = v.op) (hn : v'.args.n = v.args.n) (hm : v'.into.n = v.into.n) (h1 : Put v a j a1 j1) (h2 : Put v' a j a2 j2) : (∀ i, i < v.args.n → a1 i = a2 i) ∧ ∀ i, i < v.into.n → j1 i = j2 i := by
  unfold Put at h1 h2
  rw [ho, hn, hm] at h2
  split at h1
  · next c =>
    have u := sorted_unique h1.1 (by rw [if_pos c] at h2; exact h2.1) (fun c' => by rw [if_pos c] at h2; rw [h1.2, h2.2])
    exact ⟨fun i hi => (u i hi).1, fun i hi => (u i (by rw [c.2]; exact hi)).2⟩
  · next c =>
    rw [if_neg c] at h2
    rw [h1.1, h1.2, h2.1, h2.2]
    exact ⟨fun _ _ => rfl, fun _ _ => rfl⟩

theorem m0_range {np : Nat} {v u : Int} (h : m0 np v = some u) : 1 ≤ u ∧ u ≤ np := by
  unfold m0 at h
  split at h
  · simp at h; omega
  · simp at h

theorem rowMap_range {m : Int → Option Int} {l : Nat} {f : Nat → IV} (hm : ∀ v u, m v = some u → 1 ≤ u ∧ u ≤ l) : ∀ {k : Nat} {v u : Int}, rowMap m l f k v = some u → 1 ≤ u ∧ u ≤ (l : Int) + giv f k
  | 0, v, u, h => by have := hm v u h; simp [giv]; exact this
  | k + 1, v, u, h => by
    rw [rowMap] at h
    dsimp only at h
    split at h
    · next c => simp at h; subst h; simp only [giv]; have := c.1; simp [this]; omega
    · have := rowMap_range hm h
      simp only [giv]
      split <;> omega

theorem allMap_range (F : FV) : ∀ {j : Nat} {v u : Int}, allMap F j v = some u → 1 ≤ u ∧ u ≤ lastOf F j
  | 0, v, u, h => by have := m0_range h; simp [lastOf, cnt]; exact this
  | j + 1, v, u, h => by
    have := rowMap_range (fun v u h => allMap_range F (j := j) h) h
    simp only [lastOf, cnt] at this ⊢
    omega

theorem nm_range (F : FV) (v : Int) : 0 ≤ nm F v ∧ nm F v ≤ lastOf F F.blk.n := by
  unfold nm
  cases h : allMap F F.blk.n v with
  | none => exact ⟨Int.le_refl _, Int.natCast_nonneg _⟩
  | some u => have := allMap_range F h; exact ⟨by show 0 ≤ u; omega, this.2⟩

/-- Numbered in order. -/
def Neatly (G : FV) : Prop := ∀ j, j < G.blk.n → ∀ k, k < (G.B j).n → (G.I j k).to = newTo G j k

theorem neat_row {G : FV} (h : Neatly G) {j : Nat} (hj : j < G.blk.n) (hm : ∀ v, allMap G j v = if 1 ≤ v ∧ v ≤ lastOf G j then some v else none) : ∀ {k : Nat}, k ≤ (G.B j).n → ∀ v, rowMap (allMap G j) (lastOf G j) (G.I j) k v = if 1 ≤ v ∧ v ≤ ((lastOf G j + giv (G.I j) k : Nat) : Int) then some v else none
  | 0, _, v => by simp only [rowMap, giv, Nat.add_zero]; exact hm v
  | k + 1, hk, v => by
    have ih := neat_row h hj hm (k := k) (by omega)
    by_cases ht : (G.I j k).ty = 0
    · rw [rowMap_no (fun c => c.1 ht), ih v]
      have : giv (G.I j) (k + 1) = giv (G.I j) k := by simp [giv, ht]
      rw [this]
    · have eg : giv (G.I j) (k + 1) = giv (G.I j) k + 1 := by simp [giv, ht]
      have et := h j hj k (by omega)
      unfold newTo at et
      rw [if_neg ht, eg] at et
      have hnone : rowMap (allMap G j) (lastOf G j) (G.I j) k (G.I j k).to = none := by rw [ih, if_neg (by omega)]
      by_cases ev : v = (G.I j k).to
      · rw [rowMap_yes ht hnone ev, eg, if_pos (by omega), ev, et]; congr 1
      · rw [rowMap_no (fun c => ev c.2.2), ih v, eg]
        by_cases c : 1 ≤ v ∧ v ≤ ((lastOf G j + giv (G.I j) k : Nat) : Int)
        · rw [if_pos c, if_pos (by omega)]
        · rw [if_neg c, if_neg (by omega)]

theorem neat_all {G : FV} (h : Neatly G) : ∀ {j : Nat}, j ≤ G.blk.n → ∀ v, allMap G j v = if 1 ≤ v ∧ v ≤ lastOf G j then some v else none
  | 0, _, v => by
    have e : lastOf G 0 = G.par.n := rfl
    rw [e]; rfl
  | j + 1, hj, v => by
    have := neat_row h (by omega) (neat_all h (j := j) (by omega)) (Nat.le_refl _) v
    show rowMap _ _ _ _ v = _
    rw [this]
    have e : lastOf G j + giv (G.I j) (G.B j).n = lastOf G (j + 1) := by simp only [lastOf, cnt]; omega
    rw [e]

theorem nm_neat {G : FV} (h : Neatly G) {v : Int} (h0 : 0 ≤ v) (h1 : v ≤ lastOf G G.blk.n) : nm G v = v := by
  unfold nm
  rw [neat_all h (Nat.le_refl _)]
  by_cases c : 1 ≤ v ∧ v ≤ lastOf G G.blk.n
  · rw [if_pos c]; rfl
  · rw [if_neg c]; simp; omega

theorem Neats.num1 {F G : FV} (h : Neats F G) {j k : Nat} (hj : j < F.blk.n) (hk : k < (F.B j).n) : newTo G j k = newTo F j k := by
  have hg : ∀ j, j < F.blk.n → ∀ k, k ≤ (F.B j).n → giv (G.I j) k = giv (F.I j) k := fun j hj k hk => giv_congr fun t ht => h.ty j hj t (by omega)
  have e : lastOf G j = lastOf F j := by
    show G.par.n + _ = F.par.n + _
    rw [h.par, cnt_congr (g := fun j => giv (F.I j) (F.B j).n) (fun t ht => by rw [h.B t (by omega)]; exact hg t (by omega) _ (Nat.le_refl _))]
  unfold newTo
  rw [h.ty j hj k hk, e, hg j hj (k + 1) hk]

theorem Neats.last {F G : FV} (h : Neats F G) {j : Nat} (hj : j ≤ F.blk.n) : lastOf G j = lastOf F j := by
  show G.par.n + _ = F.par.n + _
  rw [h.par, cnt_congr (g := fun j => giv (F.I j) (F.B j).n) (fun t ht => by rw [h.B t (by omega)]; exact giv_congr fun t' ht' => h.ty t (by omega) t' (by omega))]

theorem Neats.neatly {F G : FV} (h : Neats F G) : Neatly G := fun j hj k hk => by
  rw [h.blk] at hj
  rw [h.B j hj] at hk
  rw [h.to j hj k hk, h.num1 hj hk]

theorem put_again {F G : FV} (h : Neats F G) {j k : Nat} (hj : j < F.blk.n) (hk : k < (F.B j).n) : Put (G.I j k) (G.A j k) (G.J j k) (G.A j k) (G.J j k) := by
  obtain ⟨a', hp, _⟩ := h.rows j hj k hk
  unfold Put at hp ⊢
  rw [h.op j hj k hk, h.an j hj k hk, h.jn j hj k hk]
  split at hp
  · next c => rw [if_pos c]; exact ⟨hp.1, fun _ => rfl⟩
  · next c => rw [if_neg c]; exact ⟨rfl, rfl⟩

/-- Made neat twice is made neat. -/
theorem neat_twice {F G H : FV} (h : Neats F G) (h' : Neats G H) : EqF H G := by
  refine ⟨by rw [h'.name], h'.out, h'.res, ⟨h'.par, fun i hi => h'.P i (by rw [← h'.par]; exact hi)⟩, h'.blk, fun j hj => ?_⟩
  have hjG : j < G.blk.n := by rw [← h'.blk]; exact hj
  have hjF : j < F.blk.n := by rw [← h.blk]; exact hjG
  refine ⟨h'.B j hjG, fun k hk => ?_⟩
  have hkG : k < (G.B j).n := by rw [← h'.B j hjG]; exact hk
  have hkF : k < (F.B j).n := by rw [← h.B j hjF]; exact hkG
  have hp := put_again h hjF hkF
  obtain ⟨a2, hp2, ha2⟩ := h'.rows j hjG k hkG
  have u := put_unique rfl rfl rfl hp hp2
  refine ⟨h'.op j hjG k hkG, h'.ty j hjG k hkG, ?_, h'.sym j hjG k hkG, h'.num j hjG k hkG, ⟨h'.an j hjG k hkG, fun i hi => ?_⟩, ⟨h'.jn j hjG k hkG, fun i hi => ?_⟩⟩
  · rw [h'.to j hjG k hkG, h.to j hjF k hkF, h.num1 hjF hkF]
  · rw [h'.an j hjG k hkG] at hi
    rw [ha2 i hi, ← u.1 i hi]
    obtain ⟨a1, _, ha1⟩ := h.rows j hjF k hkF
    rw [ha1 i (by rw [← h.an j hjF k hkF]; exact hi)]
    have := nm_range F (a1 i)
    exact nm_neat h.neatly this.1 (by rw [h.blk, h.last (Nat.le_refl _)]; exact this.2)
  · rw [h'.jn j hjG k hkG] at hi
    exact (u.2 i hi).symm

theorem tyRow_congr {f g : Nat → IV} : ∀ {k : Nat}, (∀ t, t < k → (f t).ty = (g t).ty) → tyRow f k = tyRow g k
  | 0, _ => rfl
  | k + 1, h => by rw [tyRow, tyRow, tyRow_congr (fun t ht => h t (by omega)), h k (by omega)]

theorem Neats.types {F G : FV} (h : Neats F G) : typesL G = typesL F := by
  have e1 : row G.P G.par.n = row F.P F.par.n := by
    rw [h.par]; exact List.map_congr_left fun i hi => h.P i (List.mem_range.1 hi)
  have e2 : ∀ j, j ≤ F.blk.n → tyAll G j = tyAll F j := by
    intro j
    induction j with
    | zero => intro _; rfl
    | succ j ih => intro hj; rw [tyAll, tyAll, ih (by omega), h.B j (by omega), tyRow_congr (fun t ht => h.ty j (by omega) t ht)]
  rw [typesL, typesL, e1, h.blk, e2 _ (Nat.le_refl _)]

theorem Neats.size {F G : FV} (h : Neats F G) : cnt (fun j => (G.B j).n) G.blk.n = cnt (fun j => (F.B j).n) F.blk.n := by
  rw [h.blk]; exact cnt_congr fun t ht => h.B t ht

theorem Neats.light {F G : FV} (h : Neats F G) (hl : Light F) : Light G := by
  refine ⟨by rw [h.size]; exact hl.all, by rw [h.name]; exact hl.name, by rw [h.par]; exact hl.par, by rw [h.blk]; exact hl.blk, fun j hj => ?_, fun j hj k hk => ?_, fun j hj k hk => ?_⟩
  · rw [h.blk] at hj; rw [h.B j hj]; exact hl.ins j hj
  · rw [h.blk] at hj; rw [h.B j hj] at hk; rw [h.an j hj k hk]; exact hl.args j hj k hk
  · rw [h.blk] at hj; rw [h.B j hj] at hk; rw [h.jn j hj k hk]; exact hl.into j hj k hk

theorem last_le {F : FV} (hl : Light F) {j : Nat} (hj : j ≤ F.blk.n) : lastOf F j ≤ 2000 := by
  have := cnt_le (n := fun j => giv (F.I j) (F.B j).n) (m := 90) (j := j) (fun i hi => Nat.le_trans (giv_le _ _) (hl.ins i (by omega)))
  have := hl.par; have := hl.blk
  show F.par.n + _ ≤ _
  omega

theorem Neats.rng {F G : FV} (h : Neats F G) (hl : Light F) : Rng G := by
  have hb := last_le hl (Nat.le_refl F.blk.n)
  refine ⟨fun j hj k hk => ?_, fun j hj k hk i hi => ?_⟩
  · rw [h.blk] at hj; rw [h.B j hj] at hk; rw [h.to j hj k hk]
    unfold newTo
    split
    · constructor <;> decide
    · have := last_le hl (show j ≤ F.blk.n by omega)
      have := giv_le (F.I j) (k + 1)
      have := hl.ins j hj
      constructor <;> omega
  · rw [h.blk] at hj; rw [h.B j hj] at hk; rw [h.an j hj k hk] at hi
    obtain ⟨a', _, ha⟩ := h.rows j hj k hk
    rw [ha i hi]
    have := nm_range F (a' i)
    constructor <;> omega

end Go.Proofs.Ytahjippocejphaa.Own
