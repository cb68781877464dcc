/-
  ir.Neat: the function that it hands back.
-/
import Derived.Test.YtnodofbpogcheaaGreatJ2
namespace Go.Proofs.YtnodofbpogcheaaGreat.Own
open Go.RowKit View Rd Copy Srt Num

set_option linter.unusedVariables false

theorem giv_congr {f g : Nat → IV} : ∀ {k : Nat}, (∀ t, t < k → (f t).ty = (g t).ty) → giv f k = giv g k
 | 0, _ => rfl
 | k + 1, h => by rw [giv, giv, giv_congr (fun t ht => h t (by omega)), h k (by omega)]

theorem cnt_congr {f g : Nat → Nat} : ∀ {k : Nat}, (∀ t, t < k → f t = g t) → cnt f k = cnt g k
 | 0, _ => rfl
 | k + 1, h => by rw [cnt, cnt, cnt_congr (fun t ht => h t (by omega)), h k (by omega)]

theorem rowMap_congr {m m' : Int → Option Int} {l : Nat} {f g : Nat → IV} (hm : ∀ v, m v = m' v) : ∀ {k : Nat}, (∀ t, t < k → (f t).ty = (g t).ty ∧ (f t).to = (g t).to) → ∀ v, rowMap m l f k v = rowMap m' l g k v
 | 0, _, v => hm v
 | k + 1, h, v => by
  have ih := rowMap_congr (l := l) hm (k := k) (fun t ht => h t (by omega))
  simp only [rowMap, ih, (h k (by omega)).1, (h k (by omega)).2, giv_congr (fun t ht => (h t ht).1)]

structure Num2 (F G : FV) : Prop where
 par : G.par.n = F.par.n
 blk : G.blk.n = F.blk.n
 B : ∀ j, j < F.blk.n → (G.B j).n = (F.B j).n
 ty : ∀ j, j < F.blk.n → ∀ k, k < (F.B j).n → (G.I j k).ty = (F.I j k).ty
 to : ∀ j, j < F.blk.n → ∀ k, k < (F.B j).n → (G.I j k).to = (F.I j k).to

theorem Num2.giv {F G : FV} (h : Num2 F G) {j : Nat} (hj : j < F.blk.n) {k : Nat} (hk : k ≤ (F.B j).n) : View.giv (G.I j) k = View.giv (F.I j) k := giv_congr fun t ht => h.ty j hj t (by omega)

theorem Num2.last {F G : FV} (h : Num2 F G) {j : Nat} (hj : j ≤ F.blk.n) : lastOf G j = lastOf F j := by
 show G.par.n + _ = F.par.n + _
 have e : cnt (fun j => View.giv (G.I j) (G.B j).n) j = cnt (fun j => View.giv (F.I j) (F.B j).n) j := cnt_congr fun t ht => by
  rw [h.B t (by omega)]; exact h.giv (by omega) (Nat.le_refl _)
 rw [h.par, e]

theorem Num2.map {F G : FV} (h : Num2 F G) : ∀ {j : Nat}, j ≤ F.blk.n → ∀ v, allMap G j v = allMap F j v
 | 0, _, v => by show m0 _ v = m0 _ v; rw [h.par]
 | j + 1, hj, v => by
  show rowMap _ (lastOf G j) _ _ v = rowMap _ (lastOf F j) _ _ v
  rw [h.last (by omega), h.B j (by omega)]
  exact rowMap_congr (fun v => h.map (by omega) v) (fun t ht => ⟨h.ty j (by omega) t ht, h.to j (by omega) t ht⟩) v

theorem Num2.nm {F G : FV} (h : Num2 F G) (v : Int) : Own.nm G v = Own.nm F v := by
 unfold Own.nm; rw [h.blk, h.map (Nat.le_refl _)]

theorem Num2.newTo {F G : FV} (h : Num2 F G) {j k : Nat} (hj : j < F.blk.n) (hk : k < (F.B j).n) : Own.newTo G j k = Own.newTo F j k := by
 unfold Own.newTo; rw [h.ty j hj k hk, h.last (by omega), h.giv hj (by omega)]

structure Neats (F G : FV) : Prop where
 name : G.name = F.name
 out : G.out = F.out
 res : G.res = F.res
 par : G.par.n = F.par.n
 P : ∀ i, i < F.par.n → G.P i = F.P i
 blk : G.blk.n = F.blk.n
 B : ∀ j, j < F.blk.n → (G.B j).n = (F.B j).n
 op : ∀ j, j < F.blk.n → ∀ k, k < (F.B j).n → (G.I j k).op = (F.I j k).op
 ty : ∀ j, j < F.blk.n → ∀ k, k < (F.B j).n → (G.I j k).ty = (F.I j k).ty
 sym : ∀ j, j < F.blk.n → ∀ k, k < (F.B j).n → (G.I j k).sym = (F.I j k).sym
 num : ∀ j, j < F.blk.n → ∀ k, k < (F.B j).n → (G.I j k).num = (F.I j k).num
 to : ∀ j, j < F.blk.n → ∀ k, k < (F.B j).n → (G.I j k).to = newTo F j k
 an : ∀ j, j < F.blk.n → ∀ k, k < (F.B j).n → (G.I j k).args.n = (F.I j k).args.n
 jn : ∀ j, j < F.blk.n → ∀ k, k < (F.B j).n → (G.I j k).into.n = (F.I j k).into.n
 rows : ∀ j, j < F.blk.n → ∀ k, k < (F.B j).n → ∃ a', Put (F.I j k) (F.A j k) (F.J j k) a' (G.J j k) ∧ ∀ i, i < (F.I j k).args.n → G.A j k i = nm F (a' i)

theorem mem_sel {c x : Int} {p q : Nat → Int} : ∀ {n : Nat}, x ∈ sel c p q n → ∃ i, i < n ∧ q i = c ∧ p i = x
 | 0, h => by simp [sel] at h
 | n + 1, h => by
  rw [sel, List.mem_append] at h
  rcases h with h | h
  ·obtain ⟨i, h1, h2⟩ := mem_sel h
   exact ⟨i, by omega, h2⟩
  ·by_cases e : q n = c
   ·rw [if_pos e] at h; simp at h; exact ⟨n, by omega, e, h.symm⟩
   ·rw [if_neg e] at h; simp at h

theorem sel_mem {p q : Nat → Int} {i : Nat} : ∀ {n : Nat}, i < n → p i ∈ sel (q i) p q n
 | 0, h => by omega
 | n + 1, h => by
  rw [sel, List.mem_append]
  rcases Nat.lt_or_eq_of_le (Nat.le_of_lt_succ h) with h' | rfl
  ·exact .inl (sel_mem h')
  ·exact .inr (by simp)

theorem StSort.from {a j a' j' : Nat → Int} {n i : Nat} (h : StSort a j a' j' n) (hi : i < n) : ∃ i', i' < n ∧ j i' = j' i ∧ a i' = a' i := by
 have := sel_mem (p := a') (q := j') hi
 rw [h.2] at this
 exact mem_sel this

theorem Put.from {v : IV} {a j a' j' : Nat → Int} (h : Put v a j a' j') {i : Nat} (hi : i < v.args.n) : ∃ i', i' < v.args.n ∧ a i' = a' i := by
 unfold Put at h
 split at h
 ·obtain ⟨i', h1, _, h2⟩ := StSort.from h hi
  exact ⟨i', h1, h2⟩
 ·exact ⟨i, hi, by rw [h.1]⟩

theorem Upto.all {F : FV} {A J : Nat → Nat → Nat → Int} (h : Upto F F.blk.n 0 A J) : ∀ j, j < F.blk.n → ∀ k, k < (F.B j).n → Put (F.I j k) (F.A j k) (F.J j k) (A j k) (J j k) := fun j hj k hk => by
 have := h j hj k hk
 rw [if_pos (by omega)] at this; exact this

theorem Ren.all {F : FV} {I : Nat → Nat → IV} {A : Nat → Nat → Nat → Int} (h : Ren F F.blk.n 0 I A) : ∀ j, j < F.blk.n → ∀ k, k < (F.B j).n → I j k = { F.I j k with to := newTo F j k } ∧ A j k = fun i => nm F (F.A j k i) := fun j hj k hk => by
 have := h j hj k hk
 rw [if_pos (by omega)] at this; exact this

def Neated (F : FV) (w : World) (e : Ending) (w' : World) : Prop :=
 ∃ G at_, e = .returned (FV.val G) ∧ Own w.heap.size w' G at_ ∧ Neats F G ∧ Below w.heap.size w w'

theorem Own.less {base base' : Nat} {w : World} {F : FV} {at_ : Id → Nat} (h : Own base w F at_) (hb : base' ≤ base) : Own base' w F at_ :=
 ⟨h.inn, h.adr, fun x hx h0 => Nat.le_trans hb (h.ge x hx h0), h.lt, h.fz, h.sep, h.par, h.blk, h.pm.wide hb (Nat.le_refl _), h.bm.wide hb (Nat.le_refl _)⟩

structure Twins (F T : FV) : Prop where
 name : T.name = F.name
 out : T.out = F.out
 res : T.res = F.res
 par : T.par.n = F.par.n
 P : T.P = F.P
 blk : T.blk.n = F.blk.n
 B : ∀ j, j < F.blk.n → (T.B j).n = (F.B j).n
 op : ∀ j, j < F.blk.n → ∀ k, k < (F.B j).n → (T.I j k).op = (F.I j k).op
 ty : ∀ j, j < F.blk.n → ∀ k, k < (F.B j).n → (T.I j k).ty = (F.I j k).ty
 to : ∀ j, j < F.blk.n → ∀ k, k < (F.B j).n → (T.I j k).to = (F.I j k).to
 sym : ∀ j, j < F.blk.n → ∀ k, k < (F.B j).n → (T.I j k).sym = (F.I j k).sym
 num : ∀ j, j < F.blk.n → ∀ k, k < (F.B j).n → (T.I j k).num = (F.I j k).num
 an : ∀ j, j < F.blk.n → ∀ k, k < (F.B j).n → (T.I j k).args.n = (F.I j k).args.n
 jn : ∀ j, j < F.blk.n → ∀ k, k < (F.B j).n → (T.I j k).into.n = (F.I j k).into.n
 A : T.A = F.A
 J : T.J = F.J

def CopyOf (F : FV) (w : World) (e : Ending) (w' : World) : Prop :=
 ∃ T at_, e = .returned (FV.val T) ∧ Own w.heap.size w' T at_ ∧ Light T ∧ Twins F T ∧ Below w.heap.size w w'

end Go.Proofs.YtnodofbpogcheaaGreat.Own
