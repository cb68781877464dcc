/-
  Copy, CopyF, Sort, SortF, Own, Phis, Num, Open, Light: laid together.
-/
import Derived.Test.YtnodofbpogcheaaGreatJ0
import Derived.Deep.AppendLies
import Derived.Laws.AppendOwnNone
import Derived.Deep.RegionHeld3
import Derived.BigRegion
import Derived.Deep.QuietTactic
import Derived.BigQuiet
import Derived.Maps.OwnSet
import Derived.Maps.OwnOps
import Derived.Deep.Slices
import Derived.OpenShut
import Derived.SizedLaws
import Derived.ProofKit

namespace Go.Proofs.YtnodofbpogcheaaGreat.Copy
open Go.RowKit View Rd

set_option linter.unusedVariables false

theorem info3 : (Tryz.prog.info? 3).map (fun i => (i.zero, i.size, i.bytes)) = some (some (.int .i64 0), 1, 8) := by kernel_rfl

def row (f : Nat → Int) (n : Nat) : List Int := (List.range n).map f

theorem row_length (f : Nat → Int) (n : Nat) : (row f n).length = n := by simp [row]

theorem row_cells {w : World} {ad : Addr} {n c : Nat} {f : Nat → Int} (h : Ints w ⟨some ad, n, c⟩ f) : ∀ j u, ((row f n).map (Value.int .i64))[j]? = some u → w.cell? (ad.add j) = some u := by
 intro j u hu
 have hj : j < n := by have := (List.getElem?_eq_some_iff.1 hu).1; simpa [row] using this
 obtain ⟨b, off, hab, hc⟩ := h.2.2.2 (by show 0 < n; omega)
 obtain rfl := Option.some.inj hab
 rw [Addr.add_lit, hc j hj, ← hu]
 simp [row, hj]

theorem ints_of_owns {w : World} {base : Nat} {v : Value} {n : Nat} {xs : List Int} (h : w.ownsRow base 3 1 v n (xs.map (Value.int .i64))) (hn : n ≤ 1000000) :
  ∃ s : Sl, v = .slice s.a s.n s.c ∧ s.n = n ∧ Ints w s (fun i => xs.getD i 0) ∧ Mine base w.heap.size w s := by
 obtain ⟨hlen, h⟩ := h
 simp at hlen
 rcases h with ⟨rfl, rfl⟩ | ⟨g, cap, cur, rfl, hb, hg, hnc, hm, hs, ht⟩
 ·exact ⟨⟨none, 0, 0⟩, rfl, rfl, ⟨Nat.le_refl _, Nat.zero_le _, fun _ => rfl, fun h => absurd h (by simp)⟩, fun h => absurd h (by simp)⟩
 ·have hlt : g < w.heap.size := (Array.getElem?_eq_some_iff.1 hg).1
  refine ⟨⟨some ⟨g, 0, none⟩, n, cap⟩, rfl, rfl, ⟨hnc, by show n ≤ _; omega, fun h => by simp at h, fun h0 => ⟨g, 0, rfl, fun i hi => ?_⟩⟩, fun h0 => ⟨g, rfl, hb, hlt, fun i => ?_⟩⟩
  ·rw [Nat.zero_add, cell_of_row w g i cur 3 (0, 0) hg]
   have h1 : (cur.toList.take (n * 1))[i]? = (xs.map (Value.int .i64))[i]? := by rw [ht]
   rw [List.getElem?_take, if_pos (by simpa using hi)] at h1
   simp at h1
   rw [h1]
   have : i < xs.length := by rw [hlen]; exact hi
   simp [List.getD, this]
  ·simp [World.frozen?, hg]

theorem append_in {ops : Array Oper} {rest : List Oper} {o : Oper} {a : Act} {Q : Exit → Act → World → Prop} {w : World} (hgd : o.guard = none) (s x : Operand)
  (ho : o.op = .call { callee := .builtin .append, args := #[s, x], argTypes := #[33, 33] })
  (base : Nat) (v : Value) (n : Nat) (xs : List Int) (hs : a.eval s = v) (hown : w.ownsRow base 3 1 v n (xs.map (Value.int .i64)))
  (sl : Sl) (f : Nat → Int) (hx : a.eval x = .slice sl.a sl.n sl.c) (hin : Ints w sl f)
  (hsm : n + sl.n ≤ 1000000) (hbase : base ≤ w.heap.size)
  (h : ∀ v' w', w'.ownsRow base 3 1 v' (n + sl.n) ((xs ++ row f sl.n).map (Value.int .i64)) → w.grownBy w' v.ownBlock → wpList Tryz.prog ops Q rest (a.put o.dst v') w') : wpList Tryz.prog ops Q (o :: rest) a w := by
 obtain ⟨i0, hi, hz0, hz1, hz2⟩ := info_parts info3
 obtain ⟨ao, m, c⟩ := sl
 cases ao with
 | some ad =>
  refine wpList_append_own w hgd s x 33 ho base 3 i0 (.int .i64 0) 1 8 underlying33 hi hz0 hz1 hz2 rfl (by decide) v n _ hs hown ad m c ((row f m).map (Value.int .i64)) hx (by simp [row_length]) (row_cells hin) (ints_oneCell _ _) (by simp only [maxLen] at *; omega) (by simp only at *; omega) hbase ?_
  intro v' w' h1 h2 _
  exact h v' w' (by rw [List.map_append]; exact h1) h2
 | none =>
  have hc0 := hin.2.2.1 rfl
  have hm0 := hin.1
  simp only at hc0 hm0
  subst hc0
  obtain rfl : m = 0 := by omega
  exact wpList_append_own_none hgd s x 33 ho base 3 i0 1 underlying33 hi v n _ hs hown hx (h v w (by simpa [row] using hown) (World.grownBy.refl _ _))

theorem getD_row (f : Nat → Int) (n i : Nat) (hi : i < n) : (row f n).getD i 0 = f i := by
 simp [row, List.getD, hi]

structure Twin (base top : Nat) (w : World) (sa si : Sl) (v : IV) (a j : Nat → Int) : Prop where
 an : sa.n = v.args.n
 jn : si.n = v.into.n
 args : Ints w sa a
 into : Ints w si j
 ma : Mine base top w sa
 mj : Mine base top w si
 ord : ∀ g g', sa.a = some ⟨g, 0, none⟩ → si.a = some ⟨g', 0, none⟩ → 0 < sa.n → 0 < si.n → g < g'

theorem Twin.on {base top : Nat} {w w' : World} {sa si : Sl} {v : IV} {a j : Nat → Int} (hb : Below w.heap.size w w') (ht : top ≤ w.heap.size) (h : Twin base top w sa si v a j) : Twin base top w' sa si v a j :=
 ⟨h.an, h.jn, h.args.on hb, h.into.on hb, h.ma.on hb ht, h.mj.on hb ht, h.ord⟩

theorem Twin.kept {p : Nat → Prop} {base top : Nat} {w w' : World} {sa si : Sl} {v : IV} {a j : Nat → Int} (h : Twin base top w sa si v a j) (k : Kept p w w') (hp : ∀ b, base ≤ b → b < top → p b) : Twin base top w' sa si v a j :=
 ⟨h.an, h.jn, h.args.kept' h.ma k hp, h.into.kept' h.mj k hp, h.ma.kept k hp, h.mj.kept k hp, h.ord⟩

theorem Twin.wide {base top base' top' : Nat} {w : World} {sa si : Sl} {v : IV} {a j : Nat → Int} (h : Twin base top w sa si v a j) (h1 : base' ≤ base) (h2 : top ≤ top') : Twin base' top' w sa si v a j :=
 ⟨h.an, h.jn, h.args, h.into, h.ma.wide h1 h2, h.mj.wide h1 h2, h.ord⟩

def flat (f : Nat → IV) : Nat → List Value
 | 0 => []
 | k + 1 => flat f k ++ (f k).cells.toList

theorem flat_length (f : Nat → IV) : ∀ k, (flat f k).length = k * 7
 | 0 => rfl
 | k + 1 => by rw [flat, List.length_append, flat_length f k]; simp; omega

theorem flat_congr {f g : Nat → IV} : ∀ {k : Nat}, (∀ t, t < k → f t = g t) → flat f k = flat g k
 | 0, _ => rfl
 | k + 1, h => by rw [flat, flat, flat_congr (fun t ht => h t (by omega)), h k (by omega)]

theorem flat_at (f : Nat → IV) : ∀ k t c, t < k → c < 7 → (flat f k)[t * 7 + c]? = (f t).cells.toList[c]?
 | 0, t, c, h, _ => by omega
 | k + 1, t, c, h, hc => by
  rw [flat]
  rcases Nat.lt_or_eq_of_le (Nat.le_of_lt_succ h) with h' | rfl
  ·rw [List.getElem?_append_left (by rw [flat_length]; omega)]
   exact flat_at f k t c h' hc
  ·rw [List.getElem?_append_right (by rw [flat_length]; omega), flat_length]
   congr 1; omega

structure Rows (g k n : Nat) (w : World) (I : Nat → IV) (A J : Nat → Nat → Int) (sa si : Nat → Sl) (h : Nat → Nat) : Prop where
 own : w.ownsRow g 43 7 (.slice (some ⟨g, 0, none⟩) k n) k (flat (fun t => { I t with args := sa t, into := si t }) k)
 tw : ∀ t, t < k → Twin (h t) (h (t + 1)) w (sa t) (si t) (I t) (A t) (J t)
 up : ∀ t, t < k → h t ≤ h (t + 1)
 lo : g < h 0
 hi : h k ≤ w.heap.size

theorem mono_le {h : Nat → Nat} {k : Nat} (up : ∀ t, t < k → h t ≤ h (t + 1)) {a b : Nat} (hb : b ≤ k) (hab : a ≤ b) : h a ≤ h b := by
 induction b with
 | zero => obtain rfl : a = 0 := by omega
           exact Nat.le_refl _
 | succ b ih =>
  rcases Nat.lt_or_eq_of_le hab with h' | rfl
  ·exact Nat.le_trans (ih (by omega) (by omega)) (up b (by omega))
  ·exact Nat.le_refl _

theorem Rows.step {g k n : Nat} {w : World} {I : Nat → IV} {A J : Nat → Nat → Int} {sa si : Nat → Sl} {h : Nat → Nat} {ta ti : Sl} {H0 H1 : Nat}
  (hold : ∀ t, t < k → Twin (h t) (h (t + 1)) w (sa t) (si t) (I t) (A t) (J t)) (up : ∀ t, t < k → h t ≤ h (t + 1)) (lo : g < h 0) (hk : h k ≤ H0) (h01 : H0 ≤ H1) (h1 : H1 ≤ w.heap.size)
  (hn : Twin H0 H1 w ta ti (I k) (A k) (J k))
  (own : w.ownsRow g 43 7 (.slice (some ⟨g, 0, none⟩) (k + 1) n) (k + 1) (flat (fun t => { I t with args := sa t, into := si t }) k ++ ({ I k with args := ta, into := ti } : IV).cells.toList)) :
  ∃ (sa si : Nat → Sl) (h : Nat → Nat), Rows g (k + 1) n w I A J sa si h := by
 refine ⟨fun t => if t < k then sa t else ta, fun t => if t < k then si t else ti, fun t => if t ≤ k then h t else H1, ?_, ?_, ?_, ?_, ?_⟩
 ·have e : flat (fun t => { I t with args := if t < k then sa t else ta, into := if t < k then si t else ti }) (k + 1) = flat (fun t => { I t with args := sa t, into := si t }) k ++ ({ I k with args := ta, into := ti } : IV).cells.toList := by
   rw [flat, flat_congr (g := fun t => { I t with args := sa t, into := si t }) (fun t ht => by simp [ht])]
   simp
  rw [e]; exact own
 ·intro t ht
  rcases Nat.lt_or_eq_of_le (Nat.le_of_lt_succ ht) with h' | rfl
  ·simp only [h', if_true, Nat.le_of_lt h', show t + 1 ≤ k from h']; exact hold t h'
  ·simp only [Nat.lt_irrefl, if_false, Nat.le_refl, if_true, show ¬ t + 1 ≤ t by omega]; exact hn.wide hk (Nat.le_refl _)
 ·intro t ht
  rcases Nat.lt_or_eq_of_le (Nat.le_of_lt_succ ht) with h' | rfl
  ·simp only [if_true, Nat.le_of_lt h', show t + 1 ≤ k from h']; exact up t h'
  ·simp only [Nat.le_refl, if_true, show ¬ t + 1 ≤ t by omega, if_false]; omega
 ·simp only [Nat.zero_le, if_true]; exact lo
 ·simp only [show ¬ k + 1 ≤ k by omega, if_false]; exact h1

theorem info43 : (Tryz.prog.info? 43).map (fun i => (i.zero, i.size, i.bytes)) = some (some IV.zero.val, 7, 88) := by kernel_rfl

end Go.Proofs.YtnodofbpogcheaaGreat.Copy

namespace Go.Proofs.YtnodofbpogcheaaGreat.Copy
open Go.RowKit View Rd

set_option linter.unusedVariables false

theorem owns_kept {p : Nat → Prop} {w w' : World} {base : Nat} {e : TypeId} {size g n c : Nat} {xs : List Value} (h : w.ownsRow base e size (.slice (some ⟨g, 0, none⟩) n c) n xs) (k : Kept p w w') (hp : p g) : w'.ownsRow base e size (.slice (some ⟨g, 0, none⟩) n c) n xs := by
 refine ⟨h.1, ?_⟩
 rcases h.2 with ⟨h, _⟩ | ⟨g', cap, cur, h1, h2, h3, h4⟩
 ·simp at h
 ·simp at h1
  obtain ⟨rfl, rfl⟩ := h1
  exact .inr ⟨g, c, cur, rfl, h2, by rw [k.block g hp]; exact h3, h4⟩

theorem Rows.on {g k n : Nat} {w w' : World} {I : Nat → IV} {A J : Nat → Nat → Int} {sa si : Nat → Sl} {h : Nat → Nat} (hb : Below w.heap.size w w') (r : Rows g k n w I A J sa si h) : Rows g k n w' I A J sa si h :=
 ⟨owns_on hb r.own, fun t ht => (r.tw t ht).on hb (Nat.le_trans (mono_le r.up (Nat.le_refl k) (by omega : t + 1 ≤ k)) r.hi), r.up, r.lo, Nat.le_trans r.hi hb.size⟩

theorem Rows.kept {p : Nat → Prop} {g k n : Nat} {w w' : World} {I : Nat → IV} {A J : Nat → Nat → Int} {sa si : Nat → Sl} {h : Nat → Nat} (r : Rows g k n w I A J sa si h) (kp : Kept p w w') (hp : ∀ b, g ≤ b → b < h k → p b) : Rows g k n w' I A J sa si h :=
 ⟨owns_kept r.own kp (hp g (Nat.le_refl _) (by have := r.lo; have := mono_le r.up (Nat.le_refl k) (Nat.zero_le k); omega)), fun t ht => (r.tw t ht).kept kp (fun b h1 h2 => hp b (by have := r.lo; have := mono_le r.up (by omega : t ≤ k) (Nat.zero_le t); omega) (by have := mono_le r.up (Nat.le_refl k) (by omega : t + 1 ≤ k); omega)), r.up, r.lo, Nat.le_trans r.hi kp.size⟩

structure BRows (G k n : Nat) (w : World) (B : Nat → Sl) (I : Nat → Nat → IV) (A J : Nat → Nat → Nat → Int) (gB : Nat → Nat) (sa si : Nat → Nat → Sl) (h : Nat → Nat → Nat) (H : Nat → Nat) : Prop where
 own : w.ownsRow G 40 1 (.slice (some ⟨G, 0, none⟩) k n) k ((List.range k).map fun j => .slice (some ⟨gB j, 0, none⟩) (B j).n (B j).n)
 rows : ∀ j, j < k → Rows (gB j) (B j).n (B j).n w (I j) (A j) (J j) (sa j) (si j) (h j)
 lows : ∀ j, j < k → H j ≤ gB j
 tops : ∀ j, j < k → h j (B j).n ≤ H (j + 1)
 lo : G < H 0
 hi : H k ≤ w.heap.size

theorem Rows.le {g k n : Nat} {w : World} {I : Nat → IV} {A J : Nat → Nat → Int} {sa si : Nat → Sl} {h : Nat → Nat} (r : Rows g k n w I A J sa si h) : g < h k := by
 have := r.lo; have := mono_le r.up (Nat.le_refl k) (Nat.zero_le k); omega

theorem BRows.up {G k n : Nat} {w : World} {B : Nat → Sl} {I : Nat → Nat → IV} {A J : Nat → Nat → Nat → Int} {gB : Nat → Nat} {sa si : Nat → Nat → Sl} {h : Nat → Nat → Nat} {H : Nat → Nat} (r : BRows G k n w B I A J gB sa si h H) : ∀ j, j < k → H j ≤ H (j + 1) := fun j hj => by
 have := r.lows j hj; have := r.tops j hj; have := (r.rows j hj).le; omega

theorem BRows.step {G k n : Nat} {w : World} {B : Nat → Sl} {I : Nat → Nat → IV} {A J : Nat → Nat → Nat → Int} {gB : Nat → Nat} {sa si : Nat → Nat → Sl} {h : Nat → Nat → Nat} {H : Nat → Nat} {g : Nat} {ta ti : Nat → Sl} {t : Nat → Nat} {H1 : Nat}
  (rows : ∀ j, j < k → Rows (gB j) (B j).n (B j).n w (I j) (A j) (J j) (sa j) (si j) (h j)) (lows : ∀ j, j < k → H j ≤ gB j) (tops : ∀ j, j < k → h j (B j).n ≤ H (j + 1)) (lo : G < H 0)
  (hk : H k ≤ g) (hr : Rows g (B k).n (B k).n w (I k) (A k) (J k) ta ti t) (h1 : t (B k).n ≤ H1) (h2 : H1 ≤ w.heap.size)
  (own : w.ownsRow G 40 1 (.slice (some ⟨G, 0, none⟩) (k + 1) n) (k + 1) (((List.range k).map fun j => .slice (some ⟨gB j, 0, none⟩) (B j).n (B j).n) ++ [.slice (some ⟨g, 0, none⟩) (B k).n (B k).n])) :
  ∃ (gB : Nat → Nat) (sa si : Nat → Nat → Sl) (h : Nat → Nat → Nat) (H : Nat → Nat), BRows G (k + 1) n w B I A J gB sa si h H := by
 refine ⟨fun j => if j < k then gB j else g, fun j => if j < k then sa j else ta, fun j => if j < k then si j else ti, fun j => if j < k then h j else t, fun j => if j ≤ k then H j else H1, ?_, ?_, ?_, ?_, ?_, ?_⟩
 ·have e : ((List.range (k + 1)).map fun j => Value.slice (some ⟨if j < k then gB j else g, 0, none⟩) (B j).n (B j).n) = ((List.range k).map fun j => Value.slice (some ⟨gB j, 0, none⟩) (B j).n (B j).n) ++ [.slice (some ⟨g, 0, none⟩) (B k).n (B k).n] := by
   rw [List.range_succ, List.map_append]
   congr 1
   ·exact List.map_congr_left fun j hj => by simp [List.mem_range.1 hj]
   ·simp
  rw [e]; exact own
 ·intro j hj
  rcases Nat.lt_or_eq_of_le (Nat.le_of_lt_succ hj) with h' | rfl
  ·simp only [h', if_true]; exact rows j h'
  ·simp only [Nat.lt_irrefl, if_false]; exact hr
 ·intro j hj
  rcases Nat.lt_or_eq_of_le (Nat.le_of_lt_succ hj) with h' | rfl
  ·simp only [h', if_true, Nat.le_of_lt h']; exact lows j h'
  ·simp only [Nat.lt_irrefl, if_false, Nat.le_refl, if_true]; exact hk
 ·intro j hj
  rcases Nat.lt_or_eq_of_le (Nat.le_of_lt_succ hj) with h' | rfl
  ·simp only [h', if_true, show j + 1 ≤ k from h']; exact tops j h'
  ·simp only [Nat.lt_irrefl, if_false, show ¬ j + 1 ≤ j by omega]; exact h1
 ·simp only [Nat.zero_le, if_true]; exact lo
 ·simp only [show ¬ k + 1 ≤ k by omega, if_false]; exact h2

theorem info40 : (Tryz.prog.info? 40).map (fun i => (i.zero, i.size, i.bytes)) = some (some (.agg #[.slice none 0 0]), 1, 24) := by kernel_rfl

theorem BRows.on {G k n : Nat} {w w' : World} {B : Nat → Sl} {I : Nat → Nat → IV} {A J : Nat → Nat → Nat → Int} {gB : Nat → Nat} {sa si : Nat → Nat → Sl} {h : Nat → Nat → Nat} {H : Nat → Nat} (hb : Below w.heap.size w w') (r : BRows G k n w B I A J gB sa si h H) : BRows G k n w' B I A J gB sa si h H :=
 ⟨owns_on hb r.own, fun j hj => (r.rows j hj).on hb, r.lows, r.tops, r.lo, Nat.le_trans r.hi hb.size⟩

theorem BRows.kept {p : Nat → Prop} {G k n : Nat} {w w' : World} {B : Nat → Sl} {I : Nat → Nat → IV} {A J : Nat → Nat → Nat → Int} {gB : Nat → Nat} {sa si : Nat → Nat → Sl} {h : Nat → Nat → Nat} {H : Nat → Nat} (r : BRows G k n w B I A J gB sa si h H) (kp : Kept p w w') (hp : ∀ b, G ≤ b → b < w.heap.size → p b) : BRows G k n w' B I A J gB sa si h H := by
 have hG : G < w.heap.size := (r.own.lt G rfl).2
 refine ⟨owns_kept r.own kp (hp G (Nat.le_refl _) hG), fun j hj => (r.rows j hj).kept kp fun b h1 h2 => ?_, r.lows, r.tops, r.lo, Nat.le_trans r.hi kp.size⟩
 have q1 := r.lo
 have q2 := mono_le r.up (show j ≤ k by omega) (Nat.zero_le j)
 have q3 := r.lows j hj
 have q4 := (r.rows j hj).hi
 exact hp b (by omega) (by omega)

structure FuncAt (w : World) (b : Nat) (F : FV) : Prop where
 c0 : w.cell? ⟨b, 0, none⟩ = some (.string F.name)
 c1 : w.cell? ⟨b, 1, none⟩ = some (.bool F.out)
 c2 : w.cell? ⟨b, 2, none⟩ = some (.slice F.par.a F.par.n F.par.c)
 c3 : w.cell? ⟨b, 3, none⟩ = some (.int .i64 F.res)
 c4 : w.cell? ⟨b, 4, none⟩ = some (.slice F.blk.a F.blk.n F.blk.c)

abbrev fcells (F : FV) : Array Value := #[.string F.name, .bool F.out, .slice F.par.a F.par.n F.par.c, .int .i64 F.res, .slice F.blk.a F.blk.n F.blk.c]

theorem FuncAt.alloc (w : World) (F : FV) : FuncAt (w.alloc (.cells (fcells F) 36)) w.heap.size F := ⟨by simp, by simp, by simp, by simp, by simp⟩
theorem FuncAt.on {w w' : World} {b : Nat} {F : FV} (hb : Below w.heap.size w w') (h : FuncAt w b F) : FuncAt w' b F :=
 ⟨cell_on hb h.c0, cell_on hb h.c1, cell_on hb h.c2, cell_on hb h.c3, cell_on hb h.c4⟩
theorem FuncAt.kept {p : Nat → Prop} {w w' : World} {b : Nat} {F : FV} (h : FuncAt w b F) (k : Kept p w w') (hp : p b) : FuncAt w' b F :=
 ⟨cell_kept k hp h.c0, cell_kept k hp h.c1, cell_kept k hp h.c2, cell_kept k hp h.c3, cell_kept k hp h.c4⟩
theorem FuncAt.set2 {w : World} {b : Nat} {F : FV} (h : FuncAt w b F) (s : Sl) : FuncAt (w.setCell ⟨b, 2, none⟩ (.slice s.a s.n s.c)) b { F with par := s } :=
 ⟨cell_other (ne_off (by omega)) h.c0, cell_other (ne_off (by omega)) h.c1, cell_same h.c2, cell_other (ne_off (by omega)) h.c3, cell_other (ne_off (by omega)) h.c4⟩

abbrev fzero : FV := ⟨ByteArray.empty, false, ⟨none, 0, 0⟩, 0, ⟨none, 0, 0⟩, fun _ => 0, fun _ => ⟨none, 0, 0⟩, fun _ _ => IV.zero, fun _ _ _ => 0, fun _ _ _ => 0⟩

abbrev twin (F : FV) (sp : Sl) (G : Nat) (gB : Nat → Nat) (sa si : Nat → Nat → Sl) : FV :=
 { F with par := sp, blk := ⟨some ⟨G, 0, none⟩, F.blk.n, F.blk.n⟩, B := fun j => ⟨some ⟨gB j, 0, none⟩, (F.B j).n, (F.B j).n⟩, I := fun j k => { F.I j k with args := sa j k, into := si j k } }

def Copied (F : FV) (w : World) (e : Ending) (w' : World) : Prop := ∃ (sp : Sl) (G : Nat) (gB : Nat → Nat) (sa si : Nat → Nat → Sl) (h : Nat → Nat → Nat) (H : Nat → Nat), e = .returned (twin F sp G gB sa si).val ∧ sp.n = F.par.n ∧ Ints w' sp F.P ∧ Mine w.heap.size G w' sp ∧ BRows G F.blk.n F.blk.n w' F.B F.I F.A F.J gB sa si h H ∧ w.heap.size ≤ G ∧ Below w.heap.size w w'

end Go.Proofs.YtnodofbpogcheaaGreat.Copy

namespace Go.Proofs.YtnodofbpogcheaaGreat.Srt
open Go.RowKit View Rd

set_option linter.unusedVariables false

def cmp3 (x y : Int) : Int := if x < y then -1 else if y < x then 1 else 0

structure Ents (w : World) (E n : Nat) (p q : Nat → Int) : Prop where
 c0 : ∀ i, i < n → w.cell? ⟨E, i * 2, none⟩ = some (.int .i64 (p i))
 c1 : ∀ i, i < n → w.cell? ⟨E, i * 2 + 1, none⟩ = some (.int .i64 (q i))
 fz : ∀ i, w.frozen? ⟨E, i, none⟩ = false

def sel (c : Int) (p q : Nat → Int) : Nat → List Int
 | 0 => []
 | n + 1 => sel c p q n ++ if q n = c then [p n] else []

def Rises (q : Nat → Int) (n : Nat) : Prop := ∀ x y, x < y → y < n → q x ≤ q y

def swp (f : Nat → Int) (j : Nat) : Nat → Int := fun i => if i = j + 1 then f j else if i = j then f (j + 1) else f i

theorem Ents.on {w w' : World} {E n : Nat} {p q : Nat → Int} (hE : E < w.heap.size) (hb : Below w.heap.size w w') (h : Ents w E n p q) : Ents w' E n p q :=
 ⟨fun i hi => cell_on hb (h.c0 i hi), fun i hi => cell_on hb (h.c1 i hi), fun i => by rw [hb.frozen (by exact hE)]; exact h.fz i⟩

structure Ins1 (q : Nat → Int) (i j : Nat) : Prop where
 rest : ∀ x y, x < y → y ≤ i → x ≠ j → y ≠ j → q x ≤ q y
 beyond : ∀ y, j < y → y ≤ i → q j ≤ q y

theorem Ins1.step {q : Nat → Int} {i j : Nat} (h : Ins1 q i (j + 1)) (hj : j + 1 ≤ i) (hlt : q (j + 1) < q j) : Ins1 (swp q j) i j := by
 constructor
 ·intro x y hxy hy hx hy'
  by_cases e1 : x = j + 1
  ·subst e1
   rw [show swp q j (j + 1) = q j by simp [swp], show swp q j y = q y by simp [swp, show y ≠ j + 1 by omega, show y ≠ j by omega]]
   exact h.rest j y (by omega) hy (by omega) (by omega)
  ·rw [show swp q j x = q x by simp [swp, e1, hx]]
   by_cases e2 : y = j + 1
   ·subst e2
    rw [show swp q j (j + 1) = q j by simp [swp]]
    exact h.rest x j (by omega) (by omega) e1 (by omega)
   ·rw [show swp q j y = q y by simp [swp, e2, hy']]
    exact h.rest x y hxy hy e1 e2
 ·intro y hy hyi
  simp only [swp, if_true, show j ≠ j + 1 by omega, if_false]
  split
  ·omega
  ·split
   ·omega
   ·exact h.beyond y (by omega) hyi

theorem Ins1.done {q : Nat → Int} {i j : Nat} (h : Ins1 q i j) (hj : j ≤ i) (he : j = 0 ∨ ∃ k, j = k + 1 ∧ q k ≤ q j) : Rises q (i + 1) := by
 intro x y hxy hy
 by_cases e1 : x = j
 ·subst e1; exact h.beyond y hxy (by omega)
 ·by_cases e2 : y = j
  ·subst e2
   rcases he with rfl | ⟨k, rfl, hk⟩
   ·omega
   ·by_cases e3 : x = k
    ·subst e3; exact hk
    ·exact Int.le_trans (h.rest x k (by omega) (by omega) e1 (by omega)) hk
  ·exact h.rest x y hxy (by omega) e1 e2

theorem Ins1.start {q : Nat → Int} {i : Nat} (h : Rises q i) : Ins1 q i i :=
 ⟨fun x y hxy hy hx hy' => h x y hxy (by omega), fun y hy hyi => by omega⟩

structure St (w wr : World) (E n : Nat) (p q p' q' : Nat → Int) : Prop where
 ents : Ents wr E n p' q'
 sels : ∀ c, sel c p' q' n = sel c p q n
 grown : w.grownBy wr (some E)

end Go.Proofs.YtnodofbpogcheaaGreat.Srt

namespace Go.Proofs.YtnodofbpogcheaaGreat.Srt
open Go.RowKit View Rd

set_option linter.unusedVariables false

def Sorted (w : World) (E n : Nat) (p q : Nat → Int) (e : Ending) (w' : World) : Prop := e = .returned (.tuple #[]) ∧ ∃ p' q', St w w' E n p q p' q' ∧ Rises q' n

structure Turn (p : Nat → Prop) (w w' : World) : Prop where
 os : w'.os = w.os
 tape : w'.tape = w.tape
 output : w'.output = w.output
 size : w.heap.size ≤ w'.heap.size
 block : ∀ k, k < w.heap.size → ¬ p k → w'.heap[k]? = w.heap[k]?
 froz : ∀ a : Addr, a.block < w.heap.size → w'.frozen? a = w.frozen? a

theorem Turn.refl (p : Nat → Prop) (w : World) : Turn p w w := ⟨rfl, rfl, rfl, Nat.le_refl _, fun _ _ _ => rfl, fun _ _ => rfl⟩
theorem Turn.of_below {p : Nat → Prop} {w w' : World} (h : Below w.heap.size w w') : Turn p w w' := ⟨h.os, h.tape, h.output, h.size, fun k hk _ => h.block k hk, fun a ha => h.frozen ha⟩
theorem Turn.below {p : Nat → Prop} {w a b : World} (h : Turn p w a) (k : Below a.heap.size a b) : Turn p w b :=
 ⟨k.os.trans h.os, k.tape.trans h.tape, k.output.trans h.output, Nat.le_trans h.size k.size, fun i hi hp => by rw [k.block i (Nat.lt_of_lt_of_le hi h.size)]; exact h.block i hi hp, fun x hx => by rw [k.frozen (Nat.lt_of_lt_of_le hx h.size)]; exact h.froz x hx⟩
theorem Turn.setCell {p : Nat → Prop} {w a : World} (h : Turn p w a) {x : Addr} (hx : p x.block ∨ w.heap.size ≤ x.block) (v : Value) : Turn p w (a.setCell x v) :=
 ⟨h.os, h.tape, h.output, by rw [World.size_setCell]; exact h.size, fun i hi hp => by rw [Below.heap_setCell _ _ _ _ (fun e => by subst e; rcases hx with hx | hx; exact hp hx; omega)]; exact h.block i hi hp, fun y hy => by rw [World.frozen?_setCell]; exact h.froz y hy⟩
theorem Turn.drew {p : Nat → Prop} {w a : World} (h : Turn p w a) : Turn p w a.drew := ⟨h.os, h.tape, h.output, h.size, h.block, h.froz⟩
theorem Turn.alloc {p : Nat → Prop} {w a : World} (h : Turn p w a) (o : Obj) : Turn p w (a.alloc o) := h.below (new (same _) _)
theorem Turn.grown {p : Nat → Prop} {w a b : World} {E : Nat} (h : Turn p w a) (k : a.grownBy b (some E)) (hE : w.heap.size ≤ E) : Turn p w b :=
 ⟨k.os.trans h.os, k.tape.trans h.tape, k.output.trans h.output, Nat.le_trans h.size k.size, fun i hi hp => by rw [k.block i (Nat.lt_of_lt_of_le hi h.size) (fun e => by have := Option.some.inj e; omega)]; exact h.block i hi hp, fun x hx => by rw [World.frozen?_of_block (w := a) (k.block x.block (Nat.lt_of_lt_of_le hx h.size) (fun e => by have := Option.some.inj e; omega))]; exact h.froz x hx⟩
theorem Turn.kept {p : Nat → Prop} {w w' : World} (h : Turn p w w') : Kept (fun k => k < w.heap.size ∧ ¬ p k) w w' := ⟨h.size, fun k hk => h.block k hk.1 hk.2⟩

theorem Turn.wide {p q : Nat → Prop} {w w' : World} (h : Turn p w w') (hpq : ∀ b, p b → q b) : Turn q w w' := ⟨h.os, h.tape, h.output, h.size, fun k hk hq => h.block k hk (fun hp => hq (hpq k hp)), h.froz⟩
theorem Turn.trans {p : Nat → Prop} {a b c : World} (h : Turn p a b) (k : Turn p b c) : Turn p a c :=
 ⟨k.os.trans h.os, k.tape.trans h.tape, k.output.trans h.output, Nat.le_trans h.size k.size, fun i hi hp => (k.block i (Nat.lt_of_lt_of_le hi h.size) hp).trans (h.block i hi hp), fun x hx => (k.froz x (Nat.lt_of_lt_of_le hx h.size)).trans (h.froz x hx)⟩

def StSort (a j a' j' : Nat → Int) (n : Nat) : Prop := Rises j' n ∧ ∀ c, sel c a' j' n = sel c a j n

def ent (a j : Nat → Int) : Nat → List Value
 | 0 => []
 | k + 1 => ent a j k ++ [.int .i64 (a k), .int .i64 (j k)]

theorem own_at {w : World} {s : Sl} {f : Nat → Int} (h : Ints w s f) {g : Nat} (hg : s.a = some ⟨g, 0, none⟩) {k : Nat} (hk : k < s.n) :
  (∀ wx, (Instr.indexAt 33 (.slice s.a s.n s.c) (.int .i64 k)).run Tryz.prog wx = .ok (.pointer (some ⟨g, k, none⟩)) wx) ∧ w.cell? ⟨g, k, none⟩ = some (.int .i64 (f k)) := by
 obtain ⟨b, off, ha, hc⟩ := h.2.2.2 (by omega)
 have e := hg.symm.trans ha
 simp at e
 obtain ⟨rfl, rfl⟩ := e
 exact ⟨by have := index_row hg underlying33 size3 hk; simpa using this, by simpa using hc k hk⟩

theorem own_set {w : World} {s : Sl} {f : Nat → Int} (h : Ints w s f) {g : Nat} (hg : s.a = some ⟨g, 0, none⟩) {k : Nat} (hk : k < s.n) (v : Int) : Ints (w.setCell ⟨g, k, none⟩ (.int .i64 v)) s (fun i => if i = k then v else f i) :=
 ⟨h.1, h.2.1, h.2.2.1, fun h0 => ⟨g, 0, hg, fun i hi => by
  simp only [Nat.zero_add]
  by_cases e : i = k
  ·subst e; rw [if_pos rfl]; exact cell_same (own_at h hg hi).2
  ·rw [if_neg e]; exact cell_other (ne_off (fun h => e h.symm)) (own_at h hg hi).2⟩⟩

def mix (k : Nat) (f g : Nat → Int) : Nat → Int := fun i => if i < k then f i else g i

def Both (s t : Sl) (a j : Nat → Int) (w : World) (e : Ending) (w' : World) : Prop :=
 e = .returned (.tuple #[]) ∧ ∃ a' j', Ints w' s a' ∧ Ints w' t j' ∧ StSort a j a' j' s.n ∧ Turn (fun k => 0 < s.n ∧ ((∃ o, s.a = some ⟨k, o, none⟩) ∨ ∃ o, t.a = some ⟨k, o, none⟩)) w w'

end Go.Proofs.YtnodofbpogcheaaGreat.Srt

namespace Go.Proofs.YtnodofbpogcheaaGreat.Own
open Go.RowKit View Rd Copy Srt

set_option linter.unusedVariables false

inductive Id where
 | row (j : Nat)
 | arg (j k : Nat)
 | int (j k : Nat)

def sl (F : FV) : Id → Sl
 | .row j => F.B j
 | .arg j k => (F.I j k).args
 | .int j k => (F.I j k).into

def has (F : FV) : Id → Prop
 | .row j => j < F.blk.n
 | .arg j k => j < F.blk.n ∧ k < (F.B j).n
 | .int j k => j < F.blk.n ∧ k < (F.B j).n

structure Own (base : Nat) (w : World) (F : FV) (at_ : Id → Nat) : Prop where
 inn : In w F
 adr : ∀ x, has F x → 0 < (sl F x).n → (sl F x).a = some ⟨at_ x, 0, none⟩
 ge : ∀ x, has F x → 0 < (sl F x).n → base ≤ at_ x
 lt : ∀ x, has F x → 0 < (sl F x).n → at_ x < w.heap.size
 fz : ∀ x, has F x → 0 < (sl F x).n → ∀ i, w.frozen? ⟨at_ x, i, none⟩ = false
 sep : ∀ x y, has F x → has F y → 0 < (sl F x).n → 0 < (sl F y).n → at_ x = at_ y → x = y
 par : ∀ x, has F x → 0 < (sl F x).n → ∀ b o, F.par.a = some ⟨b, o, none⟩ → 0 < F.par.n → b ≠ at_ x
 blk : ∀ x, has F x → 0 < (sl F x).n → ∀ b o, F.blk.a = some ⟨b, o, none⟩ → 0 < F.blk.n → b ≠ at_ x
 pm : Mine base w.heap.size w F.par
 bm : Mine base w.heap.size w F.blk

def blkOf (s : Sl) : Nat := match s.a with | some a => a.block | none => 0

theorem blkOf_eq {s : Sl} {g o : Nat} (h : s.a = some ⟨g, o, none⟩) : blkOf s = g := by unfold blkOf; rw [h]

def atOf (gB : Nat → Nat) (sa si : Nat → Nat → Sl) : Id → Nat
 | .row j => gB j
 | .arg j k => blkOf (sa j k)
 | .int j k => blkOf (si j k)

theorem Own.on {base : Nat} {w w' : World} {F : FV} {at_ : Id → Nat} (hb : Below w.heap.size w w') (h : Own base w F at_) : Own base w' F at_ :=
 ⟨h.inn.on hb, h.adr, h.ge, fun x hx h0 => Nat.lt_of_lt_of_le (h.lt x hx h0) hb.size, fun x hx h0 i => by rw [hb.frozen (by exact h.lt x hx h0)]; exact h.fz x hx h0 i, h.sep, h.par, h.blk, (h.pm.on hb (Nat.le_refl _)).wide (Nat.le_refl _) hb.size, (h.bm.on hb (Nat.le_refl _)).wide (Nat.le_refl _) hb.size⟩

theorem mine_turn {p : Nat → Prop} {base : Nat} {w w' : World} {s : Sl} (h : Mine base w.heap.size w s) (t : Turn p w w') : Mine base w'.heap.size w' s := fun h0 => by
 obtain ⟨g, h1, h2, h3, h4⟩ := h h0
 exact ⟨g, h1, h2, Nat.lt_of_lt_of_le h3 t.size, fun i => by rw [t.froz _ h3]; exact h4 i⟩

def upd (f : Nat → Nat → Nat → Int) (j k : Nat) (g : Nat → Int) : Nat → Nat → Nat → Int := fun j' k' => if j' = j ∧ k' = k then g else f j' k'

theorem Sls_kept {p : Nat → Prop} {w w' : World} {s : Sl} {f : Nat → Sl} (h : Sls w s f) (k : Kept p w w') (hp : ∀ b off, s.a = some ⟨b, off, none⟩ → 0 < s.n → p b) : Sls w' s f :=
 ⟨h.1, h.2.1, h.2.2.1, fun h0 => by
  obtain ⟨b, off, ha, hc⟩ := h.2.2.2 h0
  exact ⟨b, off, ha, fun i hi => cell_kept k (hp b off ha h0) (hc i hi)⟩⟩

theorem Inss_kept {p : Nat → Prop} {w w' : World} {s : Sl} {f : Nat → IV} (h : Inss w s f) (k : Kept p w w') (hp : ∀ b off, s.a = some ⟨b, off, none⟩ → 0 < s.n → p b) : Inss w' s f :=
 ⟨h.1, h.2.1, h.2.2.1, fun h0 => by
  obtain ⟨b, off, ha, hc⟩ := h.2.2.2 h0
  exact ⟨b, off, ha, fun i hi => (hc i hi).kept k (hp b off ha h0)⟩⟩

theorem Ints_lt {w : World} {s : Sl} {f : Nat → Int} (h : Ints w s f) : ∀ b off, s.a = some ⟨b, off, none⟩ → 0 < s.n → b < w.heap.size := fun b off ha h0 => by
 obtain ⟨b', off', ha', hc⟩ := h.2.2.2 h0
 have e := ha.symm.trans ha'
 simp at e
 obtain ⟨rfl, rfl⟩ := e
 exact World.block_lt_of_cell? _ _ (hc 0 h0)
theorem Sls_lt {w : World} {s : Sl} {f : Nat → Sl} (h : Sls w s f) : ∀ b off, s.a = some ⟨b, off, none⟩ → 0 < s.n → b < w.heap.size := fun b off ha h0 => by
 obtain ⟨b', off', ha', hc⟩ := h.2.2.2 h0
 have e := ha.symm.trans ha'
 simp at e
 obtain ⟨rfl, rfl⟩ := e
 exact World.block_lt_of_cell? _ _ (hc 0 h0)
theorem Inss_lt {w : World} {s : Sl} {f : Nat → IV} (h : Inss w s f) : ∀ b off, s.a = some ⟨b, off, none⟩ → 0 < s.n → b < w.heap.size := fun b off ha h0 => by
 obtain ⟨b', off', ha', hc⟩ := h.2.2.2 h0
 have e := ha.symm.trans ha'
 simp at e
 obtain ⟨rfl, rfl⟩ := e
 exact World.block_lt_of_cell? _ _ (hc 0 h0).c0

theorem adr_inj {s : Sl} {g b o : Nat} (h : s.a = some ⟨g, 0, none⟩) (h' : s.a = some ⟨b, o, none⟩) : b = g := by
 have e := h'.symm.trans h
 simp at e
 exact e.1

theorem Own.rows {base : Nat} {w w' : World} {F : FV} {at_ : Id → Nat} (h : Own base w F at_) {p : Nat → Prop} (ht : Turn p w w') {j k : Nat} (hj : j < F.blk.n) (hk : k < (F.B j).n)
  (hp : ∀ b, p b → (b = at_ (.arg j k) ∧ 0 < (F.I j k).args.n) ∨ (b = at_ (.int j k) ∧ 0 < (F.I j k).into.n)) {a' j' : Nat → Int} (ia : Ints w' (F.I j k).args a') (ij : Ints w' (F.I j k).into j') :
  Own base w' { F with A := upd F.A j k a', J := upd F.J j k j' } at_ := by
 have kp := ht.kept
 have ha : has F (.arg j k) := ⟨hj, hk⟩
 have hi : has F (.int j k) := ⟨hj, hk⟩
 have off : ∀ x, has F x → 0 < (sl F x).n → x ≠ .arg j k → x ≠ .int j k → ¬ p (at_ x) := fun x hx h0 n1 n2 hpx => by
  rcases hp _ hpx with ⟨e, h1⟩ | ⟨e, h1⟩
  ·exact n1 (h.sep x _ hx ha h0 h1 e)
  ·exact n2 (h.sep x _ hx hi h0 h1 e)
 refine ⟨⟨?_, ?_, fun j1 h1 => ?_, fun j1 h1 k1 h2 => ?_, fun j1 h1 k1 h2 => ?_⟩, h.adr, h.ge, fun x hx h0 => Nat.lt_of_lt_of_le (h.lt x hx h0) ht.size, fun x hx h0 i => by rw [ht.froz _ (by exact h.lt x hx h0)]; exact h.fz x hx h0 i, h.sep, h.par, h.blk, mine_turn h.pm ht, mine_turn h.bm ht⟩
 ·refine h.inn.par.kept kp fun b off ha' h0 => ⟨Ints_lt h.inn.par b off ha' h0, fun hpb => ?_⟩
  rcases hp _ hpb with ⟨e, h1⟩ | ⟨e, h1⟩
  ·exact h.par _ ha h1 b off ha' h0 e
  ·exact h.par _ hi h1 b off ha' h0 e
 ·refine Sls_kept h.inn.blk kp fun b off ha' h0 => ⟨Sls_lt h.inn.blk b off ha' h0, fun hpb => ?_⟩
  rcases hp _ hpb with ⟨e, h1⟩ | ⟨e, h1⟩
  ·exact h.blk _ ha h1 b off ha' h0 e
  ·exact h.blk _ hi h1 b off ha' h0 e
 ·refine Inss_kept (h.inn.ins j1 h1) kp fun b o ha' h0 => ⟨Inss_lt (h.inn.ins j1 h1) b o ha' h0, ?_⟩
  rw [adr_inj (h.adr (.row j1) h1 h0) ha']
  exact off (.row j1) h1 h0 (by simp) (by simp)
 ·show Ints w' (F.I j1 k1).args (upd F.A j k a' j1 k1)
  unfold upd
  by_cases e : j1 = j ∧ k1 = k
  ·rw [if_pos e, e.1, e.2]; exact ia
  ·rw [if_neg e]
   refine (h.inn.args j1 h1 k1 h2).kept kp fun b o ha' h0 => ⟨Ints_lt (h.inn.args j1 h1 k1 h2) b o ha' h0, ?_⟩
   rw [adr_inj (h.adr (.arg j1 k1) ⟨h1, h2⟩ h0) ha']
   exact off (.arg j1 k1) ⟨h1, h2⟩ h0 (by simpa using e) (by simp)
 ·show Ints w' (F.I j1 k1).into (upd F.J j k j' j1 k1)
  unfold upd
  by_cases e : j1 = j ∧ k1 = k
  ·rw [if_pos e, e.1, e.2]; exact ij
  ·rw [if_neg e]
   refine (h.inn.into j1 h1 k1 h2).kept kp fun b o ha' h0 => ⟨Ints_lt (h.inn.into j1 h1 k1 h2) b o ha' h0, ?_⟩
   rw [adr_inj (h.adr (.int j1 k1) ⟨h1, h2⟩ h0) ha']
   exact off (.int j1 k1) ⟨h1, h2⟩ h0 (by simp) (by simpa using e)

theorem Own.far {base : Nat} {w w' : World} {F : FV} {at_ : Id → Nat} (h : Own base w F at_) {p : Nat → Prop} (t : Turn p w w') (hp : ∀ b, p b → b < base) : Own base w' F at_ := by
 have kp := t.kept
 refine ⟨⟨h.inn.par.kept kp fun b o ha h0 => ?_, Sls_kept h.inn.blk kp fun b o ha h0 => ?_, fun j hj => Inss_kept (h.inn.ins j hj) kp fun b o ha h0 => ?_, fun j hj k hk => (h.inn.args j hj k hk).kept kp fun b o ha h0 => ?_, fun j hj k hk => (h.inn.into j hj k hk).kept kp fun b o ha h0 => ?_⟩, h.adr, h.ge, fun x hx h0 => Nat.lt_of_lt_of_le (h.lt x hx h0) t.size, fun x hx h0 i => by rw [t.froz _ (by exact h.lt x hx h0)]; exact h.fz x hx h0 i, h.sep, h.par, h.blk, mine_turn h.pm t, mine_turn h.bm t⟩
 ·exact ⟨(h.pm.ge b o ha h0).2, fun e => by have := hp b e; have := (h.pm.ge b o ha h0).1; omega⟩
 ·exact ⟨(h.bm.ge b o ha h0).2, fun e => by have := hp b e; have := (h.bm.ge b o ha h0).1; omega⟩
 ·have e := adr_inj (h.adr (.row j) hj h0) ha
  exact ⟨by rw [e]; exact h.lt (.row j) hj h0, fun q => by have := hp b q; have := h.ge (.row j) hj h0; omega⟩
 ·have e := adr_inj (h.adr (.arg j k) ⟨hj, hk⟩ h0) ha
  exact ⟨by rw [e]; exact h.lt (.arg j k) ⟨hj, hk⟩ h0, fun q => by have := hp b q; have := h.ge (.arg j k) ⟨hj, hk⟩ h0; omega⟩
 ·have e := adr_inj (h.adr (.int j k) ⟨hj, hk⟩ h0) ha
  exact ⟨by rw [e]; exact h.lt (.int j k) ⟨hj, hk⟩ h0, fun q => by have := hp b q; have := h.ge (.int j k) ⟨hj, hk⟩ h0; omega⟩

theorem Own.mine {base : Nat} {w : World} {F : FV} {at_ : Id → Nat} (h : Own base w F at_) (x : Id) (hx : has F x) : Mine base w.heap.size w (sl F x) := fun h0 =>
 ⟨at_ x, h.adr x hx h0, h.ge x hx h0, h.lt x hx h0, h.fz x hx h0⟩

end Go.Proofs.YtnodofbpogcheaaGreat.Own

namespace Go.Proofs.YtnodofbpogcheaaGreat.Own
open Go.RowKit View Rd Copy Srt

set_option linter.unusedVariables false

def Put (v : IV) (a j a' j' : Nat → Int) : Prop :=
 if v.op = 26 ∧ v.args.n = v.into.n then StSort a j a' j' v.args.n else a' = a ∧ j' = j

def Upto (F : FV) (b t : Nat) (A J : Nat → Nat → Nat → Int) : Prop :=
 ∀ j, j < F.blk.n → ∀ k, k < (F.B j).n → if j < b ∨ j = b ∧ k < t then Put (F.I j k) (F.A j k) (F.J j k) (A j k) (J j k) else A j k = F.A j k ∧ J j k = F.J j k

theorem upd_same (f : Nat → Nat → Nat → Int) (j k : Nat) (g : Nat → Int) : upd f j k g j k = g := by simp [upd]
theorem upd_other (f : Nat → Nat → Nat → Int) {j k j' k' : Nat} (g : Nat → Int) (h : ¬ (j' = j ∧ k' = k)) : upd f j k g j' k' = f j' k' := by simp only [upd, if_neg h]

theorem Upto.start (F : FV) : Upto F 0 0 F.A F.J := fun j hj k hk => by simp

theorem Upto.skip {F : FV} {b t : Nat} {A J : Nat → Nat → Nat → Int} (h : Upto F b t A J) (hb : b < F.blk.n) (ht : t < (F.B b).n) (hp : Put (F.I b t) (F.A b t) (F.J b t) (F.A b t) (F.J b t)) : Upto F b (t + 1) A J := fun j hj k hk => by
 have := h j hj k hk
 by_cases e : j = b ∧ k = t
 ·obtain ⟨rfl, rfl⟩ := e
  rw [if_neg (by omega)] at this
  rw [if_pos (by omega), this.1, this.2]; exact hp
 ·by_cases e2 : j < b ∨ j = b ∧ k < t
  ·rw [if_pos e2] at this; rw [if_pos (by omega)]; exact this
  ·rw [if_neg e2] at this; rw [if_neg (by omega)]; exact this

theorem Upto.put {F : FV} {b t : Nat} {A J : Nat → Nat → Nat → Int} (h : Upto F b t A J) (hb : b < F.blk.n) (ht : t < (F.B b).n) {a' j' : Nat → Int} (hp : Put (F.I b t) (F.A b t) (F.J b t) a' j') : Upto F b (t + 1) (upd A b t a') (upd J b t j') := fun j hj k hk => by
 have := h j hj k hk
 by_cases e : j = b ∧ k = t
 ·obtain ⟨rfl, rfl⟩ := e
  rw [if_pos (by omega), upd_same, upd_same]; exact hp
 ·rw [upd_other _ _ e, upd_other _ _ e]
  by_cases e2 : j < b ∨ j = b ∧ k < t
  ·rw [if_pos e2] at this; rw [if_pos (by omega)]; exact this
  ·rw [if_neg e2] at this; rw [if_neg (by omega)]; exact this

theorem Upto.next {F : FV} {b : Nat} {A J : Nat → Nat → Nat → Int} (h : Upto F b (F.B b).n A J) : Upto F (b + 1) 0 A J := fun j hj k hk => by
 have := h j hj k hk
 by_cases e2 : j < b ∨ j = b ∧ k < (F.B b).n
 ·rw [if_pos e2] at this; rw [if_pos (by omega)]; exact this
 ·rw [if_neg e2] at this
  rw [if_neg (fun h => ?_)]
  ·exact this
  ·rcases h with h | h
   ·rcases Nat.lt_or_eq_of_le (Nat.le_of_lt_succ h) with h' | rfl
    ·exact e2 (.inl h')
    ·exact e2 (.inr ⟨rfl, hk⟩)
   ·omega

def rowsOf (F : FV) (at_ : Id → Nat) (b : Nat) : Prop := ∃ x, has F x ∧ 0 < (sl F x).n ∧ b = at_ x

def Phis (base : Nat) (F : FV) (at_ : Id → Nat) (w : World) (e : Ending) (w' : World) : Prop :=
 e = .returned (.tuple #[]) ∧ ∃ A J, Own base w' { F with A := A, J := J } at_ ∧ Upto F F.blk.n 0 A J ∧ Turn (rowsOf F at_) w w'

end Go.Proofs.YtnodofbpogcheaaGreat.Own

namespace Go.Proofs.YtnodofbpogcheaaGreat.Num
open Go.RowKit View Rd Copy Srt Own
open Go.Maps (Keyed int_keyed keyOf_int_mk)

set_option linter.unusedVariables false

def W64 (n : Int) : Prop := -9223372036854775808 ≤ n ∧ n ≤ 9223372036854775807

theorem underlying3 : Tryz.prog.underlying 3 = some (.int .i64) := by kernel_rfl

theorem law3 : Keyed Tryz.prog 3 := int_keyed underlying3

theorem zero3 (w : World) : (zeroValue 3).run Tryz.prog w = .ok (.int .i64 0) w := by kernel_rfl

theorem wf64 {n : Int} (h : W64 n) : (Lit.int .i64 n).wf = true := WalkArith.wf_i64 (by have := h.1; have := h.2; omega)

def MapIs (w : World) (B n : Nat) (m : Int → Option Int) : Prop :=
 ∃ D : DataW Unit, w.ownsMap Tryz.prog 3 (plainElem Tryz.prog 3) B n D ∧ ∀ v, Maps.has D (.int .i64 v) = (m v).isSome ∧ D.atKey (.int .i64 v) (.lit (.int .i64 0)) = .lit (.int .i64 ((m v).getD 0))

theorem MapIs.at_block {w w' : World} {B n : Nat} {m : Int → Option Int} (h : MapIs w B n m) (e : w'.heap[B]? = w.heap[B]?) : MapIs w' B n m := by
 obtain ⟨D, ⟨es, clock, hb, hr⟩, hv⟩ := h
 exact ⟨D, ⟨es, clock, by rw [e]; exact hb, hr⟩, hv⟩

theorem MapIs.lt {w : World} {B n : Nat} {m : Int → Option Int} (h : MapIs w B n m) : B < w.heap.size := by
 obtain ⟨D, ⟨es, clock, hb, hr⟩, hv⟩ := h
 exact (Array.getElem?_eq_some_iff.1 hb).1

theorem MapIs.on {w w' : World} {B n : Nat} {m : Int → Option Int} (hb : Below w.heap.size w w') (h : MapIs w B n m) : MapIs w' B n m := h.at_block (hb.block B h.lt)

theorem MapIs.congr {w : World} {B n n' : Nat} {m m' : Int → Option Int} (h : MapIs w B n m) (e : ∀ v, m v = m' v) (hn : n ≤ n') : MapIs w B n' m' := by
 obtain ⟨D, ⟨es, clock, hb, hr, hs, hd⟩, hv⟩ := h
 exact ⟨D, ⟨es, clock, hb, hr, Nat.le_trans hs hn, hd⟩, fun v => by rw [← e v]; exact hv v⟩

theorem MapIs.made (w : World) : MapIs (w.alloc (.map #[] 0)) w.heap.size 0 (fun _ => none) :=
 ⟨.map [], World.ownsMap_made _ _ _ _, fun v => ⟨rfl, rfl⟩⟩

def m0 (np : Nat) (v : Int) : Option Int := if 1 ≤ v ∧ v ≤ np then some v else none

def rowMap (m : Int → Option Int) (l : Nat) (f : Nat → IV) : Nat → Int → Option Int
 | 0 => m
 | k + 1 => fun v => if (f k).ty ≠ 0 ∧ rowMap m l f k (f k).to = none ∧ v = (f k).to then some ((l : Int) + giv f (k + 1)) else rowMap m l f k v

abbrev lastOf (F : FV) (j : Nat) : Nat := F.par.n + cnt (fun j => giv (F.I j) (F.B j).n) j

def allMap (F : FV) : Nat → Int → Option Int
 | 0 => m0 F.par.n
 | j + 1 => rowMap (allMap F j) (lastOf F j) (F.I j) (F.B j).n

structure Rng (F : FV) : Prop where
 to : ∀ j, j < F.blk.n → ∀ k, k < (F.B j).n → W64 (F.I j k).to
 args : ∀ j, j < F.blk.n → ∀ k, k < (F.B j).n → ∀ i, i < (F.I j k).args.n → W64 (F.A j k i)

def Numbers (F : FV) (w : World) (e : Ending) (w' : World) : Prop :=
 ∃ n, e = .returned (.map (some (w.heap.size + 1))) ∧ MapIs w' (w.heap.size + 1) n (allMap F F.blk.n) ∧ Below w.heap.size w w'

end Go.Proofs.YtnodofbpogcheaaGreat.Num

namespace Go.Proofs.YtnodofbpogcheaaGreat.Opn
open Go.RowKit Go.Deep View Rd Num

set_option linter.unusedVariables false

variable {H : Type} {enc : TypeId × Value → H} {w : World}

noncomputable abbrev rd (enc : TypeId × Value → H) (w : World) (fuel t : Nat) (cs : List Value) : Option (DataW H × List MemPlace) := DataW.trod enc Tryz.prog w 0 (fun _ => true) true fuel t cs

def Lgt (t : Nat) (d : DataW H) : Prop := ∀ n ∈ d.weights Tryz.prog t, n ≤ reachBytes

theorem weightsAll_mem {P : Program} {e : TypeId} : ∀ {l : List (DataW H)} {d : DataW H}, d ∈ l → ∀ n ∈ d.weights P e, n ∈ DataW.weightsAll P e l
 | x :: l, d, h, n, hn => by
  rw [DataW.weightsAll, List.mem_append]
  rcases List.mem_cons.1 h with rfl | h
  ·exact .inl hn
  ·exact .inr (weightsAll_mem h n hn)

theorem open_row {T e z by_ fuel : Nat} {cs : List Value} {x : DataW H × List MemPlace} (hT : Tryz.prog.underlying T = some (.slice e)) (hz : Tryz.prog.cellsOf e = z) (hz0 : 0 < z) (hby : Tryz.prog.bytesOf e = by_) (hb0 : 0 < by_)
  (h : rd enc w fuel T cs = some x) (hw : Lgt T x.1) :
  ∃ (s : Sl) (n b off : Nat) (D : Nat → DataW H) (Pl : Nat → List MemPlace), cs = [.slice s.a s.n s.c] ∧ s.n ≤ s.c ∧ s.n ≤ 140737488355328 ∧ (s.a = none → s.c = 0) ∧ (0 < s.n → s.a = some ⟨b, off, none⟩) ∧
   ∀ i, i < s.n → ∃ cs' : List Value, cs'.length = z ∧ (∀ c, c < z → w.cell? ⟨b, off + i * z + c, none⟩ = cs'[c]?) ∧ rd enc w n e cs' = some (D i, Pl i) ∧ Lgt e (D i) := by
 rcases open_slice hT h with ⟨rfl, rfl⟩ | ⟨a, len, cap, m, n, D, Pl, rfl, _, hlc, hcm, hm, rfl, hel⟩
 ·exact ⟨⟨none, 0, 0⟩, 0, 0, 0, fun _ => .nil, fun _ => [], rfl, Nat.le_refl _, Nat.zero_le _, fun _ => rfl, fun h => absurd h (by simp), fun i hi => absurd hi (by simp)⟩
 ·simp only [if_true] at hm
  subst hm
  rw [hz] at hel
  have hwt : (len + (m - len)) * by_ ≤ reachBytes := by
   have := hw ((len + (m - len)) * Tryz.prog.bytesOf e) (by simp [DataW.weights, hT])
   rw [hby] at this; exact this
  have hlen : len ≤ 140737488355328 := by
   have h1 : len ≤ (len + (m - len)) * by_ := Nat.le_trans (by omega : len ≤ len + (m - len)) (Nat.le_mul_of_pos_right _ hb0)
   unfold reachBytes at hwt
   omega
  have hD : ∀ i, i < len → Lgt e (D i) := fun i hi k hk => by
   refine hw k ?_
   simp only [DataW.weights, hT, List.mem_cons, List.mem_append]
   exact .inr (.inl (weightsAll_mem (List.mem_map.2 ⟨i, List.mem_range.2 hi, rfl⟩) k hk))
  obtain ⟨b, off, spot⟩ := a
  by_cases h0 : 0 < len
  ·have hspot : spot = none := by
    obtain ⟨cs', h1, _⟩ := hel 0 (by omega)
    obtain ⟨_, h2, h3⟩ := World.cells?_some h1
    have h4 := h3 0 hz0
    simp only [Nat.zero_mul, Addr.add, if_true] at h4
    have h5 : 0 < cs'.length := by omega
    rw [List.getElem?_eq_getElem h5] at h4
    simpa using World.cell?_spot h4
   subst hspot
   refine ⟨⟨some ⟨b, off, none⟩, len, m⟩, n, b, off, D, Pl, rfl, hlc, hlen, fun h => by simp at h, fun _ => rfl, fun i hi => ?_⟩
   obtain ⟨cs', h1, h2⟩ := hel i (by simp only at hi; omega)
   obtain ⟨_, h3, h4⟩ := World.cells?_some h1
   exact ⟨cs', h3, fun c hc => by have := h4 c hc; rw [Addr.add_lit, Addr.add_lit] at this; exact this, h2, hD i hi⟩
  ·exact ⟨⟨some ⟨b, off, spot⟩, len, m⟩, n, b, off, D, Pl, rfl, hlc, hlen, fun h => by simp at h, fun h => absurd h h0, fun i hi => absurd (Nat.lt_of_le_of_lt (Nat.zero_le _) hi) h0⟩

theorem w64_of {n : Int} (h : (Lit.int .i64 n).wf = true) : W64 n := by
 have := bounds_i64 h
 exact ⟨this.1, this.2⟩

theorem cells3 : Tryz.prog.cellsOf 3 = 1 := by kernel_rfl
theorem bytes3 : Tryz.prog.bytesOf 3 = 8 := by kernel_rfl

theorem open_intsV {fuel : Nat} {cs : List Value} {x : DataW H × List MemPlace} (h : rd enc w fuel 33 cs = some x) (hw : Lgt 33 x.1) :
  ∃ (s : Sl) (f : Nat → Int), cs = [.slice s.a s.n s.c] ∧ Ints w s f ∧ ∀ i, i < s.n → W64 (f i) := by
 obtain ⟨s, n, b, off, D, Pl, rfl, h1, h2, h3, h4, h5⟩ := open_row underlying33 cells3 (by decide) bytes3 (by decide) h hw
 obtain ⟨f, hf⟩ := choose_lt (α := Int) (n := s.n) (p := fun i v => w.cell? ⟨b, off + i, none⟩ = some (.int .i64 v) ∧ W64 v) (fun i hi => by
  obtain ⟨cs', c1, c2, c3, _⟩ := h5 i hi
  obtain ⟨v, rfl, _, hwf⟩ := DataW.trod_int underlying3 c3
  have := c2 0 (by decide)
  exact ⟨v, by simpa using this, w64_of hwf⟩)
 exact ⟨s, f, rfl, ⟨h1, h2, h3, fun h0 => ⟨b, off, h4 h0, fun i hi => (hf i hi).1⟩⟩, fun i hi => (hf i hi).2⟩

theorem cells43 : Tryz.prog.cellsOf 43 = 7 := by kernel_rfl
theorem bytes43 : Tryz.prog.bytesOf 43 = 88 := by kernel_rfl
theorem cells2 : Tryz.prog.cellsOf 2 = 1 := by kernel_rfl
theorem cells33 : Tryz.prog.cellsOf 33 = 1 := by kernel_rfl
theorem underlying2 : Tryz.prog.underlying 2 = some (.int .i64) := by kernel_rfl

theorem Lgt.part {t : Nat} {fs : Array Field} {parts : List (DataW H)} (hu : Tryz.prog.underlying t = some (.struct fs)) (h : Lgt t (.agg parts)) {i : Nat} {f : Field} {d : DataW H} (hf : fs.toList[i]? = some f) (hd : parts[i]? = some d) : Lgt f.type d := fun n hn => by
 refine h n ?_
 simp only [DataW.weights, hu]
 exact DataW.weights_mem_each (by rw [List.getElem?_map, hf]; rfl) hd n hn

theorem len1 {α : Type} {l : List α} (h : l.length = 1) : ∃ a, l = [a] := by
 match l, h with | [a], _ => exact ⟨a, rfl⟩
theorem len5 {α : Type} {l : List α} (h : l.length = 5) : ∃ a b c d e, l = [a, b, c, d, e] := by
 match l, h with | [a, b, c, d, e], _ => exact ⟨a, b, c, d, e, rfl⟩
theorem len7 {α : Type} {l : List α} (h : l.length = 7) : ∃ a b c d e f g, l = [a, b, c, d, e, f, g] := by
 match l, h with | [a, b, c, d, e, f, g], _ => exact ⟨a, b, c, d, e, f, g, rfl⟩

theorem open_insV {fuel : Nat} {cs : List Value} {x : DataW H × List MemPlace} (h : rd enc w fuel 43 cs = some x) (hw : Lgt 43 x.1) :
  ∃ (v : IV) (a j : Nat → Int), cs = v.cells.toList ∧ Ints w v.args a ∧ Ints w v.into j ∧ W64 v.op ∧ W64 v.ty ∧ W64 v.to ∧ W64 v.sym ∧ W64 v.num ∧ (∀ i, i < v.args.n → W64 (a i)) ∧ ∀ i, i < v.into.n → W64 (j i) := by
 obtain ⟨xs, n, _, rfl, hl, hx, hf⟩ := DataW.trod_struct Tryz.underlying43 h
 rw [cells43] at hl
 obtain ⟨c0, c1, c2, c3, c4, c5, c6, rfl⟩ := len7 hl
 obtain ⟨y0, y1, y2, y3, y4, y5, y6, rfl⟩ := len7 (show xs.length = 7 from hx)
 have f0 := hf 0 _ rfl
 have f1 := hf 1 _ rfl
 have f2 := hf 2 _ rfl
 have f3 := hf 3 _ rfl
 have f4 := hf 4 _ rfl
 have f5 := hf 5 _ rfl
 have f6 := hf 6 _ rfl
 have w5 : Lgt 33 y5.1 := Lgt.part Tryz.underlying43 hw (i := 5) rfl rfl
 have w6 : Lgt 33 y6.1 := Lgt.part Tryz.underlying43 hw (i := 6) rfl rfl
 simp [cells3, cells2, cells33] at f0 f1 f2 f3 f4 f5 f6
 obtain ⟨v0, e0, _, b0⟩ := DataW.trod_int underlying3 f0
 obtain ⟨v1, e1, _, b1⟩ := DataW.trod_int underlying3 f1
 obtain ⟨v2, e2, _, b2⟩ := DataW.trod_int underlying3 f2
 obtain ⟨v3, e3, _, b3⟩ := DataW.trod_int underlying3 f3
 obtain ⟨v4, e4, _, b4⟩ := DataW.trod_int underlying2 f4
 obtain ⟨sa, a, e5, i5, b5⟩ := open_intsV f5 w5
 obtain ⟨si, j, e6, i6, b6⟩ := open_intsV f6 w6
 simp at e0 e1 e2 e3 e4 e5 e6
 subst e0 e1 e2 e3 e4 e5 e6
 exact ⟨⟨v0, v1, v2, v3, v4, sa, si⟩, a, j, rfl, i5, i6, w64_of b0, w64_of b1, w64_of b2, w64_of b3, w64_of b4, b5, b6⟩

instance : Inhabited Sl := ⟨⟨none, 0, 0⟩⟩
instance : Inhabited IV := ⟨IV.zero⟩

theorem open_inss {fuel : Nat} {cs : List Value} {x : DataW H × List MemPlace} (h : rd enc w fuel 38 cs = some x) (hw : Lgt 38 x.1) :
  ∃ (s : Sl) (I : Nat → IV) (A J : Nat → Nat → Int), cs = [.slice s.a s.n s.c] ∧ Inss w s I ∧ ∀ k, k < s.n → Ints w (I k).args (A k) ∧ Ints w (I k).into (J k) ∧ W64 (I k).op ∧ W64 (I k).ty ∧ W64 (I k).to ∧ W64 (I k).sym ∧ W64 (I k).num ∧ (∀ i, i < (I k).args.n → W64 (A k i)) ∧ ∀ i, i < (I k).into.n → W64 (J k i) := by
 obtain ⟨s, n, b, off, D, Pl, rfl, h1, h2, h3, h4, h5⟩ := open_row underlying38 cells43 (by decide) bytes43 (by decide) h hw
 obtain ⟨f, hf⟩ := choose_lt (α := IV × (Nat → Int) × (Nat → Int)) (n := s.n) (p := fun i v => InsAt w b (off + i * 7) v.1 ∧ Ints w v.1.args v.2.1 ∧ Ints w v.1.into v.2.2 ∧ W64 v.1.op ∧ W64 v.1.ty ∧ W64 v.1.to ∧ W64 v.1.sym ∧ W64 v.1.num ∧ (∀ i, i < v.1.args.n → W64 (v.2.1 i)) ∧ ∀ i, i < v.1.into.n → W64 (v.2.2 i)) (fun i hi => by
  obtain ⟨cs', c1, c2, c3, c4⟩ := h5 i hi
  obtain ⟨v, a, j, rfl, hr⟩ := open_insV c3 c4
  exact ⟨(v, a, j), ⟨by simpa using c2 0 (by decide), c2 1 (by decide), c2 2 (by decide), c2 3 (by decide), c2 4 (by decide), c2 5 (by decide), c2 6 (by decide)⟩, hr⟩)
 exact ⟨s, fun k => (f k).1, fun k => (f k).2.1, fun k => (f k).2.2, rfl, ⟨h1, h2, h3, fun h0 => ⟨b, off, h4 h0, fun i hi => (hf i hi).1⟩⟩, fun k hk => (hf k hk).2⟩

theorem cells40 : Tryz.prog.cellsOf 40 = 1 := by kernel_rfl
theorem bytes40 : Tryz.prog.bytesOf 40 = 24 := by kernel_rfl
theorem cells38 : Tryz.prog.cellsOf 38 = 1 := by kernel_rfl
theorem cells36 : Tryz.prog.cellsOf 36 = 5 := by kernel_rfl
theorem cells34 : Tryz.prog.cellsOf 34 = 1 := by kernel_rfl
theorem cells9 : Tryz.prog.cellsOf 9 = 1 := by kernel_rfl
theorem cells4 : Tryz.prog.cellsOf 4 = 1 := by kernel_rfl

theorem open_blk {fuel : Nat} {cs : List Value} {x : DataW H × List MemPlace} (h : rd enc w fuel 40 cs = some x) (hw : Lgt 40 x.1) : ∃ n y, rd enc w n 38 cs = some y ∧ Lgt 38 y.1 := by
 obtain ⟨xs, n, _, rfl, hl, hx, hf⟩ := DataW.trod_struct Tryz.underlying40 h
 rw [cells40] at hl
 obtain ⟨c0, rfl⟩ := len1 hl
 obtain ⟨y0, rfl⟩ := len1 (show xs.length = 1 from hx)
 have f0 := hf 0 _ rfl
 have w0 : Lgt 38 y0.1 := Lgt.part Tryz.underlying40 hw (i := 0) rfl rfl
 simp [cells38] at f0
 exact ⟨n, y0, f0, w0⟩

structure Fits (F : FV) : Prop where
 res : W64 F.res
 par : ∀ i, i < F.par.n → W64 (F.P i)
 ins : ∀ j, j < F.blk.n → ∀ k, k < (F.B j).n → W64 (F.I j k).op ∧ W64 (F.I j k).ty ∧ W64 (F.I j k).to ∧ W64 (F.I j k).sym ∧ W64 (F.I j k).num
 args : ∀ j, j < F.blk.n → ∀ k, k < (F.B j).n → ∀ i, i < (F.I j k).args.n → W64 (F.A j k i)
 into : ∀ j, j < F.blk.n → ∀ k, k < (F.B j).n → ∀ i, i < (F.I j k).into.n → W64 (F.J j k i)

theorem open_func {fuel : Nat} {cs : List Value} {x : DataW H × List MemPlace} (h : rd enc w fuel 36 cs = some x) (hw : Lgt 36 x.1) :
  ∃ F : FV, cs = [.string F.name, .bool F.out, .slice F.par.a F.par.n F.par.c, .int .i64 F.res, .slice F.blk.a F.blk.n F.blk.c] ∧ In w F ∧ Fits F ∧ F.name.size ≤ maxLen := by
 obtain ⟨xs, n, _, rfl, hl, hx, hf⟩ := DataW.trod_struct Tryz.underlying36 h
 rw [cells36] at hl
 obtain ⟨c0, c1, c2, c3, c4, rfl⟩ := len5 hl
 obtain ⟨y0, y1, y2, y3, y4, rfl⟩ := len5 (show xs.length = 5 from hx)
 have f0 := hf 0 _ rfl
 have f1 := hf 1 _ rfl
 have f2 := hf 2 _ rfl
 have f3 := hf 3 _ rfl
 have f4 := hf 4 _ rfl
 have w2 : Lgt 33 y2.1 := Lgt.part Tryz.underlying36 hw (i := 2) rfl rfl
 have w4 : Lgt 34 y4.1 := Lgt.part Tryz.underlying36 hw (i := 4) rfl rfl
 simp [cells3, cells9, cells33, cells34, cells4] at f0 f1 f2 f3 f4
 obtain ⟨nm, e0, _, b0⟩ := DataW.trod_string Tryz.underlying9 f0
 obtain ⟨ou, e1, _⟩ := DataW.trod_bool Tryz.underlying4 f1
 obtain ⟨sp, P, e2, i2, b2⟩ := open_intsV f2 w2
 obtain ⟨re, e3, _, b3⟩ := DataW.trod_int underlying3 f3
 obtain ⟨sb, nb, b, off, D, Pl, e4, h1, h2, h3, h4, h5⟩ := open_row underlying34 cells40 (by decide) bytes40 (by decide) f4 w4
 simp at e0 e1 e2 e3 e4
 subst e0 e1 e2 e3 e4
 obtain ⟨f, hf⟩ := choose_lt (α := Sl × (Nat → IV) × (Nat → Nat → Int) × (Nat → Nat → Int)) (n := sb.n) (p := fun i v => w.cell? ⟨b, off + i, none⟩ = some (.slice v.1.a v.1.n v.1.c) ∧ Inss w v.1 v.2.1 ∧ ∀ k, k < v.1.n → Ints w (v.2.1 k).args (v.2.2.1 k) ∧ Ints w (v.2.1 k).into (v.2.2.2 k) ∧ W64 (v.2.1 k).op ∧ W64 (v.2.1 k).ty ∧ W64 (v.2.1 k).to ∧ W64 (v.2.1 k).sym ∧ W64 (v.2.1 k).num ∧ (∀ i, i < (v.2.1 k).args.n → W64 (v.2.2.1 k i)) ∧ ∀ i, i < (v.2.1 k).into.n → W64 (v.2.2.2 k i)) (fun i hi => by
  obtain ⟨cs', c1, c2, c3, c4⟩ := h5 i hi
  obtain ⟨m, y, d1, d2⟩ := open_blk c3 c4
  obtain ⟨s, I, A, J, rfl, hr⟩ := open_inss d1 d2
  exact ⟨(s, I, A, J), by simpa using c2 0 (by decide), hr⟩)
 refine ⟨⟨nm, ou, sp, re, sb, P, fun j => (f j).1, fun j => (f j).2.1, fun j => (f j).2.2.1, fun j => (f j).2.2.2⟩, rfl, ⟨i2, ⟨h1, h2, h3, fun h0 => ⟨b, off, h4 h0, fun i hi => (hf i hi).1⟩⟩, fun j hj => (hf j hj).2.1, fun j hj k hk => ((hf j hj).2.2 k hk).1, fun j hj k hk => ((hf j hj).2.2 k hk).2.1⟩, ⟨w64_of b3, b2, fun j hj k hk => ?_, fun j hj k hk => ?_, fun j hj k hk => ?_⟩, b0⟩
 ·obtain ⟨_, _, a1, a2, a3, a4, a5, _⟩ := (hf j hj).2.2 k hk
  exact ⟨a1, a2, a3, a4, a5⟩
 ·obtain ⟨_, _, _, _, _, _, _, a, _⟩ := (hf j hj).2.2 k hk
  exact a
 ·obtain ⟨_, _, _, _, _, _, _, _, a⟩ := (hf j hj).2.2 k hk
  exact a

end Go.Proofs.YtnodofbpogcheaaGreat.Opn

namespace Go.Proofs.YtnodofbpogcheaaGreat.Rd
open Go.RowKit View

set_option linter.unusedVariables false

def Ans (p : Bool → Prop) (w : World) (e : Ending) (w' : World) : Prop := ∃ r : Bool, e = .returned (.bool r) ∧ p r ∧ Below w.heap.size w w'

def Thin (F : FV) (j : Nat) : Prop := ∀ k, k < (F.B j).n → (F.I j k).args.n ≤ 20 ∧ (F.I j k).into.n ≤ 20

theorem light_of {F : FV} (h1 : F.name.size ≤ 40) (h2 : F.par.n ≤ 8) (h3 : F.blk.n ≤ 48) (h4 : cnt (fun j => (F.B j).n) F.blk.n ≤ 400) (h5 : ∀ j, j < F.blk.n → Thin F j) : Light F := by
 have key : ∀ m, cnt (fun j => (F.B j).n) m ≤ 400 → ∀ j, j < m → (F.B j).n ≤ 400 := by
  intro m
  induction m with
  | zero => intro _ j hj; omega
  | succ m ih =>
   intro hm j hj
   rw [cnt] at hm
   rcases Nat.lt_or_eq_of_le (Nat.le_of_lt_succ hj) with h | h
   ·exact ih (by omega) j h
   ·rw [h]; omega
 exact ⟨h4, h1, h2, h3, key _ h4, fun j hj k hk => (h5 j hj k hk).1, fun j hj k hk => (h5 j hj k hk).2⟩

set_option maxHeartbeats 1000000 in
theorem light_any (F : FV) (w : World) (hF : In w F) :
  Calls Tryz.prog 34 #[F.val] w fun e w' => Ans (fun r => r = true → Light F) w e w' := by
 by_cases g1 : (40 : Int) < F.name.size
 ·have d1 : decide ((40 : Int) < F.name.size) = true := by simpa using g1
  go_enter Tryz.func34, Tryz.ntmps34
  go_wp2
  go_ret
  exact ⟨false, rfl, by simp, new (same w) _⟩
 have d1 : decide ((40 : Int) < F.name.size) = false := by simpa using g1
 by_cases g2 : (8 : Int) < F.par.n
 ·have d2 : decide ((8 : Int) < F.par.n) = true := by simpa using g2
  go_enter Tryz.func34, Tryz.ntmps34
  go_wp2
  go_ret
  exact ⟨false, rfl, by simp, new (same w) _⟩
 have d2 : decide ((8 : Int) < F.par.n) = false := by simpa using g2
 by_cases g3 : (16 : Int) < F.blk.n
 ·have d3 : decide ((16 : Int) < F.blk.n) = true := by simpa using g3
  go_enter Tryz.func34, Tryz.ntmps34
  go_wp2
  go_ret
  exact ⟨false, rfl, by simp, new (same w) _⟩
 have d3 : decide ((16 : Int) < F.blk.n) = false := by simpa using g3
 go_enter Tryz.func34, Tryz.ntmps34
 go_wp2
 go_loop [3, 4] (fun s i => ∃ k : Nat, k ≤ F.blk.n ∧ i = .int .i64 k ∧ s = .int .i64 (cnt (fun j => (F.B j).n) k) ∧ cnt (fun j => (F.B j).n) k ≤ 90 ∧ ∀ j, j < k → Thin F j) (fun _ i => F.blk.n - (intOf i).toNat)
 case atStart => exact ⟨0, Nat.zero_le _, rfl, rfl, by simp [cnt], fun j hj => by omega⟩
 case round =>
  obtain ⟨k, hk, rfl, rfl, hle, hall⟩ := hrel
  have HA := hid hall
  clear hall
  by_cases hlt : k < F.blk.n
  ·obtain ⟨b, o, hix, hck⟩ := hF.blk.at hlt
   have hbl := World.block_lt_of_cell? _ _ hck
   have hin := hF.ins k hlt
   have q1 := hin.1
   have q2 := hin.2.1
   by_cases g5 : (90 : Int) < cnt (fun j => (F.B j).n) k + (F.B k).n
   ·go_wp2
    go_ret
    exact ⟨false, rfl, by simp, new (same w) _⟩
   go_wp2
   go_loop [5] (fun i => ∃ t : Nat, t ≤ (F.B k).n ∧ i = .int .i64 t ∧ ∀ i, i < t → (F.I k i).args.n ≤ 20 ∧ (F.I k i).into.n ≤ 20) (fun i => (F.B k).n - (intOf i).toNat)
   case atStart => exact ⟨0, Nat.zero_le _, rfl, fun j hj => by omega⟩
   case round =>
    obtain ⟨t, ht, rfl, hall⟩ := hrel
    have HB := hid hall
    clear hall
    by_cases htl : t < (F.B k).n
    ·obtain ⟨ib, io, hiy, c0, c1, c2, c3, c4, c5, c6⟩ := hin.at htl
     have hbl' := World.block_lt_of_cell? _ _ c5
     by_cases g6 : (20 : Int) < (F.I k t).args.n
     ·have d6 : decide ((20 : Int) < (F.I k t).args.n) = true := by simpa using g6
      go_wp2
      go_ret
      exact ⟨false, rfl, by simp, new (same w) _⟩
     have d6 : decide ((20 : Int) < (F.I k t).args.n) = false := by simpa using g6
     by_cases g7 : (20 : Int) < (F.I k t).into.n
     ·have d7 : decide ((20 : Int) < (F.I k t).into.n) = true := by simpa using g7
      go_wp2
      go_ret
      exact ⟨false, rfl, by simp, new (same w) _⟩
     have d7 : decide ((20 : Int) < (F.I k t).into.n) = false := by simpa using g7
     go_wp2
     go_round
     case rel => exact ⟨t + 1, by omega, by go_num, upto HB.out ⟨by omega, by omega⟩⟩
     case measure => simp [intOf]; omega
    ·obtain rfl : t = (F.B k).n := by omega
     go_wp2
     go_round
     case rel => exact ⟨k + 1, by omega, by go_num, by simp [cnt], by rw [cnt]; omega, upto HA.out HB.out⟩
     case measure => simp [intOf]; omega
  ·obtain rfl : k = F.blk.n := by omega
   go_wp2
   go_ret
   exact ⟨true, rfl, fun _ => light_of (by omega) (by omega) (by omega) (Nat.le_trans hle (by decide)) HA.out, new (same w) _⟩

end Go.Proofs.YtnodofbpogcheaaGreat.Rd
