/-
  RefC, CopyG, CopyE, CopyH: laid together.
-/
import Derived.Test.YtclioagemjpnoaaCopyF
import Derived.Test.YtclioagemjpnoaaOwn
import Derived.Maps.AppendAt
import Derived.Test.YtclioagemjpnoaaNeat
import Derived.Deep.RegionHeld3
import Derived.Deep.CutRange
/-
  Copies by the document: plnref3.CopyIns.
-/
namespace Go.Proofs.Ytclioagemjpnoaa.Copy
open Go.RowKit View Rd

set_option linter.unusedVariables false

/-- append([]int(nil), s...): a row of its own. -/
theorem append_copy {ops : Array Oper} {rest : List Oper} {o : Oper} {a : Act} {Q : Exit → Act → World → Prop} {w : World} (hgd : o.guard = none) (x : Operand)
    (ho : o.op = .call { callee := .builtin .append, args := #[.const (.slice none 0 0), x], argTypes := #[32, 32] })
    (s : Sl) (f : Nat → Int) (hx : a.eval x = .slice s.a s.n s.c) (hin : Ints w s f) (hn : s.n ≤ 1000)
    (h : ∀ (t : Sl) w', t.n = s.n → Ints w' t f → Mine w.heap.size w'.heap.size w' t → Below w.heap.size w w' → wpList Try.prog ops Q rest (a.put o.dst (.slice t.a t.n t.c)) w') : wpList Try.prog ops Q (o :: rest) a w := by
  refine append_in hgd (.const (.slice none 0 0)) x ho w.heap.size _ 0 [] rfl (World.ownsRow_nil _ _ _ _) s f hx hin (by omega) (Nat.le_refl _) ?_
  intro v1 w1 hown1 hgrow1
  simp only [Nat.zero_add, List.nil_append] at hown1
  obtain ⟨t, rfl, ht, hi, hm⟩ := ints_of_owns hown1 (by omega)
  exact h t w1 ht (Ints.congr hi (fun i h => getD_row f s.n i (by omega))) hm ((Below.refl _ w).grown hgrow1 (Nat.le_refl _) (fun k hk => by cases hk))

set_option maxHeartbeats 1000000 in
theorem copyIns_ref (v : IV) (a j : Nat → Int) (w : World) (ha : Ints w v.args a) (hj : Ints w v.into j) (h1 : v.args.n ≤ 1000) (h2 : v.into.n ≤ 1000) :
    Calls Try.prog 50 #[v.val] w fun e w' => ∃ sa si : Sl, e = .returned ({ v with args := sa, into := si } : IV).val ∧ Twin w.heap.size w'.heap.size w' sa si v a j ∧ Below w.heap.size w w' := by
  have HA := hid ha
  have HJ := hid hj
  clear ha hj
  go_enter Try.func50, Try.ntmps50
  go_wp2_with (at_builtin; first | (refine append_copy rfl (.tmp 4) rfl v.args a rfl (HA.out.on (new (new (same w) _) _)) h1 ?_; intro sa w1 hn1 hi1 hm1 hb1; have B1 : InsAt w1 w.heap.size 0 v := (((InsAt.alloc w v).on (new (same _) _)).on hb1); have D1 : InsAt w1 (w.heap.size + 1) 0 IV.zero := (by have := (InsAt.alloc (w.alloc (.cells v.cells 42)) IV.zero).on hb1; simpa using this); have F1 : ∀ i, w1.frozen? ⟨w.heap.size, i, none⟩ = false := (fun i => (by rw [hb1.frozen (by simp; omega)]; simp [World.frozen?_alloc_old])); have F1' : ∀ i, w1.frozen? ⟨w.heap.size + 1, i, none⟩ = false := (fun i => (by rw [hb1.frozen (by simp)]; simp)); have K1 := hid (more (new (new (same w) _) _) hb1); obtain ⟨c0, c1, c2, c3, c4, c5, c6⟩ := B1.head; have hm1' : Mine (w.heap.size + 2) w1.heap.size w1 sa := (by simpa using hm1); have Z1 := hid (show w.heap.size + 2 ≤ w1.heap.size by have := hb1.size; simp at this; omega); have M1 := hid (And.intro hn1 (And.intro hi1 hm1')); have HB1 := hid B1; have HD1 := hid D1; clear hn1 hi1 hm1 hm1' B1 D1 hb1) | (refine append_copy rfl (.tmp 8) rfl v.into j rfl (HJ.out.on (K1.out.setCell (p := ⟨w.heap.size, 5, none⟩) (Nat.le_refl _) (.slice sa.a sa.n sa.c))) h2 ?_; intro si w2 hn2 hi2 hm2 hb2; have B2 : InsAt w2 w.heap.size 0 { v with args := sa } := (InsAt.on hb2 (by have := HB1.out.set5 sa; simpa using this)); have D2 : InsAt w2 (w.heap.size + 1) 0 IV.zero := (InsAt.on hb2 (HD1.out.kept ((Kept.refl (fun k => k ≠ w.heap.size) w1).setCell (a := ⟨w.heap.size, 5, none⟩) (fun h => h rfl) _) (by show _ ≠ _; omega))); clear c0 c1 c2 c3 c4 c5 c6; obtain ⟨c0, c1, c2, c3, c4, c5, c6⟩ := B2.head; obtain ⟨d0, d1, d2, d3, d4, d5, d6⟩ := D2.head; have F2 : ∀ i, w2.frozen? ⟨w.heap.size, i, none⟩ = false := (fun i => (by rw [hb2.frozen (by have := Z1.out; simp; omega)]; simp [F1])); have F2' : ∀ i, w2.frozen? ⟨w.heap.size + 1, i, none⟩ = false := (fun i => (by rw [hb2.frozen (by have := Z1.out; simp; omega)]; simp [F1'])); have K3 := hid (more (K1.out.setCell (p := ⟨w.heap.size, 5, none⟩) (Nat.le_refl _) (.slice sa.a sa.n sa.c)) hb2); have M2 := hid (And.intro hn2 (And.intro hi2 hm2)); have H2 := hid hb2; clear hn2 hi2 hm2 B2 D2 hb2 F1 F1'))
  refine bodyPost_ret (v := ({ v with args := sa, into := si } : IV).val) (by rw [results_cell rfl]; go_simp) rfl ?_
  have Z2 : w1.heap.size ≤ w2.heap.size := by have := H2.out.size; simpa using this
  have z1 := Z1.out
  have KW : Kept (fun k => w.heap.size + 2 ≤ k) w1 (w1.setCell ⟨w.heap.size, 5, none⟩ (.slice sa.a sa.n sa.c)) := (Kept.refl _ _).setCell (by simp) _
  have a1 : Ints w2 sa a := Ints.on H2.out (M1.out.2.1.kept' M1.out.2.2 KW (fun b h _ => h))
  have a2 : Mine (w.heap.size + 2) w1.heap.size w2 sa := Mine.on H2.out (by simp) (M1.out.2.2.kept KW (fun b h _ => h))
  have j1 : Mine (w1.heap.size) w2.heap.size w2 si := by have := M2.out.2.2; simpa using this
  have KE : Kept (fun k => w.heap.size + 2 ≤ k) w2 ((((((((w2.setCell { block := w.heap.size, off := 6 } (.slice si.a si.n si.c)).setCell { block := w.heap.size + 1, off := 0 } (.int .i64 v.op)).setCell { block := w.heap.size + 1, off := 1 } (.int .i64 v.ty)).setCell { block := w.heap.size + 1, off := 2 } (.int .i64 v.to)).setCell { block := w.heap.size + 1, off := 3 } (.int .i64 v.sym)).setCell { block := w.heap.size + 1, off := 4 } (.int .i64 v.num)).setCell { block := w.heap.size + 1, off := 5 } (.slice sa.a sa.n sa.c)).setCell { block := w.heap.size + 1, off := 6 } (.slice si.a si.n si.c)) := by
    repeat (refine Kept.setCell ?_ (by simp) _)
    exact Kept.refl _ _
  refine ⟨sa, si, rfl, ⟨M1.out.1, M2.out.1, a1.kept' a2 KE (fun b h _ => h), M2.out.2.1.kept' j1 KE (fun b h _ => by omega), (a2.kept KE (fun b h _ => h)).wide (by omega) (by have := KE.size; omega), (j1.kept KE (fun b h _ => by omega)).wide (by omega) (by have := KE.size; omega), ?_⟩, ?_⟩
  · intro g g' h h' h0 h0'
    obtain ⟨g1, e1, _, e2, _⟩ := a2 h0
    have := (j1.ge g' 0 h' h0').1
    rw [h] at e1
    simp at e1
    omega
  · repeat (refine Below.setCell ?_ (by simp) _)
    exact K3.out

end Go.Proofs.Ytclioagemjpnoaa.Copy

/-
  A function copied by append: rows that grow; each in a block of its own. plnref3.CopyFunc, what it leaves.
-/
namespace Go.Proofs.Ytclioagemjpnoaa.Own
open Go.RowKit View Rd Copy Srt

set_option linter.unusedVariables false

abbrev slv (s : Sl) : Value := .slice s.a s.n s.c

def bk (s : Sl) : Option Nat := if 0 < s.n then some (blkOf s) else none

theorem bk_pos {s : Sl} (h : 0 < s.n) : bk s = some (blkOf s) := if_pos h

/-- What has been copied: the rows of the blocks below j, and those of j's first k. -/
def Dn (F : FV) (j k : Nat) : Id → Prop
  | .row a => a < j
  | .arg a t => (a < j ∧ t < (F.B a).n) ∨ (a = j ∧ t < k)
  | .int a t => (a < j ∧ t < (F.B a).n) ∨ (a = j ∧ t < k)

abbrev cpI (F : FV) (S : Id → Sl) (a t : Nat) : IV := { F.I a t with args := S (.arg a t), into := S (.int a t) }

def Cont (F : FV) (w : World) (S : Id → Sl) : Id → Prop
  | .row a => Inss w (S (.row a)) (cpI F S a)
  | .arg a t => Ints w (S (.arg a t)) (F.A a t)
  | .int a t => Ints w (S (.int a t)) (F.J a t)

structure Part (F : FV) (base : Nat) (X : Nat → Prop) (w : World) (j k : Nat) (v bv : Value) (sp : Sl) (S : Id → Sl) : Prop where
  len : ∀ x, Dn F j k x → (S x).n = (sl F x).n
  mine : ∀ x, Dn F j k x → Mine base w.heap.size w (S x)
  cont : ∀ x, Dn F j k x → Cont F w S x
  sep : ∀ x y, Dn F j k x → Dn F j k y → 0 < (S x).n → 0 < (S y).n → blkOf (S x) = blkOf (S y) → x = y
  cur : w.ownsRow base 42 7 v k (flat (cpI F S j) k)
  blks : w.ownsRow base 39 1 bv j ((List.range j).map (fun a => slv (S (.row a))))
  far : ∀ x, Dn F j k x → 0 < (S x).n → some (blkOf (S x)) ≠ v.ownBlock ∧ some (blkOf (S x)) ≠ bv.ownBlock ∧ some (blkOf (S x)) ≠ bk sp
  par : Ints w sp F.P
  pn : sp.n = F.par.n
  pm : Mine base w.heap.size w sp
  pfar : 0 < sp.n → some (blkOf sp) ≠ v.ownBlock ∧ some (blkOf sp) ≠ bv.ownBlock
  av : ∀ x, Dn F j k x → 0 < (S x).n → ¬ X (blkOf (S x))
  avv : ∀ g, v.ownBlock = some g → ¬ X g
  avb : ∀ g, bv.ownBlock = some g → ¬ X g
  avp : 0 < sp.n → ¬ X (blkOf sp)
  xl : ∀ g, X g → g < w.heap.size

theorem mine_blk {base : Nat} {w : World} {s : Sl} (h : Mine base w.heap.size w s) (h0 : 0 < s.n) : s.a = some ⟨blkOf s, 0, none⟩ ∧ base ≤ blkOf s ∧ blkOf s < w.heap.size ∧ ∀ i, w.frozen? ⟨blkOf s, i, none⟩ = false := by
  obtain ⟨g, h1, h2, h3, h4⟩ := h h0
  rw [blkOf_eq h1]
  exact ⟨h1, h2, h3, h4⟩

theorem two_kinds {w : World} {base base' z z' n n' e e' : Nat} {v v' : Value} {xs xs' : List Value} (hne : e ≠ e') (h : w.ownsRow base e z v n xs) (h' : w.ownsRow base' e' z' v' n' xs') : ∀ g, v.ownBlock = some g → v'.ownBlock ≠ some g := by
  intro g e1 e2
  rcases h.2 with ⟨rfl, _⟩ | ⟨g1, cap, cur, rfl, _, hg, _⟩
  · simp [Value.ownBlock] at e1
  · rcases h'.2 with ⟨rfl, _⟩ | ⟨g2, cap2, cur2, rfl, _, hg2, _⟩
    · simp [Value.ownBlock] at e2
    · simp [Value.ownBlock] at e1 e2
      subst e1
      subst e2
      rw [hg] at hg2
      simp at hg2
      exact hne hg2.2

/-- One row is kept. -/
theorem mine_kept {base : Nat} {w w' : World} {s : Sl} (h : Mine base w.heap.size w s) (hz : w.heap.size ≤ w'.heap.size) (hb : 0 < s.n → w'.heap[blkOf s]? = w.heap[blkOf s]?) : Mine base w'.heap.size w' s := fun h0 => by
  obtain ⟨h1, h2, h3, h4⟩ := mine_blk h h0
  exact ⟨_, h1, h2, by omega, fun i => by rw [World.frozen?_of_block (w := w) (hb h0)]; exact h4 i⟩

theorem ints_blk {base : Nat} {w w' : World} {s : Sl} {f : Nat → Int} (hm : Mine base w.heap.size w s) (h : Ints w s f) (hz : w.heap.size ≤ w'.heap.size) (hb : 0 < s.n → w'.heap[blkOf s]? = w.heap[blkOf s]?) : Ints w' s f := by
  by_cases h0 : 0 < s.n
  · obtain ⟨h1, _⟩ := mine_blk hm h0
    exact h.kept (p := fun k => k = blkOf s) ⟨hz, fun k hk => by subst hk; exact hb h0⟩ (fun b off e _ => adr_inj h1 e)
  · exact ⟨h.1, h.2.1, h.2.2.1, fun h => absurd h h0⟩

theorem inss_blk {base : Nat} {w w' : World} {s : Sl} {f : Nat → IV} (hm : Mine base w.heap.size w s) (h : Inss w s f) (hz : w.heap.size ≤ w'.heap.size) (hb : 0 < s.n → w'.heap[blkOf s]? = w.heap[blkOf s]?) : Inss w' s f := by
  by_cases h0 : 0 < s.n
  · obtain ⟨h1, _⟩ := mine_blk hm h0
    exact Inss_kept h (p := fun k => k = blkOf s) ⟨hz, fun k hk => by subst hk; exact hb h0⟩ (fun b off e _ => adr_inj h1 e)
  · exact ⟨h.1, h.2.1, h.2.2.1, fun h => absurd h h0⟩

/-- The blocks of what has been copied are as they were. -/
theorem Part.to {F : FV} {base : Nat} {X : Nat → Prop} {w w' : World} {j k : Nat} {v bv : Value} {sp : Sl} {S : Id → Sl} (h : Part F base X w j k v bv sp S) (hz : w.heap.size ≤ w'.heap.size) (hb : ∀ g, base ≤ g → g < w.heap.size → ¬ X g → w'.heap[g]? = w.heap[g]?) : Part F base X w' j k v bv sp S := by
  have hm : ∀ s : Sl, Mine base w.heap.size w s → (0 < s.n → ¬ X (blkOf s)) → 0 < s.n → w'.heap[blkOf s]? = w.heap[blkOf s]? := fun s m hx h0 => by
    obtain ⟨_, h2, h3, _⟩ := mine_blk m h0
    exact hb _ h2 h3 (hx h0)
  have ho : ∀ {e z n : Nat} {v : Value} {xs : List Value}, w.ownsRow base e z v n xs → (∀ g, v.ownBlock = some g → ¬ X g) → w'.ownsRow base e z v n xs := fun {e z n v xs} o hx => by
    refine ⟨o.1, ?_⟩
    rcases o.2 with q | ⟨g, cap, cur, h1, h2, h3, h4⟩
    · exact .inl q
    · exact .inr ⟨g, cap, cur, h1, h2, by rw [hb g h2 (Array.getElem?_eq_some_iff.1 h3).1 (hx g (by rw [h1]; rfl))]; exact h3, h4⟩
  refine ⟨h.len, fun x hx => mine_kept (h.mine x hx) hz (hm _ (h.mine x hx) (h.av x hx)), fun x hx => ?_, h.sep, ho h.cur h.avv, ho h.blks h.avb, h.far, ints_blk h.pm h.par hz (hm _ h.pm h.avp), h.pn, mine_kept h.pm hz (hm _ h.pm h.avp), h.pfar, h.av, h.avv, h.avb, h.avp, fun g hg => Nat.lt_of_lt_of_le (h.xl g hg) hz⟩
  have hc := h.cont x hx
  have hmx := h.mine x hx
  cases x with
  | row a => exact inss_blk hmx hc hz (hm _ hmx (h.av _ hx))
  | arg a t => exact ints_blk hmx hc hz (hm _ hmx (h.av _ hx))
  | int a t => exact ints_blk hmx hc hz (hm _ hmx (h.av _ hx))

theorem Part.on {F : FV} {base : Nat} {X : Nat → Prop} {w w' : World} {j k : Nat} {v bv : Value} {sp : Sl} {S : Id → Sl} (h : Part F base X w j k v bv sp S) (hb : Below w.heap.size w w') : Part F base X w' j k v bv sp S :=
  h.to hb.size (fun g _ h2 _ => hb.block g h2)

/-- A block that is none of the rows is written. -/
theorem Part.write {F : FV} {base : Nat} {X : Nat → Prop} {w : World} {j k : Nat} {v bv : Value} {sp : Sl} {S : Id → Sl} (h : Part F base X w j k v bv sp S) {a : Addr} (ha : X a.block) (u : Value) : Part F base X (w.setCell a u) j k v bv sp S :=
  h.to (by simp) (fun g _ _ hx => Below.heap_setCell _ _ _ _ (fun e => hx (e ▸ ha)))

/-- A new block is none of the rows. -/
theorem Part.alloc {F : FV} {base : Nat} {X : Nat → Prop} {w : World} {j k : Nat} {v bv : Value} {sp : Sl} {S : Id → Sl} (h : Part F base X w j k v bv sp S) (o : Obj) : Part F base (fun g => X g ∨ g = w.heap.size) (w.alloc o) j k v bv sp S := by
  have q := h.on (new (same w) o)
  exact ⟨q.len, q.mine, q.cont, q.sep, q.cur, q.blks, q.far, q.par, q.pn, q.pm, q.pfar, fun x hx h0 e => e.elim (q.av x hx h0) (fun e => by have := (mine_blk (h.mine x hx) h0).2.2.1; omega), fun g hg e => e.elim (q.avv g hg) (fun e => by have := (h.cur.lt g hg).2; omega), fun g hg e => e.elim (q.avb g hg) (fun e => by have := (h.blks.lt g hg).2; omega), fun h0 e => e.elim (q.avp h0) (fun e => by have := (mine_blk h.pm h0).2.2.1; omega), fun g hg => hg.elim (q.xl g) (fun e => by simp; omega)⟩

theorem Part.less {F : FV} {base : Nat} {X Y : Nat → Prop} {w : World} {j k : Nat} {v bv : Value} {sp : Sl} {S : Id → Sl} (h : Part F base X w j k v bv sp S) (hy : ∀ g, Y g → X g) : Part F base Y w j k v bv sp S :=
  ⟨h.len, h.mine, h.cont, h.sep, h.cur, h.blks, h.far, h.par, h.pn, h.pm, h.pfar, fun x hx h0 e => h.av x hx h0 (hy _ e), fun g hg e => h.avv g hg (hy _ e), fun g hg e => h.avb g hg (hy _ e), fun h0 e => h.avp h0 (hy _ e), fun g hg => h.xl g (hy g hg)⟩

def setS (S : Id → Sl) (j k : Nat) (ta ti : Sl) : Id → Sl
  | .row a => S (.row a)
  | .arg a t => if a = j ∧ t = k then ta else S (.arg a t)
  | .int a t => if a = j ∧ t = k then ti else S (.int a t)

/-- One more is copied, and laid behind the others. -/
theorem Part.step {F : FV} {base : Nat} {X : Nat → Prop} {w w2 w4 : World} {j k : Nat} {v v' bv : Value} {sp : Sl} {S : Id → Sl} (h : Part F base X w j k v bv sp S) {ta ti : Sl} (hb2 : Below w.heap.size w w2)
    (tw : Copy.Twin w.heap.size w2.heap.size w2 ta ti (F.I j k) (F.A j k) (F.J j k)) (hbase : base ≤ w.heap.size)
    (own4 : w4.ownsRow base 42 7 v' (k + 1) (flat (cpI F S j) k ++ ({ F.I j k with args := ta, into := ti } : IV).cells.toList))
    (gr : (w2.alloc (.cells ({ F.I j k with args := ta, into := ti } : IV).cells 42)).grownBy w4 v.ownBlock)
    (hat : v'.ownBlock = v.ownBlock ∨ v'.ownBlock = some (w2.heap.size + 1)) : Part F base X w4 j (k + 1) v' bv sp (setS S j k ta ti) := by
  have z2 := hb2.size
  have z4 := gr.size
  simp only [World.size_alloc] at z4
  have hvl := h.cur.lt
  have hbl := h.blks.lt
  have kinds := two_kinds (by decide) h.cur h.blks
  -- blocks that are not v's are as they were in w2
  have hb4 : ∀ g, g < w2.heap.size → some g ≠ v.ownBlock → w4.heap[g]? = w2.heap[g]? := fun g hg hne => by
    rw [gr.block g (by simp; omega) hne, Below.heap_alloc _ _ _ hg]
  have hbw : ∀ g, g < w.heap.size → some g ≠ v.ownBlock → w4.heap[g]? = w.heap[g]? := fun g hg hne => by rw [hb4 g (by omega) hne, hb2.block g hg]
  have oldD : ∀ x, Dn F j (k + 1) x → x ≠ .arg j k → x ≠ .int j k → Dn F j k x ∧ setS S j k ta ti x = S x := by
    intro x hx n1 n2
    cases x with
    | row a => exact ⟨hx, rfl⟩
    | arg a t =>
      have hne : ¬ (a = j ∧ t = k) := fun e => n1 (by rw [e.1, e.2])
      refine ⟨?_, if_neg hne⟩
      rcases hx with h' | ⟨h1, h2⟩
      · exact .inl h'
      · exact .inr ⟨h1, by have : t ≠ k := fun e => hne ⟨h1, e⟩; omega⟩
    | int a t =>
      have hne : ¬ (a = j ∧ t = k) := fun e => n2 (by rw [e.1, e.2])
      refine ⟨?_, if_neg hne⟩
      rcases hx with h' | ⟨h1, h2⟩
      · exact .inl h'
      · exact .inr ⟨h1, by have : t ≠ k := fun e => hne ⟨h1, e⟩; omega⟩
  have sA : setS S j k ta ti (.arg j k) = ta := if_pos ⟨rfl, rfl⟩
  have sI : setS S j k ta ti (.int j k) = ti := if_pos ⟨rfl, rfl⟩
  have newA : 0 < ta.n → ∃ g, ta.a = some ⟨g, 0, none⟩ ∧ blkOf ta = g ∧ w.heap.size ≤ g ∧ g < w2.heap.size ∧ ∀ i, w2.frozen? ⟨g, i, none⟩ = false := fun h0 => by
    obtain ⟨g, a1, a2, a3, a4⟩ := tw.ma h0
    exact ⟨g, a1, blkOf_eq a1, a2, a3, a4⟩
  have newI : 0 < ti.n → ∃ g, ti.a = some ⟨g, 0, none⟩ ∧ blkOf ti = g ∧ w.heap.size ≤ g ∧ g < w2.heap.size ∧ ∀ i, w2.frozen? ⟨g, i, none⟩ = false := fun h0 => by
    obtain ⟨g, a1, a2, a3, a4⟩ := tw.mj h0
    exact ⟨g, a1, blkOf_eq a1, a2, a3, a4⟩
  have nv : ∀ g, w.heap.size ≤ g → some g ≠ v.ownBlock := fun g hg e => by have := (hvl g e.symm).2; omega
  have nb : ∀ g, w.heap.size ≤ g → some g ≠ bv.ownBlock := fun g hg e => by have := (hbl g e.symm).2; omega
  have np : ∀ g, w.heap.size ≤ g → some g ≠ bk sp := fun g hg e => by
    unfold bk at e
    split at e
    · next h0 => have := (mine_blk h.pm h0).2.2.1; have := Option.some.inj e; omega
    · cases e
  have nv' : ∀ g, g < w2.heap.size → some g ≠ v.ownBlock → some g ≠ v'.ownBlock := fun g hg hne e => by
    rcases hat with h' | h'
    · rw [h'] at e; exact hne e
    · rw [h'] at e; have := Option.some.inj e; omega
  have mA : Mine base w4.heap.size w4 ta := fun h0 => by
    obtain ⟨g, a1, a2, a3, a4, a5⟩ := newA h0
    exact ⟨g, a1, by omega, by omega, fun i => by rw [World.frozen?_of_block (w := w2) (hb4 g a4 (nv g a3))]; exact a5 i⟩
  have mI : Mine base w4.heap.size w4 ti := fun h0 => by
    obtain ⟨g, a1, a2, a3, a4, a5⟩ := newI h0
    exact ⟨g, a1, by omega, by omega, fun i => by rw [World.frozen?_of_block (w := w2) (hb4 g a4 (nv g a3))]; exact a5 i⟩
  have iA : Ints w4 ta (F.A j k) := tw.args.kept (p := fun g => g < w2.heap.size ∧ w.heap.size ≤ g) ⟨by omega, fun g hg => hb4 g hg.1 (nv g hg.2)⟩ (fun b off e h0 => by
    obtain ⟨g, a1, a2, a3, a4, _⟩ := newA h0
    rw [adr_inj a1 e]; exact ⟨a4, a3⟩)
  have iI : Ints w4 ti (F.J j k) := tw.into.kept (p := fun g => g < w2.heap.size ∧ w.heap.size ≤ g) ⟨by omega, fun g hg => hb4 g hg.1 (nv g hg.2)⟩ (fun b off e h0 => by
    obtain ⟨g, a1, a2, a3, a4, _⟩ := newI h0
    rw [adr_inj a1 e]; exact ⟨a4, a3⟩)
  have blkw : ∀ x, Dn F j k x → 0 < (S x).n → blkOf (S x) < w.heap.size := fun x hx h0 => (mine_blk (h.mine x hx) h0).2.2.1
  have keepX : ∀ x, Dn F j k x → 0 < (S x).n → w4.heap[blkOf (S x)]? = w.heap[blkOf (S x)]? := fun x hx h0 => hbw _ (blkw x hx h0) (h.far x hx h0).1
  have xw : ∀ g, w.heap.size ≤ g → ¬ X g := fun g hg e => by have := h.xl g e; omega
  refine ⟨fun x hx => ?_, fun x hx => ?_, fun x hx => ?_, fun x y hx hy h0 h0' e => ?_, ?_, ?_, fun x hx h0 => ?_, ?_, h.pn, ?_, fun h0 => ?_, fun x hx h0 => ?_, fun g hg => ?_, h.avb, h.avp, fun g hg => by have := h.xl g hg; omega⟩
  · by_cases e1 : x = .arg j k
    · rw [e1, sA]; exact tw.an
    · by_cases e2 : x = .int j k
      · rw [e2, sI]; exact tw.jn
      · obtain ⟨d, s⟩ := oldD x hx e1 e2
        rw [s]; exact h.len x d
  · by_cases e1 : x = .arg j k
    · rw [e1, sA]; exact mA
    · by_cases e2 : x = .int j k
      · rw [e2, sI]; exact mI
      · obtain ⟨d, s⟩ := oldD x hx e1 e2
        rw [s]; exact mine_kept (h.mine x d) (by omega) (keepX x d)
  · by_cases e1 : x = .arg j k
    · subst e1; show Ints w4 (setS S j k ta ti (.arg j k)) _; rw [sA]; exact iA
    · by_cases e2 : x = .int j k
      · subst e2; show Ints w4 (setS S j k ta ti (.int j k)) _; rw [sI]; exact iI
      · obtain ⟨d, s⟩ := oldD x hx e1 e2
        have hc := h.cont x d
        have hm := h.mine x d
        cases x with
        | row a =>
          have ha : a < j := d
          have : Inss w4 (S (.row a)) (cpI F S a) := inss_blk hm hc (by omega) (keepX _ d)
          have ef : cpI F (setS S j k ta ti) a = cpI F S a := by
            funext t
            show ({ F.I a t with args := if a = j ∧ t = k then ta else _, into := if a = j ∧ t = k then ti else _ } : IV) = _
            rw [if_neg (by omega), if_neg (by omega)]
          show Inss w4 (S (.row a)) (cpI F (setS S j k ta ti) a)
          rw [ef]; exact this
        | arg a t => show Ints w4 (setS S j k ta ti (.arg a t)) _; rw [s]; exact ints_blk hm hc (by omega) (keepX _ d)
        | int a t => show Ints w4 (setS S j k ta ti (.int a t)) _; rw [s]; exact ints_blk hm hc (by omega) (keepX _ d)
  · have old : ∀ z, Dn F j (k + 1) z → z ≠ .arg j k → z ≠ .int j k → 0 < (setS S j k ta ti z).n → blkOf (setS S j k ta ti z) < w.heap.size := fun z hz n1 n2 hp => by
      obtain ⟨d, s⟩ := oldD z hz n1 n2
      rw [s] at hp ⊢; exact blkw z d hp
    have newge : ∀ z, z = .arg j k ∨ z = .int j k → 0 < (setS S j k ta ti z).n → w.heap.size ≤ blkOf (setS S j k ta ti z) := fun z hz hp => by
      rcases hz with rfl | rfl
      · rw [sA] at hp ⊢; obtain ⟨g, _, a2, a3, _⟩ := newA hp; omega
      · rw [sI] at hp ⊢; obtain ⟨g, _, a2, a3, _⟩ := newI hp; omega
    by_cases x1 : x = .arg j k
    · by_cases y1 : y = .arg j k
      · rw [x1, y1]
      · by_cases y2 : y = .int j k
        · exfalso
          subst x1 y2
          rw [sA, sI] at e; rw [sA] at h0; rw [sI] at h0'
          obtain ⟨g, a1, a2, _⟩ := newA h0
          obtain ⟨g', b1, b2, _⟩ := newI h0'
          have := tw.ord g g' a1 b1 h0 h0'
          omega
        · have := old y hy y1 y2 h0'; have := newge x (.inl x1) h0; omega
    · by_cases x2 : x = .int j k
      · by_cases y1 : y = .arg j k
        · exfalso
          subst x2 y1
          rw [sA, sI] at e; rw [sI] at h0; rw [sA] at h0'
          obtain ⟨g, a1, a2, _⟩ := newA h0'
          obtain ⟨g', b1, b2, _⟩ := newI h0
          have := tw.ord g g' a1 b1 h0' h0
          omega
        · by_cases y2 : y = .int j k
          · rw [x2, y2]
          · have := old y hy y1 y2 h0'; have := newge x (.inr x2) h0; omega
      · by_cases y1 : y = .arg j k
        · have := old x hx x1 x2 h0; have := newge y (.inl y1) h0'; omega
        · by_cases y2 : y = .int j k
          · have := old x hx x1 x2 h0; have := newge y (.inr y2) h0'; omega
          · obtain ⟨d, s⟩ := oldD x hx x1 x2
            obtain ⟨d', s'⟩ := oldD y hy y1 y2
            rw [s] at h0 e; rw [s'] at h0' e
            exact h.sep x y d d' h0 h0' e
  · have ef : flat (cpI F (setS S j k ta ti) j) (k + 1) = flat (cpI F S j) k ++ ({ F.I j k with args := ta, into := ti } : IV).cells.toList := by
      rw [flat, flat_congr (g := cpI F S j) (fun t ht => by
        show ({ F.I j t with args := if j = j ∧ t = k then ta else _, into := if j = j ∧ t = k then ti else _ } : IV) = _
        rw [if_neg (by omega), if_neg (by omega)])]
      have e2 : cpI F (setS S j k ta ti) j k = ({ F.I j k with args := ta, into := ti } : IV) := by
        show ({ F.I j k with args := if j = j ∧ k = k then ta else _, into := if j = j ∧ k = k then ti else _ } : IV) = _
        rw [if_pos ⟨rfl, rfl⟩, if_pos ⟨rfl, rfl⟩]
      rw [e2]
    rw [ef]; exact own4
  · refine ⟨h.blks.1, ?_⟩
    rcases h.blks.2 with q | ⟨g, cap, cur, h1, h2, h3, h4⟩
    · exact .inl q
    · refine .inr ⟨g, cap, cur, h1, h2, ?_, h4⟩
      have hgb : bv.ownBlock = some g := by rw [h1]; rfl
      rw [hbw g (hbl g hgb).2 (fun e => kinds g e.symm hgb)]; exact h3
  · by_cases e1 : x = .arg j k
    · subst e1; rw [sA] at h0 ⊢
      obtain ⟨g, _, a2, a3, a4, _⟩ := newA h0
      rw [a2]; exact ⟨nv' g a4 (nv g a3), nb g a3, np g a3⟩
    · by_cases e2 : x = .int j k
      · subst e2; rw [sI] at h0 ⊢
        obtain ⟨g, _, a2, a3, a4, _⟩ := newI h0
        rw [a2]; exact ⟨nv' g a4 (nv g a3), nb g a3, np g a3⟩
      · obtain ⟨d, s⟩ := oldD x hx e1 e2
        rw [s] at h0 ⊢
        obtain ⟨q1, q2, q3⟩ := h.far x d h0
        exact ⟨nv' _ (by have := blkw x d h0; omega) q1, q2, q3⟩
  · exact ints_blk h.pm h.par (by omega) (fun h0 => hbw _ (mine_blk h.pm h0).2.2.1 (h.pfar h0).1)
  · exact mine_kept h.pm (by omega) (fun h0 => hbw _ (mine_blk h.pm h0).2.2.1 (h.pfar h0).1)
  · exact ⟨nv' _ (by have := (mine_blk h.pm h0).2.2.1; omega) (h.pfar h0).1, (h.pfar h0).2⟩
  · by_cases e1 : x = .arg j k
    · subst e1; rw [sA] at h0 ⊢
      obtain ⟨g, _, a2, a3, _⟩ := newA h0
      rw [a2]; exact xw g a3
    · by_cases e2 : x = .int j k
      · subst e2; rw [sI] at h0 ⊢
        obtain ⟨g, _, a2, a3, _⟩ := newI h0
        rw [a2]; exact xw g a3
      · obtain ⟨d, s⟩ := oldD x hx e1 e2
        rw [s] at h0 ⊢; exact h.av x d h0
  · rcases hat with h' | h'
    · exact h.avv g (by rw [← h']; exact hg)
    · rw [h'] at hg; have := Option.some.inj hg; exact xw g (by omega)

/-- What a row of instructions that was built by append is. -/
theorem inss_of_owns {w : World} {base : Nat} {v : Value} {k : Nat} {f : Nat → IV} (h : w.ownsRow base 42 7 v k (flat f k)) (hk : k ≤ 1000) :
    ∃ s : Sl, v = slv s ∧ s.n = k ∧ Inss w s f ∧ Mine base w.heap.size w s ∧ (0 < s.n → v.ownBlock = some (blkOf s)) := by
  rcases h.2 with ⟨rfl, rfl⟩ | ⟨g, cap, cur, rfl, hb, hg, hnc, hm, hs, ht⟩
  · exact ⟨⟨none, 0, 0⟩, rfl, rfl, ⟨Nat.le_refl _, Nat.zero_le _, fun _ => rfl, fun h => absurd h (by simp)⟩, fun h => absurd h (by simp), fun h => absurd h (by simp)⟩
  · have hlt : g < w.heap.size := (Array.getElem?_eq_some_iff.1 hg).1
    refine ⟨⟨some ⟨g, 0, none⟩, k, cap⟩, rfl, rfl, ⟨hnc, by show k ≤ _; omega, fun e => by simp at e, fun h0 => ⟨g, 0, rfl, fun i hi => ?_⟩⟩, fun h0 => ⟨g, rfl, hb, hlt, fun i => by simp [World.frozen?, hg]⟩, fun _ => rfl⟩
    simp only at hi
    have key : ∀ c, c < 7 → w.cell? ⟨g, 0 + i * 7 + c, none⟩ = (f i).cells.toList[c]? := by
      intro c hc
      rw [Nat.zero_add, h.cellAt (i * 7 + c) (by omega), flat_at _ _ _ _ hi hc]
    exact ⟨by simpa using key 0 (by omega), key 1 (by omega), key 2 (by omega), key 3 (by omega), key 4 (by omega), key 5 (by omega), key 6 (by omega)⟩

def setR (S : Id → Sl) (j : Nat) (vs : Sl) : Id → Sl
  | .row a => if a = j then vs else S (.row a)
  | .arg a t => S (.arg a t)
  | .int a t => S (.int a t)

/-- A row is whole, and laid behind the others. -/
theorem Part.next {F : FV} {base : Nat} {X : Nat → Prop} {w w5 : World} {j : Nat} {vs : Sl} {bv bv' : Value} {sp : Sl} {S : Id → Sl} (h : Part F base X w j (F.B j).n (slv vs) bv sp S) (hn90 : (F.B j).n ≤ 1000)
    (own5 : w5.ownsRow base 39 1 bv' (j + 1) ((List.range j).map (fun a => slv (S (.row a))) ++ [slv vs]))
    (gr : (w.alloc (.cells #[slv vs] 39)).grownBy w5 bv.ownBlock) (hat : bv'.ownBlock = bv.ownBlock ∨ bv'.ownBlock = some (w.heap.size + 1)) :
    Part F base X w5 (j + 1) 0 (.slice none 0 0) bv' sp (setR S j vs) := by
  obtain ⟨vs', e, hvn, hvi, hvm, hvb⟩ := inss_of_owns h.cur hn90
  obtain rfl : vs = vs' := by
    have h1 : vs.a = vs'.a ∧ vs.n = vs'.n ∧ vs.c = vs'.c := by simpa [slv] using e
    cases vs; cases vs'; simp at h1; simp [h1]
  have z5 := gr.size
  simp only [World.size_alloc] at z5
  have hbl := h.blks.lt
  have hvl := h.cur.lt
  have kinds := two_kinds (by decide) h.cur h.blks
  have hbw : ∀ g, g < w.heap.size → some g ≠ bv.ownBlock → w5.heap[g]? = w.heap[g]? := fun g hg hne => by
    rw [gr.block g (by simp; omega) hne, Below.heap_alloc _ _ _ hg]
  have nb' : ∀ g, g < w.heap.size → some g ≠ bv.ownBlock → some g ≠ bv'.ownBlock := fun g hg hne e => by
    rcases hat with h' | h'
    · rw [h'] at e; exact hne e
    · rw [h'] at e; have := Option.some.inj e; omega
  have oldD : ∀ x, Dn F (j + 1) 0 x → x ≠ .row j → Dn F j (F.B j).n x ∧ setR S j vs x = S x := by
    intro x hx hne
    cases x with
    | row a =>
      have ha : a < j + 1 := hx
      have hn : a ≠ j := fun e => hne (by rw [e])
      exact ⟨show a < j by omega, if_neg hn⟩
    | arg a t =>
      refine ⟨?_, rfl⟩
      rcases hx with ⟨h1, h2⟩ | ⟨_, h2⟩
      · by_cases e : a = j
        · subst e; exact .inr ⟨rfl, h2⟩
        · exact .inl ⟨by omega, h2⟩
      · omega
    | int a t =>
      refine ⟨?_, rfl⟩
      rcases hx with ⟨h1, h2⟩ | ⟨_, h2⟩
      · by_cases e : a = j
        · subst e; exact .inr ⟨rfl, h2⟩
        · exact .inl ⟨by omega, h2⟩
      · omega
  have sR : setR S j vs (.row j) = vs := if_pos rfl
  have vblk : 0 < vs.n → blkOf vs < w.heap.size ∧ some (blkOf vs) ≠ bv.ownBlock := fun h0 => ⟨(mine_blk hvm h0).2.2.1, fun e => kinds _ (hvb h0) e.symm⟩
  have blkw : ∀ x, Dn F j (F.B j).n x → 0 < (S x).n → blkOf (S x) < w.heap.size := fun x hx h0 => (mine_blk (h.mine x hx) h0).2.2.1
  have keepX : ∀ x, Dn F j (F.B j).n x → 0 < (S x).n → w5.heap[blkOf (S x)]? = w.heap[blkOf (S x)]? := fun x hx h0 => hbw _ (blkw x hx h0) (h.far x hx h0).2.1
  have ecp : ∀ a, cpI F (setR S j vs) a = cpI F S a := fun a => rfl
  have xw : ∀ g, w.heap.size ≤ g → ¬ X g := fun g hg e => by have := h.xl g e; omega
  refine ⟨fun x hx => ?_, fun x hx => ?_, fun x hx => ?_, fun x y hx hy h0 h0' e => ?_, World.ownsRow_nil _ _ _ _, ?_, fun x hx h0 => ?_, ?_, h.pn, ?_, fun h0 => ?_, fun x hx h0 => ?_, fun g hg => (by simp [Value.ownBlock] at hg), fun g hg => ?_, h.avp, fun g hg => by have := h.xl g hg; omega⟩
  · by_cases e1 : x = .row j
    · rw [e1, sR]; exact hvn
    · obtain ⟨d, s⟩ := oldD x hx e1
      rw [s]; exact h.len x d
  · by_cases e1 : x = .row j
    · rw [e1, sR]; exact mine_kept hvm (by omega) (fun h0 => hbw _ (vblk h0).1 (vblk h0).2)
    · obtain ⟨d, s⟩ := oldD x hx e1
      rw [s]; exact mine_kept (h.mine x d) (by omega) (keepX x d)
  · by_cases e1 : x = .row j
    · subst e1
      show Inss w5 (setR S j vs (.row j)) (cpI F (setR S j vs) j)
      rw [sR, ecp]
      exact inss_blk hvm hvi (by omega) (fun h0 => hbw _ (vblk h0).1 (vblk h0).2)
    · obtain ⟨d, s⟩ := oldD x hx e1
      have hc := h.cont x d
      have hm := h.mine x d
      cases x with
      | row a =>
        show Inss w5 (setR S j vs (.row a)) (cpI F (setR S j vs) a)
        rw [s, ecp]; exact inss_blk hm hc (by omega) (keepX _ d)
      | arg a t => exact ints_blk hm hc (by omega) (keepX _ d)
      | int a t => exact ints_blk hm hc (by omega) (keepX _ d)
  · by_cases x1 : x = .row j
    · by_cases y1 : y = .row j
      · rw [x1, y1]
      · exfalso
        subst x1
        obtain ⟨d', s'⟩ := oldD y hy y1
        rw [sR] at h0 e; rw [s'] at h0' e
        exact (h.far y d' h0').1 (by rw [hvb h0, e])
    · by_cases y1 : y = .row j
      · exfalso
        subst y1
        obtain ⟨d, s⟩ := oldD x hx x1
        rw [sR] at h0' e; rw [s] at h0 e
        exact (h.far x d h0).1 (by rw [hvb h0', e])
      · obtain ⟨d, s⟩ := oldD x hx x1
        obtain ⟨d', s'⟩ := oldD y hy y1
        rw [s] at h0 e; rw [s'] at h0' e
        exact h.sep x y d d' h0 h0' e
  · have el : (List.range (j + 1)).map (fun a => slv (setR S j vs (.row a))) = (List.range j).map (fun a => slv (S (.row a))) ++ [slv vs] := by
      rw [List.range_succ, List.map_append]
      congr 1
      · refine List.map_congr_left (fun a ha => ?_)
        have : a < j := List.mem_range.1 ha
        show slv (if a = j then vs else S (.row a)) = _
        rw [if_neg (by omega)]
      · simp [setR]
    rw [el]; exact own5
  · by_cases e1 : x = .row j
    · subst e1; rw [sR] at h0 ⊢
      refine ⟨by simp [Value.ownBlock], nb' _ (vblk h0).1 (vblk h0).2, fun e => ?_⟩
      unfold bk at e
      split at e
      · next hp => exact (h.pfar hp).1 (by rw [hvb h0]; exact e.symm)
      · cases e
    · obtain ⟨d, s⟩ := oldD x hx e1
      rw [s] at h0 ⊢
      obtain ⟨q1, q2, q3⟩ := h.far x d h0
      exact ⟨by simp [Value.ownBlock], nb' _ (blkw x d h0) q2, q3⟩
  · exact ints_blk h.pm h.par (by omega) (fun h0 => hbw _ (mine_blk h.pm h0).2.2.1 (h.pfar h0).2)
  · exact mine_kept h.pm (by omega) (fun h0 => hbw _ (mine_blk h.pm h0).2.2.1 (h.pfar h0).2)
  · exact ⟨by simp [Value.ownBlock], nb' _ (mine_blk h.pm h0).2.2.1 (h.pfar h0).2⟩
  · by_cases e1 : x = .row j
    · subst e1; rw [sR] at h0 ⊢; exact h.avv _ (hvb h0)
    · obtain ⟨d, s⟩ := oldD x hx e1
      rw [s] at h0 ⊢; exact h.av x d h0
  · rcases hat with h' | h'
    · exact h.avb g (by rw [← h']; exact hg)
    · rw [h'] at hg; have := Option.some.inj hg; exact xw g (by omega)

theorem cnt_eq {f g : Nat → Nat} : ∀ {k : Nat}, (∀ t, t < k → f t = g t) → cnt f k = cnt g k
  | 0, _ => rfl
  | k + 1, h => by rw [cnt, cnt, cnt_eq (fun t ht => h t (by omega)), h k (by omega)]

/-- The copy. -/
def cpF (F : FV) (sp bs : Sl) (S : Id → Sl) : FV := { F with par := sp, blk := bs, B := fun j => S (.row j), I := cpI F S }

theorem sl_cpF (F : FV) (sp bs : Sl) (S : Id → Sl) (x : Id) : sl (cpF F sp bs S) x = S x := by cases x <;> rfl

theorem sls_of_owns {w : World} {base : Nat} {v : Value} {k : Nat} {f : Nat → Sl} (h : w.ownsRow base 39 1 v k ((List.range k).map (fun a => slv (f a)))) (hk : k ≤ 1000) :
    ∃ s : Sl, v = slv s ∧ s.n = k ∧ Sls w s f ∧ Mine base w.heap.size w s ∧ (0 < s.n → v.ownBlock = some (blkOf s)) := by
  rcases h.2 with ⟨rfl, rfl⟩ | ⟨g, cap, cur, rfl, hb, hg, hnc, hm, hs, ht⟩
  · exact ⟨⟨none, 0, 0⟩, rfl, rfl, ⟨Nat.le_refl _, Nat.zero_le _, fun _ => rfl, fun h => absurd h (by simp)⟩, fun h => absurd h (by simp), fun h => absurd h (by simp)⟩
  · have hlt : g < w.heap.size := (Array.getElem?_eq_some_iff.1 hg).1
    refine ⟨⟨some ⟨g, 0, none⟩, k, cap⟩, rfl, rfl, ⟨hnc, by show k ≤ _; omega, fun e => by simp at e, fun h0 => ⟨g, 0, rfl, fun i hi => ?_⟩⟩, fun h0 => ⟨g, rfl, hb, hlt, fun i => by simp [World.frozen?, hg]⟩, fun _ => rfl⟩
    simp only at hi
    rw [Nat.zero_add, h.cellAt i (by omega)]
    simp [hi]

theorem Part.whole {F : FV} {base : Nat} {X : Nat → Prop} {w : World} {bv : Value} {sp : Sl} {S : Id → Sl} (h : Part F base X w F.blk.n 0 (.slice none 0 0) bv sp S) (hl : Light F) :
    ∃ bs : Sl, bv = slv bs ∧ Own base w (cpF F sp bs S) (fun x => blkOf (S x)) ∧ Light (cpF F sp bs S) ∧ bs.n = F.blk.n := by
  obtain ⟨bs, rfl, hbn, hbi, hbm, hbb⟩ := sls_of_owns h.blks (by have := hl.blk; omega)
  have dRow : ∀ a, a < F.blk.n → Dn F F.blk.n 0 (.row a) := fun a ha => ha
  have nB : ∀ a, a < F.blk.n → (S (.row a)).n = (F.B a).n := fun a ha => h.len (.row a) (dRow a ha)
  have hasD : ∀ x, has (cpF F sp bs S) x → Dn F F.blk.n 0 x := fun x hx => by
    cases x with
    | row a => have h1 : a < bs.n := hx; exact show a < F.blk.n by omega
    | arg a t =>
      obtain ⟨h1, h2⟩ : a < bs.n ∧ t < (S (.row a)).n := hx
      exact .inl ⟨by omega, by rw [← nB a (by omega)]; exact h2⟩
    | int a t =>
      obtain ⟨h1, h2⟩ : a < bs.n ∧ t < (S (.row a)).n := hx
      exact .inl ⟨by omega, by rw [← nB a (by omega)]; exact h2⟩
  have dA : ∀ a t, a < F.blk.n → t < (S (.row a)).n → Dn F F.blk.n 0 (.arg a t) := fun a t ha ht => .inl ⟨ha, by rw [← nB a ha]; exact ht⟩
  have dI : ∀ a t, a < F.blk.n → t < (S (.row a)).n → Dn F F.blk.n 0 (.int a t) := fun a t ha ht => .inl ⟨ha, by rw [← nB a ha]; exact ht⟩
  refine ⟨bs, rfl, ⟨⟨h.par, hbi, fun a ha => h.cont (.row a) (dRow a (by rw [← hbn]; exact ha)), fun a ha t ht => h.cont (.arg a t) (dA a t (by rw [← hbn]; exact ha) ht), fun a ha t ht => h.cont (.int a t) (dI a t (by rw [← hbn]; exact ha) ht)⟩, fun x hx h0 => ?_, fun x hx h0 => ?_, fun x hx h0 => ?_, fun x hx h0 => ?_, fun x y hx hy h0 h0' e => ?_, fun x hx h0 b o hb hn => ?_, fun x hx h0 b o hb hn => ?_, h.pm, hbm⟩, ⟨?_, hl.name, by show sp.n ≤ 8; rw [h.pn]; exact hl.par, by show bs.n ≤ 16; rw [hbn]; exact hl.blk, fun a ha => ?_, fun a ha t ht => ?_, fun a ha t ht => ?_⟩, hbn⟩
  · rw [sl_cpF] at h0 ⊢; exact (mine_blk (h.mine x (hasD x hx)) h0).1
  · rw [sl_cpF] at h0; exact (mine_blk (h.mine x (hasD x hx)) h0).2.1
  · rw [sl_cpF] at h0; exact (mine_blk (h.mine x (hasD x hx)) h0).2.2.1
  · rw [sl_cpF] at h0; exact (mine_blk (h.mine x (hasD x hx)) h0).2.2.2
  · rw [sl_cpF] at h0 h0'; exact h.sep x y (hasD x hx) (hasD y hy) h0 h0' e
  · rw [sl_cpF] at h0
    intro e
    have hp : 0 < sp.n := hn
    have q := (h.far x (hasD x hx) h0).2.2
    rw [bk_pos hp] at q
    have : blkOf sp = b := blkOf_eq hb
    exact q (by rw [this, e])
  · rw [sl_cpF] at h0
    intro e
    have hp : 0 < bs.n := hn
    have q := (h.far x (hasD x hx) h0).2.1
    rw [hbb hp] at q
    have : blkOf bs = b := blkOf_eq hb
    exact q (by rw [this, e])
  · show cnt (fun a => (S (.row a)).n) bs.n ≤ 90
    rw [hbn]
    have e : cnt (fun a => (S (.row a)).n) F.blk.n = cnt (fun j => (F.B j).n) F.blk.n := cnt_eq (fun a ha => nB a ha)
    rw [e]; exact hl.all
  · have ha' : a < F.blk.n := by rw [← hbn]; exact ha
    show (S (.row a)).n ≤ 90
    rw [nB a ha']; exact hl.ins a ha'
  · have ha' : a < F.blk.n := by rw [← hbn]; exact ha
    show (S (.arg a t)).n ≤ 20
    rw [h.len _ (dA a t ha' ht)]; exact hl.args a ha' t (by rw [← nB a ha']; exact ht)
  · have ha' : a < F.blk.n := by rw [← hbn]; exact ha
    show (S (.int a t)).n ≤ 20
    rw [h.len _ (dI a t ha' ht)]; exact hl.into a ha' t (by rw [← nB a ha']; exact ht)

end Go.Proofs.Ytclioagemjpnoaa.Own

/-
  plnref3.CopyFunc: what holds between its steps.
-/
namespace Go.Proofs.Ytclioagemjpnoaa.Own
open Go.RowKit View Rd Copy Srt

set_option linter.unusedVariables false

abbrev zF : FV := ⟨⟨#[]⟩, false, ⟨none, 0, 0⟩, 0, ⟨none, 0, 0⟩, fun _ => 0, fun _ => ⟨none, 0, 0⟩, fun _ _ => IV.zero, fun _ _ _ => 0, fun _ _ _ => 0⟩

/-- The blocks that are written beside the rows. -/
def Xs (w : World) (Gb g : Nat) : Prop := g = Gb ∨ g = w.heap.size ∨ g = w.heap.size + 1

structure Env (F : FV) (w : World) (Gb : Nat) (sp bs : Sl) (wr : World) : Prop where
  fg : FuncAt wr Gb { F with par := sp, blk := bs }
  ff : FuncAt wr w.heap.size F
  fz : FuncAt wr (w.heap.size + 1) zF
  zg : ∀ i, wr.frozen? ⟨Gb, i, none⟩ = false
  zz : ∀ i, wr.frozen? ⟨w.heap.size + 1, i, none⟩ = false
  low : Below w.heap.size w wr
  lt : Gb < wr.heap.size
  ge : w.heap.size + 2 ≤ Gb

theorem Env.to {F : FV} {w wr w' : World} {Gb : Nat} {sp bs : Sl} (h : Env F w Gb sp bs wr) (hz : wr.heap.size ≤ w'.heap.size) (hb : ∀ g, Xs w Gb g → w'.heap[g]? = wr.heap[g]?) (hl : Below w.heap.size w w') : Env F w Gb sp bs w' := by
  have k : Kept (Xs w Gb) wr w' := ⟨hz, hb⟩
  exact ⟨h.fg.kept k (.inl rfl), h.ff.kept k (.inr (.inl rfl)), h.fz.kept k (.inr (.inr rfl)), fun i => by rw [World.frozen?_of_block (w := wr) (hb _ (.inl rfl))]; exact h.zg i, fun i => by rw [World.frozen?_of_block (w := wr) (hb _ (.inr (.inr rfl)))]; exact h.zz i, hl, Nat.lt_of_lt_of_le h.lt hz, h.ge⟩

theorem Env.xlt {F : FV} {w wr : World} {Gb : Nat} {sp bs : Sl} (h : Env F w Gb sp bs wr) : ∀ g, Xs w Gb g → g < wr.heap.size := fun g hg => by
  have := h.lt; have := h.ge
  rcases hg with e | e | e <;> omega

theorem Env.on {F : FV} {w wr w' : World} {Gb : Nat} {sp bs : Sl} (h : Env F w Gb sp bs wr) (hb : Below wr.heap.size wr w') : Env F w Gb sp bs w' :=
  h.to hb.size (fun g hg => hb.block g (h.xlt g hg)) (more h.low hb)

/-- Between two blocks. -/
def OutS (F : FV) (w : World) (Gb : Nat) (sp : Sl) (j : Nat) (wr : World) : Prop :=
  ∃ (bs : Sl) (S : Id → Sl), Part F (w.heap.size + 2) (Xs w Gb) wr j 0 (.slice none 0 0) (slv bs) sp S ∧ Env F w Gb sp bs wr

/-- Between two instructions. -/
def InS (F : FV) (w : World) (Gb Bb : Nat) (sp bs : Sl) (j k : Nat) (wx : World) : Prop :=
  ∃ (vs : Sl) (S : Id → Sl), Part F (w.heap.size + 2) (fun g => Xs w Gb g ∨ g = Bb) wx j k (slv vs) (slv bs) sp S ∧ Env F w Gb sp bs wx ∧ wx.cell? ⟨Bb, 0, none⟩ = some (slv vs) ∧ wx.frozen? ⟨Bb, 0, none⟩ = false ∧ Gb < Bb ∧ Bb < wx.heap.size

theorem Part.start {F : FV} {w wr : World} {Gb : Nat} {sp : Sl} (h : Env F w Gb sp ⟨none, 0, 0⟩ wr) (hp : Ints wr sp F.P) (hn : sp.n = F.par.n) (hm : Mine (w.heap.size + 2) wr.heap.size wr sp) (hg : 0 < sp.n → blkOf sp ≠ Gb) :
    Part F (w.heap.size + 2) (Xs w Gb) wr 0 0 (.slice none 0 0) (.slice none 0 0) sp (fun _ => ⟨none, 0, 0⟩) := by
  have no : ∀ x, ¬ Dn F 0 0 x := fun x hx => by
    cases x with
    | row a => exact absurd hx (Nat.not_lt_zero _)
    | arg a t => rcases hx with ⟨h, _⟩ | ⟨_, h⟩ <;> exact absurd h (Nat.not_lt_zero _)
    | int a t => rcases hx with ⟨h, _⟩ | ⟨_, h⟩ <;> exact absurd h (Nat.not_lt_zero _)
  refine ⟨fun x hx => absurd hx (no x), fun x hx => absurd hx (no x), fun x hx => absurd hx (no x), fun x y hx => absurd hx (no x), World.ownsRow_nil _ _ _ _, World.ownsRow_nil _ _ _ _, fun x hx => absurd hx (no x), hp, hn, hm, fun _ => ⟨by simp [Value.ownBlock], by simp [Value.ownBlock]⟩, fun x hx => absurd hx (no x), fun g hg => by simp [Value.ownBlock] at hg, fun g hg => by simp [Value.ownBlock] at hg, fun h0 e => ?_, h.xlt⟩
  have := (mine_blk hm h0).2.1
  rcases e with e | e | e
  · exact hg h0 e
  · omega
  · omega

theorem owns_slv {w : World} {base e z n : Nat} {v : Value} {xs : List Value} (h : w.ownsRow base e z v n xs) : ∃ s : Sl, v = slv s := by
  rcases h.2 with ⟨rfl, _⟩ | ⟨g, cap, cur, rfl, _⟩
  · exact ⟨⟨none, 0, 0⟩, rfl⟩
  · exact ⟨⟨some ⟨g, 0, none⟩, n, cap⟩, rfl⟩

theorem cells_new (w : World) (cs : Array Value) (t : TypeId) : ∀ j u, cs.toList[j]? = some u → (w.alloc (.cells cs t)).cell? ((⟨w.heap.size, 0, none⟩ : Addr).add j) = some u := by
  intro j u h
  have e : (⟨w.heap.size, 0, none⟩ : Addr).add j = ⟨w.heap.size, j, none⟩ := by simp [Addr.add_lit]
  rw [e]
  simpa using h

theorem app_ins {w2 : World} {base k : Nat} {v : Value} {f : Nat → IV} (own : w2.ownsRow base 42 7 v k (flat f k)) (hk : k ≤ 1000) (hbase : base ≤ w2.heap.size) (u : IV) (ty : TypeId) :
    ∃ v' w4, (Builtin.append_ #[37, 37] ty #[v, .slice (some ⟨w2.heap.size, 0, none⟩) 1 1]).run Try.prog (w2.alloc (.cells u.cells 42)) = .ok v' w4 ∧ w4.ownsRow base 42 7 v' (k + 1) (flat f k ++ u.cells.toList) ∧
      (w2.alloc (.cells u.cells 42)).grownBy w4 v.ownBlock ∧ (v'.ownBlock = v.ownBlock ∨ v'.ownBlock = some (w2.heap.size + 1)) := by
  obtain ⟨i0, hi, hz0, hz1, hz2⟩ := info_parts info42
  obtain ⟨v', w4, h1, h2, h3, _, h5⟩ := run_append_own_at (P := Try.prog) (w2.alloc (.cells u.cells 42)) base 37 ty 42 i0 IV.zero.val 7 88 underlying37 hi hz0 hz1 hz2 rfl (by decide) v k _ (own.alloc _) ⟨w2.heap.size, 0, none⟩ 1 1 u.cells.toList (by simp) (cells_new _ _ _) (by intro x hx; simp at hx; rcases hx with rfl | rfl | rfl | rfl | rfl | rfl | rfl <;> rfl) (by simp only [maxLen]; omega) (by omega) (by simp; omega)
  exact ⟨v', w4, h1, h2, h3, by simpa using h5⟩

theorem app_blk {w2 : World} {base k : Nat} {v : Value} {xs : List Value} (own : w2.ownsRow base 39 1 v k xs) (hk : k ≤ 1000) (hbase : base ≤ w2.heap.size) (u : Sl) (ty : TypeId) :
    ∃ v' w4, (Builtin.append_ #[33, 33] ty #[v, .slice (some ⟨w2.heap.size, 0, none⟩) 1 1]).run Try.prog (w2.alloc (.cells #[slv u] 39)) = .ok v' w4 ∧ w4.ownsRow base 39 1 v' (k + 1) (xs ++ [slv u]) ∧
      (w2.alloc (.cells #[slv u] 39)).grownBy w4 v.ownBlock ∧ (v'.ownBlock = v.ownBlock ∨ v'.ownBlock = some (w2.heap.size + 1)) := by
  obtain ⟨i0, hi, hz0, hz1, hz2⟩ := info_parts info39
  obtain ⟨v', w4, h1, h2, h3, _, h5⟩ := run_append_own_at (P := Try.prog) (w2.alloc (.cells #[slv u] 39)) base 33 ty 39 i0 (.agg #[.slice none 0 0]) 1 24 underlying33 hi hz0 hz1 hz2 rfl (by decide) v k _ (own.alloc _) ⟨w2.heap.size, 0, none⟩ 1 1 [slv u] rfl (cells_new _ #[slv u] _) (by intro x hx; simp at hx; subst hx; rfl) (by simp only [maxLen]; omega) (by omega) (by simp; omega)
  exact ⟨v', w4, h1, h2, h3, by simpa using h5⟩

/-- One instruction more. -/
theorem in_step {F : FV} {w wx w2 w4 : World} {Gb Bb j k : Nat} {sp bs vs ta ti : Sl} {v' : Value} {S : Id → Sl} (p : Part F (w.heap.size + 2) (fun g => Xs w Gb g ∨ g = Bb) wx j k (slv vs) (slv bs) sp S) (e : Env F w Gb sp bs wx)
    (hc : wx.cell? ⟨Bb, 0, none⟩ = some (slv vs)) (hf : wx.frozen? ⟨Bb, 0, none⟩ = false) (hgb : Gb < Bb) (hbz : Bb < wx.heap.size)
    (tw : Copy.Twin wx.drew.heap.size w2.heap.size w2 ta ti (F.I j k) (F.A j k) (F.J j k)) (hb2 : Below wx.drew.heap.size wx.drew w2)
    (own4 : w4.ownsRow (w.heap.size + 2) 42 7 v' (k + 1) (flat (cpI F S j) k ++ ({ F.I j k with args := ta, into := ti } : IV).cells.toList))
    (gr : (w2.alloc (.cells ({ F.I j k with args := ta, into := ti } : IV).cells 42)).grownBy w4 (slv vs).ownBlock)
    (hat : v'.ownBlock = (slv vs).ownBlock ∨ v'.ownBlock = some (w2.heap.size + 1)) : InS F w Gb Bb sp bs j (k + 1) (w4.setCell ⟨Bb, 0, none⟩ v') := by
  obtain ⟨vs', rfl⟩ := owns_slv own4
  have ge := e.ge
  have hlt := e.lt
  have hzw : wx.drew.heap.size = wx.heap.size := rfl
  have p0 := p.on (Below.drew (same wx))
  have p4 := p0.step (v' := slv vs') hb2 tw (by rw [hzw]; omega) own4 gr hat
  have z2 := hb2.size
  have z4 := gr.size
  simp only [World.size_alloc] at z4
  have hbk : ∀ g, (Xs w Gb g ∨ g = Bb) → g < wx.heap.size → w4.heap[g]? = wx.heap[g]? := fun g hg hgz => by
    rw [gr.block g (by simp; omega) (fun h => p.avv g h.symm hg), Below.heap_alloc _ _ _ (by omega), hb2.block g (by omega)]; rfl
  have lo4 : Below w.heap.size w w4 := by
    have l2 : Below w.heap.size w w2 := (e.low.trans (Below.drew (Below.refl _ wx))).trans (hb2.mono (by have := e.low.size; omega))
    refine (l2.alloc l2.size _).grown gr (by simp; have := l2.size; omega) (fun g hg => ?_)
    have := (p.cur.lt g hg).1
    omega
  have e4 : Env F w Gb sp bs w4 := e.to (by omega) (fun g hg => hbk g (.inl hg) (e.xlt g hg)) lo4
  have nb : ¬ Xs w Gb Bb := fun h => by rcases h with h | h | h <;> omega
  refine ⟨vs', _, p4.write (a := ⟨Bb, 0, none⟩) (.inr rfl) _, e4.to (by simp) (fun g hg => Below.heap_setCell _ _ _ _ (fun h => nb (by have h' : g = Bb := h; rw [← h']; exact hg))) (lo4.setCell (by show _ ≤ Bb; omega) _), ?_, ?_, hgb, by simp; omega⟩
  · refine cell_same (u := slv vs) ?_
    rw [World.cell?_of_block (w := wx) (hbk Bb (.inr rfl) hbz)]; exact hc
  · rw [World.frozen?_setCell, World.frozen?_of_block (w := wx) (hbk Bb (.inr rfl) hbz)]; exact hf

/-- One block more. -/
theorem out_step {F : FV} {w wx w5 : World} {Gb Bb j : Nat} {sp bs vs : Sl} {v' : Value} {S : Id → Sl} (p : Part F (w.heap.size + 2) (fun g => Xs w Gb g ∨ g = Bb) wx j (F.B j).n (slv vs) (slv bs) sp S) (e : Env F w Gb sp bs wx) (hn : (F.B j).n ≤ 1000)
    (own5 : w5.ownsRow (w.heap.size + 2) 39 1 v' (j + 1) ((List.range j).map (fun a => slv (S (.row a))) ++ [slv vs]))
    (gr : (wx.alloc (.cells #[slv vs] 39)).grownBy w5 (slv bs).ownBlock) (hat : v'.ownBlock = (slv bs).ownBlock ∨ v'.ownBlock = some (wx.heap.size + 1)) : OutS F w Gb sp (j + 1) (w5.setCell ⟨Gb, 4, none⟩ v') := by
  obtain ⟨bs', rfl⟩ := owns_slv own5
  have ge := e.ge
  have hlt := e.lt
  have p5 := (p.next (bv' := slv bs') hn own5 gr hat).less (Y := Xs w Gb) (fun g h => .inl h)
  have z5 := gr.size
  simp only [World.size_alloc] at z5
  have hbk : ∀ g, Xs w Gb g → w5.heap[g]? = wx.heap[g]? := fun g hg => by
    rw [gr.block g (by simp; have := e.xlt g hg; omega) (fun h => p.avb g h.symm (.inl hg)), Below.heap_alloc _ _ _ (e.xlt g hg)]
  have lo5 : Below w.heap.size w w5 := by
    refine (e.low.alloc e.low.size _).grown gr (by simp; have := e.low.size; omega) (fun g hg => ?_)
    have := (p.blks.lt g hg).1
    omega
  have e5 : Env F w Gb sp bs w5 := e.to (by omega) hbk lo5
  obtain ⟨c0, c1, c2, c3, c4⟩ := e5.fg
  refine ⟨bs', _, p5.write (a := ⟨Gb, 4, none⟩) (.inl rfl) _, ⟨⟨?_, ?_, ?_, ?_, ?_⟩, ?_, ?_, fun i => by rw [World.frozen?_setCell]; exact e5.zg i, fun i => by rw [World.frozen?_setCell]; exact e5.zz i, lo5.setCell (by show _ ≤ Gb; omega) _, by simp; omega, ge⟩⟩
  · exact cell_other (ne_off (by omega)) c0
  · exact cell_other (ne_off (by omega)) c1
  · exact cell_other (ne_off (by omega)) c2
  · exact cell_other (ne_off (by omega)) c3
  · exact cell_same c4
  · exact e5.ff.kept ((Kept.refl (fun k => k ≠ Gb) w5).setCell (a := ⟨Gb, 4, none⟩) (fun h => h rfl) _) (by show _ ≠ _; omega)
  · exact e5.fz.kept ((Kept.refl (fun k => k ≠ Gb) w5).setCell (a := ⟨Gb, 4, none⟩) (fun h => h rfl) _) (by show _ ≠ _; omega)

theorem in_start {F : FV} {w wr : World} {Gb j : Nat} {sp bs : Sl} {S : Id → Sl} (p : Part F (w.heap.size + 2) (Xs w Gb) wr j 0 (.slice none 0 0) (slv bs) sp S) (e : Env F w Gb sp bs wr) :
    InS F w Gb wr.heap.size sp bs j 0 (wr.alloc (.cells #[.slice none 0 0] 39)) :=
  ⟨⟨none, 0, 0⟩, S, p.alloc _, e.on (new (same _) _), by simp, by simp, e.lt, by simp⟩

/-- What is handed back. -/
theorem out_end {F : FV} {w wr : World} {Gb : Nat} {sp bs : Sl} {S : Id → Sl} (p : Part F (w.heap.size + 2) (Xs w Gb) wr F.blk.n 0 (.slice none 0 0) (slv bs) sp S) (e : Env F w Gb sp bs wr) (hl : Light F) (x0 x1 x2 x3 x4 : Value) :
    CopyOf F w (.returned ({ F with par := sp, blk := bs } : FV).val) (((((wr.setCell ⟨w.heap.size + 1, 0, none⟩ x0).setCell ⟨w.heap.size + 1, 1, none⟩ x1).setCell ⟨w.heap.size + 1, 2, none⟩ x2).setCell ⟨w.heap.size + 1, 3, none⟩ x3).setCell ⟨w.heap.size + 1, 4, none⟩ x4) := by
  have q := ((((p.write (a := ⟨w.heap.size + 1, 0, none⟩) (.inr (.inr rfl)) x0).write (a := ⟨w.heap.size + 1, 1, none⟩) (.inr (.inr rfl)) x1).write (a := ⟨w.heap.size + 1, 2, none⟩) (.inr (.inr rfl)) x2).write (a := ⟨w.heap.size + 1, 3, none⟩) (.inr (.inr rfl)) x3).write (a := ⟨w.heap.size + 1, 4, none⟩) (.inr (.inr rfl)) x4
  obtain ⟨bs', eb, own, li, hn⟩ := q.whole hl
  obtain rfl : bs = bs' := by
    have h1 : bs.a = bs'.a ∧ bs.n = bs'.n ∧ bs.c = bs'.c := by simpa [slv] using eb
    cases bs; cases bs'; simp at h1; simp [h1]
  have dRow : ∀ a, a < F.blk.n → (S (.row a)).n = (F.B a).n := fun a ha => p.len (.row a) ha
  refine ⟨cpF F sp bs S, _, rfl, own.less (by omega), li, ⟨rfl, rfl, rfl, p.pn, rfl, hn, dRow, fun _ _ _ _ => rfl, fun _ _ _ _ => rfl, fun _ _ _ _ => rfl, fun _ _ _ _ => rfl, fun _ _ _ _ => rfl, fun j hj k hk => p.len (.arg j k) (.inl ⟨hj, hk⟩), fun j hj k hk => p.len (.int j k) (.inl ⟨hj, hk⟩), rfl, rfl⟩, ?_⟩
  repeat (refine Below.setCell ?_ (by simp) _)
  exact e.low

end Go.Proofs.Ytclioagemjpnoaa.Own

/-
  A function copied by the document: plnref3.CopyFunc.
-/
namespace Go.Proofs.Ytclioagemjpnoaa.Own
open Go.RowKit View Rd Copy Srt

set_option linter.unusedVariables false

/-- An operation is taken first; where it leaves its value is told. -/
theorem takeAt {P : Program} {ops : Array Oper} {Q : Exit → Act → World → Prop} {md : Region.Mode} {S : World → Prop} {i : Nat} {oi : Oper} {d : Option Tmp} {v : Value} {fuel : Nat} {listed : Array Bool} {a : Act} {w : World} (hi : ops[i]? = some oi) (hd : oi.dst = d)
    (hs : Region.noSelect ops = true) (hf : Region.free md ops listed i = true) (hr : (Region.ready md ops listed).contains i = true)
    (hQ : ∀ c a w, Q (.panic c) (a.put d v) w → Q (.panic c) a w) (hy : YieldsIf P ops S oi v a) (hS : S w)
    (h : wpAnyH P md ops Q S fuel (listed.setIfInBounds i true) (a.put d v) w) : wpAnyH P md ops Q S (fuel + 1) listed a w := by
  subst hd
  exact wpAnyH_take hi hs hf hr hQ hy hS h

/-- Another condition, which says more, from here on. -/
theorem wpAnyH_switch {P : Program} {ops : Array Oper} {Q : Exit → Act → World → Prop} {md : Region.Mode} {S S' : World → Prop} (h : ∀ w, S' w → S w) :
    ∀ (fuel : Nat) (listed : Array Bool) (a : Act) (w : World), wpAnyH P md ops Q S' fuel listed a w → wpAnyH P md ops Q S fuel listed a w
  | 0, _, _, _, H => H
  | fuel + 1, _, _, _, H => ⟨H.1, fun i hi => wpOp_mono (fun a' w' h' => ⟨h w' h'.1, wpAnyH_switch h fuel _ a' w' h'.2⟩) (H.2 i hi)⟩

theorem wp_app {P : Program} {o : Oper} {a : Act} {w w' : World} {v' v u : Value} {t : TypeId} {s x : Operand} {K : Act → World → Prop} {Q : Exit → Act → World → Prop} {d : Option Tmp} {ty : TypeId} (ho : o.op = .call { callee := .builtin .append, args := #[s, x], argTypes := #[t, t] }) (hd : o.dst = d) (hty : o.type = ty) (hs : a.eval s = v) (hx : a.eval x = u) (hr : (Builtin.append_ #[t, t] ty #[v, u]).run P w = .ok v' w') (h : K (a.put d v') w') : o.wp P a w K Q := by
  subst hd hty
  unfold Oper.wp execOp
  simp only [ho, resolve, invoke, builtin, Sem.run_bind, Sem.run_pure, Result.andThen_ok, List.map_toArray, List.map_cons, List.map_nil, hs, hx, hr]
  exact h

theorem wpList_app {ops : Array Oper} {rest : List Oper} {o : Oper} {a : Act} {Q : Exit → Act → World → Prop} {w w' : World} {v' v u : Value} {t ty : TypeId} (s x : Operand) (hg : o.guard = none) (ho : o.op = .call { callee := .builtin .append, args := #[s, x], argTypes := #[t, t] }) (hty : o.type = ty) (hs : a.eval s = v) (hx : a.eval x = u) (hr : (Builtin.append_ #[t, t] ty #[v, u]).run Try.prog w = .ok v' w') (h : wpList Try.prog ops Q rest (a.put o.dst v') w') : wpList Try.prog ops Q (o :: rest) a w := by
  subst hty
  refine wpList_plain hg fun K hK => ?_
  unfold Oper.wp execOp
  simp only [ho, resolve, invoke, builtin, Sem.run_bind, Sem.run_pure, Result.andThen_ok, List.map_toArray, List.map_cons, List.map_nil, hs, hx, hr]
  exact hK _ _ h

theorem run_append_copy (s : Sl) (f : Nat → Int) (w : World) (ty : TypeId) (hs : Ints w s f) (hn : s.n ≤ 1000) :
    ∃ (t : Sl) (w' : World), (Builtin.append_ #[32, 32] ty #[.slice none 0 0, .slice s.a s.n s.c]).run Try.prog w = .ok (.slice t.a t.n t.c) w' ∧ t.n = s.n ∧ Ints w' t f ∧ Mine w.heap.size w'.heap.size w' t ∧ Below w.heap.size w w' := by
  obtain ⟨i0, hi, hz0, hz1, hz2⟩ := info_parts info3
  obtain ⟨ao, m, c⟩ := s
  cases ao with
  | some ad =>
    obtain ⟨v', w', hrun, hown, hgr, _, _⟩ := run_append_own_at (P := Try.prog) w w.heap.size 32 ty 3 i0 (.int .i64 0) 1 8 underlying32 hi hz0 hz1 hz2 rfl (by decide) (.slice none 0 0) 0 [] (World.ownsRow_nil _ _ _ _) ad m c ((row f m).map (Value.int .i64)) (by simp [row_length]) (row_cells hs) (ints_oneCell _ _) (by simp only [maxLen] at *; omega) (by simp only at *; omega) (Nat.le_refl _)
    simp only [Nat.zero_add, List.nil_append] at hown
    obtain ⟨t, rfl, ht, hti, htm⟩ := ints_of_owns hown (by simp only at hn; omega)
    exact ⟨t, w', hrun, ht, Ints.congr hti (fun i h => getD_row f m i (by omega)), htm, (Below.refl _ w).grown hgr (Nat.le_refl _) (fun k hk => by cases hk)⟩
  | none =>
    have hc0 := hs.2.2.1 rfl
    have hm0 := hs.1
    simp only at hc0 hm0
    subst hc0
    obtain rfl : m = 0 := by omega
    refine ⟨⟨none, 0, 0⟩, w, ?_, rfl, ⟨Nat.le_refl _, Nat.zero_le _, fun _ => rfl, fun h => absurd h (by simp)⟩, fun h => absurd h (by simp), same w⟩
    simp [Builtin.append_, run_underlying underlying32, sizeOf, typeInfo, hi, Builtin.lenOf, Builtin.firstCells]

theorem five {B b : Nat} {W w3 : World} (h : Below B W w3) (hb : B ≤ b) (nm : ByteArray) (o : Bool) (sp : Sl) (r : Int) :
    Below B W (((((w3.setCell ⟨b, 0, none⟩ (.string nm)).setCell ⟨b, 1, none⟩ (.bool o)).setCell ⟨b, 2, none⟩ (.slice sp.a sp.n sp.c)).setCell ⟨b, 3, none⟩ (.int .i64 r)).setCell ⟨b, 4, none⟩ (.slice none 0 0)) := by
  repeat (refine Below.setCell ?_ hb _)
  exact h

/-- What the making of g leaves. -/
def Made (F : FV) (w : World) (g : Value) (wx : World) : Prop :=
  ∃ (Gb : Nat) (sp : Sl), g = .pointer (some ⟨Gb, 0, none⟩) ∧ FuncAt wx Gb { F with par := sp, blk := ⟨none, 0, 0⟩ } ∧ FuncAt wx w.heap.size F ∧ FuncAt wx (w.heap.size + 1) zF ∧ (∀ i, wx.frozen? ⟨Gb, i, none⟩ = false) ∧ (∀ i, wx.frozen? ⟨w.heap.size + 1, i, none⟩ = false) ∧
    Ints wx sp F.P ∧ sp.n = F.par.n ∧ Mine (w.heap.size + 2) wx.heap.size wx sp ∧ w.heap.size + 2 ≤ Gb ∧ Gb < wx.heap.size ∧ (0 < sp.n → blkOf sp ≠ Gb) ∧ Below w.heap.size w wx

theorem cut_a {F : FV} {w W w3 : World} {sp : Sl} (zw : W.heap.size = w.heap.size + 2) (bw : Below w.heap.size w W) (fw : FuncAt W w.heap.size F) (zf : FuncAt W (w.heap.size + 1) zF) (fz : ∀ i, W.frozen? ⟨w.heap.size + 1, i, none⟩ = false)
    (hn : sp.n = F.par.n) (hi : Ints w3 sp F.P) (hm : Mine W.drew.heap.size w3.heap.size w3 sp) (hb : Below W.drew.heap.size W.drew w3) : Made F w (.pointer (some ⟨w3.heap.size, 0, none⟩)) (w3.alloc (.cells (fcells { F with par := sp, blk := ⟨none, 0, 0⟩ }) 35)) := by
  have z3 : W.heap.size ≤ w3.heap.size := hb.size
  have hb' : Below W.heap.size W w3 := (Below.drew (same W)).trans (hb.mono (Nat.le_refl _))
  refine ⟨w3.heap.size, sp, rfl, FuncAt.alloc _ _, (fw.on hb').on (new (same _) _), (zf.on hb').on (new (same _) _), fun i => by simp, fun i => ?_, hi.on (new (same _) _), hn, (hm.on (new (same _) _) (Nat.le_refl _)).wide (by show _ ≤ W.heap.size; omega) (by simp), by omega, by simp, fun h0 e => ?_, new (bw.trans (hb'.mono bw.size)) _⟩
  · rw [World.frozen?_alloc_old _ _ _ (by show w.heap.size + 1 ≠ _; omega), hb'.frozen (by show w.heap.size + 1 < _; omega)]; exact fz i
  · obtain ⟨g, h1, h2, h3, _⟩ := hm h0
    rw [blkOf_eq h1] at e
    omega

theorem cut_b {F : FV} {w W w3 : World} {sp : Sl} (zw : W.heap.size = w.heap.size + 2) (bw : Below w.heap.size w W) (fw : FuncAt W w.heap.size F) (zf : FuncAt W (w.heap.size + 1) zF) (fz : ∀ i, W.frozen? ⟨w.heap.size + 1, i, none⟩ = false)
    (hn : sp.n = F.par.n) (hi : Ints w3 sp F.P) (hm : Mine (W.drew.alloc (.cells (fcells zF) 35)).heap.size w3.heap.size w3 sp) (hb : Below (W.drew.alloc (.cells (fcells zF) 35)).heap.size (W.drew.alloc (.cells (fcells zF) 35)) w3) :
    Made F w (.pointer (some ⟨W.heap.size, 0, none⟩)) (((((w3.setCell ⟨W.heap.size, 0, none⟩ (.string F.name)).setCell ⟨W.heap.size, 1, none⟩ (.bool F.out)).setCell ⟨W.heap.size, 2, none⟩ (.slice sp.a sp.n sp.c)).setCell ⟨W.heap.size, 3, none⟩ (.int .i64 F.res)).setCell ⟨W.heap.size, 4, none⟩ (.slice none 0 0)) := by
  have z3 : W.heap.size + 1 ≤ w3.heap.size := by have := hb.size; simp at this; exact this
  have hb' : Below W.heap.size W w3 := (new (Below.drew (same W)) _).trans (hb.mono (by show W.heap.size ≤ (W.drew.alloc _).heap.size; simp))
  have fG : FuncAt w3 W.heap.size zF := FuncAt.on hb (FuncAt.alloc W.drew zF)
  have gz : ∀ i, w3.frozen? ⟨W.heap.size, i, none⟩ = false := fun i => by
    rw [hb.frozen (by show W.heap.size < (W.drew.alloc _).heap.size; simp)]
    exact World.frozen?_alloc_new W.drew _ _ i
  have kk : ∀ p : Nat → Prop, ¬ p W.heap.size → Kept p w3 (((((w3.setCell ⟨W.heap.size, 0, none⟩ (.string F.name)).setCell ⟨W.heap.size, 1, none⟩ (.bool F.out)).setCell ⟨W.heap.size, 2, none⟩ (.slice sp.a sp.n sp.c)).setCell ⟨W.heap.size, 3, none⟩ (.int .i64 F.res)).setCell ⟨W.heap.size, 4, none⟩ (.slice none 0 0)) := fun p hp => by
    repeat (refine Kept.setCell ?_ hp _)
    exact Kept.refl _ _
  have hm' : Mine (w.heap.size + 2) w3.heap.size w3 sp := hm.wide (by rw [World.size_alloc]; show _ ≤ W.heap.size + 1; omega) (Nat.le_refl _)
  have hlo : 0 < sp.n → ∃ g, sp.a = some ⟨g, 0, none⟩ ∧ W.heap.size + 1 ≤ g ∧ g < w3.heap.size := fun h0 => by
    obtain ⟨g, h1, h2, h3, _⟩ := hm h0
    exact ⟨g, h1, by simpa using h2, h3⟩
  refine ⟨W.heap.size, sp, rfl, ?_, (fw.on hb').kept (kk (fun k => k ≠ W.heap.size) (fun h => h rfl)) (by show w.heap.size ≠ _; omega), (zf.on hb').kept (kk (fun k => k ≠ W.heap.size) (fun h => h rfl)) (by show w.heap.size + 1 ≠ _; omega), fun i => ?_, fun i => ?_, hi.kept (kk (fun k => k ≠ W.heap.size) (fun h => h rfl)) (fun b off e h0 => ?_), hn, ?_, by omega, by simp; omega, fun h0 e => ?_, ?_⟩
  · refine ⟨?_, ?_, ?_, ?_, ?_⟩
    · exact cell_other (ne_off (by omega)) (cell_other (ne_off (by omega)) (cell_other (ne_off (by omega)) (cell_other (ne_off (by omega)) (cell_same fG.c0))))
    · exact cell_other (ne_off (by omega)) (cell_other (ne_off (by omega)) (cell_other (ne_off (by omega)) (cell_same (cell_other (ne_off (by omega)) fG.c1))))
    · exact cell_other (ne_off (by omega)) (cell_other (ne_off (by omega)) (cell_same (cell_other (ne_off (by omega)) (cell_other (ne_off (by omega)) fG.c2))))
    · exact cell_other (ne_off (by omega)) (cell_same (cell_other (ne_off (by omega)) (cell_other (ne_off (by omega)) (cell_other (ne_off (by omega)) fG.c3))))
    · exact cell_same (cell_other (ne_off (by omega)) (cell_other (ne_off (by omega)) (cell_other (ne_off (by omega)) (cell_other (ne_off (by omega)) fG.c4))))
  · simp [gz]
  · simp only [World.frozen?_setCell]
    rw [hb'.frozen (by show w.heap.size + 1 < _; omega)]; exact fz i
  · obtain ⟨g, h1, h2, _⟩ := hlo h0
    rw [adr_inj h1 e]; omega
  · refine ((hm.wide (base' := W.heap.size + 1) (by show _ ≤ (W.drew.alloc _).heap.size; simp) (Nat.le_refl _)).kept (p := fun k => k ≠ W.heap.size) (kk _ (fun h => h rfl)) (fun b h1 _ => by omega)).wide (by omega) (by simp)
  · obtain ⟨g, h1, h2, _⟩ := hlo h0
    rw [blkOf_eq h1] at e; omega
  · refine five (b := W.heap.size) (bw.trans (hb'.mono bw.size)) (by omega) _ _ _ _

set_option maxRecDepth 10000 in
set_option maxHeartbeats 4000000 in
theorem copyFunc_ref (F : FV) (w : World) (hF : In w F) (hl : Light F) : Calls Try.prog 14 #[F.val] w fun e w' => CopyOf F w e w' := by
  have HF := hid hF
  have HL := hid hl
  have gb := hl.blk
  have gp := hl.par
  clear hF hl
  go_enter Try.func14, Try.ntmps14
  go_upto_region 1 with fail
  obtain ⟨W, hW⟩ : ∃ W, (w.alloc (.cells (fcells F) 35)).alloc (.cells #[.string ⟨#[]⟩, .bool false, .slice none 0 0, .int .i64 0, .slice none 0 0] 35) = W := ⟨_, rfl⟩
  have BW := hid (show Below w.heap.size w W by rw [← hW]; exact new (new (same w) _) _)
  have ZW := hid (show W.heap.size = w.heap.size + 2 by rw [← hW]; simp)
  have FW := hid (show FuncAt W w.heap.size F by rw [← hW]; exact (FuncAt.alloc w F).on (new (same _) _))
  have ZF := hid (show FuncAt W (w.heap.size + 1) zF by rw [← hW]; have := FuncAt.alloc (w.alloc (.cells (fcells F) 35)) zF; simpa using this)
  have FZ := hid (show ∀ i, W.frozen? ⟨w.heap.size + 1, i, none⟩ = false by intro i; rw [← hW]; simp)
  have PI := hid (show Ints W F.par F.P from HF.out.par.on BW.out)
  try rw [hW]
  clear hW
  go_cut [3] from 7 to 16 (fun g wx => Made F w g wx)
  case first =>
    have s0 : Below (w.heap.size + 2) W W.drew := Below.drew (Below.refl _ _)
    have c0 : ∀ wx, Below (w.heap.size + 2) W wx → wx.cell? ⟨w.heap.size, 0, none⟩ = some (.string F.name) := fun wx h => (h.cell (by show w.heap.size < _; omega)).trans FW.out.c0
    have c1 : ∀ wx, Below (w.heap.size + 2) W wx → wx.cell? ⟨w.heap.size, 1, none⟩ = some (.bool F.out) := fun wx h => (h.cell (by show w.heap.size < _; omega)).trans FW.out.c1
    have c2 : ∀ wx, Below (w.heap.size + 2) W wx → wx.cell? ⟨w.heap.size, 2, none⟩ = some (.slice F.par.a F.par.n F.par.c) := fun wx h => (h.cell (by show w.heap.size < _; omega)).trans FW.out.c2
    have c3 : ∀ wx, Below (w.heap.size + 2) W wx → wx.cell? ⟨w.heap.size, 3, none⟩ = some (.int .i64 F.res) := fun wx h => (h.cell (by show w.heap.size < _; omega)).trans FW.out.c3
    refine wp_region_noPanic ?_
    refine wp_region_held_drew (S := fun wx => Below (w.heap.size + 2) W wx) (by kernel_rfl) s0 (fun hS => ?_)
    refine takeAt (i := 0) (d := some 7) (v := ?v0) rfl (by rfl) (by kernel_rfl) (by kernel_rfl) (by kernel_rfl) (fun _ _ _ h => h) (Or.inl ⟨by rfl, ?y0⟩) hS ?_
    case y0 => intro wx hSw; (go_simp) <;> with_reducible rfl
    simp only [Act.put, List.setIfInBounds_toArray, List.set_cons_zero, List.set_cons_succ]
    refine takeAt (i := 1) (d := some 8) (v := ?v1) rfl (by rfl) (by kernel_rfl) (by kernel_rfl) (by kernel_rfl) (fun _ _ _ h => h) (Or.inl ⟨by rfl, ?y1⟩) hS ?_
    case y1 => intro wx hSw; (go_simp) <;> with_reducible rfl
    simp only [Act.put, List.setIfInBounds_toArray, List.set_cons_zero, List.set_cons_succ]
    refine takeAt (i := 2) (d := some 9) (v := ?v2) rfl (by rfl) (by kernel_rfl) (by kernel_rfl) (by kernel_rfl) (fun _ _ _ h => h) (Or.inl ⟨by rfl, ?y2⟩) hS ?_
    case y2 => intro wx hSw; (go_simp) <;> with_reducible rfl
    simp only [Act.put, List.setIfInBounds_toArray, List.set_cons_zero, List.set_cons_succ]
    refine takeAt (i := 3) (d := some 10) (v := ?v3) rfl (by rfl) (by kernel_rfl) (by kernel_rfl) (by kernel_rfl) (fun _ _ _ h => h) (Or.inl ⟨by rfl, ?y3⟩) hS ?_
    case y3 => intro wx hSw; (go_simp) <;> with_reducible rfl
    simp only [Act.put, List.setIfInBounds_toArray, List.set_cons_zero, List.set_cons_succ]
    refine takeAt (i := 4) (d := some 11) (v := ?v4) rfl (by rfl) (by kernel_rfl) (by kernel_rfl) (by kernel_rfl) (fun _ _ _ h => h) (Or.inl ⟨by rfl, ?y4⟩) hS ?_
    case y4 => intro wx hSw; (go_simp) <;> with_reducible rfl
    simp only [Act.put, List.setIfInBounds_toArray, List.set_cons_zero, List.set_cons_succ]
    refine takeAt (i := 5) (d := some 12) (v := ?v5) rfl (by rfl) (by kernel_rfl) (by kernel_rfl) (by kernel_rfl) (fun _ _ _ h => h) (Or.inl ⟨by rfl, ?y5⟩) hS ?_
    case y5 => intro wx hSw; (go_simp) <;> with_reducible rfl
    simp only [Act.put, List.setIfInBounds_toArray, List.set_cons_zero, List.set_cons_succ]
    refine takeAt (i := 7) (d := some 14) (v := ?v7) rfl (by rfl) (by kernel_rfl) (by kernel_rfl) (by kernel_rfl) (fun _ _ _ h => h) (Or.inl ⟨by rfl, ?y7⟩) hS ?_
    case y7 => intro wx hSw; (go_simp) <;> with_reducible rfl
    simp only [Act.put, List.setIfInBounds_toArray, List.set_cons_zero, List.set_cons_succ]
    refine takeAt (i := 8) (d := some 15) (v := ?v8) rfl (by rfl) (by kernel_rfl) (by kernel_rfl) (by kernel_rfl) (fun _ _ _ h => h) (Or.inl ⟨by rfl, ?y8⟩) hS ?_
    case y8 => intro wx hSw; (go_simp) <;> with_reducible rfl
    simp only [Act.put, List.setIfInBounds_toArray, List.set_cons_zero, List.set_cons_succ]
    refine wpAnyH_ready (rs := [6, 10]) (by kernel_rfl) (by simp) ?_
    refine AllReadyH.cons rfl (fun K hK => ?_) (AllReadyH.cons rfl (fun K hK => ?_) AllReadyH.nil)
    · obtain ⟨sp, w3, hrun, hn3, hi3, hm3, hb3⟩ := run_append_copy F.par F.P W.drew 32 (PI.out.on (below_drewN' W 1)) (by omega)
      have HN3 := hid hn3
      clear hn3
      rw [if_pos (by rfl)]
      refine wp_app (s := .const (.slice none 0 0)) (x := .tmp 12) (t := 32) (d := some 13) rfl rfl rfl rfl rfl hrun ?_
      try simp only [Act.put, List.setIfInBounds_toArray, List.set_cons_zero, List.set_cons_succ]
      have s3 : Below (w.heap.size + 2) W w3 := s0.trans (hb3.mono (by have := ZW.out; show _ ≤ W.heap.size; omega))
      refine hK.out _ _ s3 (fun _ => ?_)
      clear hK K
      replace hS := s3
      try simp only [Act.put, List.setIfInBounds_toArray, List.set_cons_zero, List.set_cons_succ]
      refine takeAt (i := 9) (d := some 16) (v := ?va9) rfl (by rfl) (by kernel_rfl) (by kernel_rfl) (by kernel_rfl) (fun _ _ _ h => h) (Or.inl ⟨by rfl, ?ya9⟩) hS ?_
      case ya9 => intro wx hSw; (go_simp) <;> with_reducible rfl
      simp only [Act.put, List.setIfInBounds_toArray, List.set_cons_zero, List.set_cons_succ]
      have s4 := s3.alloc (by have := s3.size; have := ZW.out; omega) (.cells #[.string ⟨#[]⟩, .bool false, .slice none 0 0, .int .i64 0, .slice none 0 0] 35)
      have s5 := s3.alloc (by have := s3.size; have := ZW.out; omega) (.cells (fcells { F with par := sp, blk := ⟨none, 0, 0⟩ }) 35)
      refine wpAnyH_ready (rs := [10]) (by kernel_rfl) (by simp) ?_
      refine AllReadyH.cons rfl (fun K hK => ?_) AllReadyH.nil
      go_simp
      refine hK.out _ _ s4 (fun _ => ?_)
      clear hK K
      replace hS := s4
      try simp only [Act.put, List.setIfInBounds_toArray, List.set_cons_zero, List.set_cons_succ]
      refine wpAnyH_ready (rs := [11]) (by kernel_rfl) (by simp) ?_
      refine AllReadyH.cons rfl (fun K hK => ?_) AllReadyH.nil
      go_simp
      refine hK.out _ _ s5 (fun _ => ?_)
      clear hK K
      replace hS := s5
      try simp only [Act.put, List.setIfInBounds_toArray, List.set_cons_zero, List.set_cons_succ]
      refine wpAnyH_done (by kernel_rfl) ?_ _
      refine NoPanic.normal ?_
      go_wp2_with fail
      go_meet
      case rel =>
        exact cut_a ZW.out BW.out FW.out ZF.out FZ.out HN3.out hi3 hm3 hb3
    · go_simp
      have t1 := s0.alloc (by have := ZW.out; show _ ≤ W.heap.size; omega) (.cells #[.string ⟨#[]⟩, .bool false, .slice none 0 0, .int .i64 0, .slice none 0 0] 35)
      refine hK.out _ _ t1 (fun _ => ?_)
      clear hK K
      replace hS := t1
      try simp only [Act.put, List.setIfInBounds_toArray, List.set_cons_zero, List.set_cons_succ]
      obtain ⟨sp, w3, hrun, hn3, hi3, hm3, hb3⟩ := run_append_copy F.par F.P (W.drew.alloc (.cells #[.string ⟨#[]⟩, .bool false, .slice none 0 0, .int .i64 0, .slice none 0 0] 35)) 32 ((PI.out.on (below_drewN' W 1)).on (new (same _) _)) (by omega)
      have HN3 := hid hn3
      clear hn3
      have t2 : Below (w.heap.size + 2) W w3 := t1.trans (hb3.mono (by have := ZW.out; show _ ≤ (W.drew.alloc _).heap.size; simp; omega))
      refine wpAnyH_ready (rs := [6]) (by kernel_rfl) (by simp) ?_
      refine AllReadyH.cons rfl (fun K hK => ?_) AllReadyH.nil
      rw [if_pos (by rfl)]
      refine wp_app (s := .const (.slice none 0 0)) (x := .tmp 12) (t := 32) (d := some 13) rfl rfl rfl rfl rfl hrun ?_
      try simp only [Act.put, List.setIfInBounds_toArray, List.set_cons_zero, List.set_cons_succ]
      refine hK.out _ _ t2 (fun _ => ?_)
      clear hK K
      replace hS := t2
      try simp only [Act.put, List.setIfInBounds_toArray, List.set_cons_zero, List.set_cons_succ]
      refine takeAt (i := 9) (d := some 16) (v := ?vb9) rfl (by rfl) (by kernel_rfl) (by kernel_rfl) (by kernel_rfl) (fun _ _ _ h => h) (Or.inl ⟨by rfl, ?yb9⟩) hS ?_
      case yb9 => intro wx hSw; (go_simp) <;> with_reducible rfl
      simp only [Act.put, List.setIfInBounds_toArray, List.set_cons_zero, List.set_cons_succ]
      have fG : FuncAt w3 W.heap.size zF := FuncAt.on hb3 (FuncAt.alloc W.drew zF)
      obtain ⟨g0, g1, g2, g3, g4⟩ := fG
      have gz : ∀ i, w3.frozen? ⟨W.heap.size, i, none⟩ = false := fun i => by rw [hb3.frozen (by show W.heap.size < (W.drew.alloc _).heap.size; simp)]; exact World.frozen?_alloc_new W.drew _ _ i
      have t3 := five (b := W.heap.size) t2 (by have := ZW.out; omega) F.name F.out sp F.res
      refine wpAnyH_ready (rs := [11]) (by kernel_rfl) (by simp) ?_
      refine AllReadyH.cons rfl (fun K hK => ?_) AllReadyH.nil
      go_simp
      refine hK.out _ _ t3 (fun _ => ?_)
      clear hK K
      replace hS := t3
      try simp only [Act.put, List.setIfInBounds_toArray, List.set_cons_zero, List.set_cons_succ]
      refine wpAnyH_done (by kernel_rfl) ?_ _
      refine NoPanic.normal ?_
      go_wp2_with fail
      go_meet
      case rel =>
        exact cut_b ZW.out BW.out FW.out ZF.out FZ.out HN3.out hi3 hm3 hb3
  case rest =>
    obtain ⟨Gb, sp, rfl, fG, fF, fZ, zG, zZ, hpi, hpn, hpm, hge, hltG, hne, hlow⟩ := hcut
    have env0 : Env F w Gb sp ⟨none, 0, 0⟩ wc := ⟨fG, fF, fZ, zG, zZ, hlow, hltG, hge⟩
    have st0 := hid (show OutS F w Gb sp 0 wc from ⟨_, _, Part.start env0 hpi hpn hpm hne, env0⟩)
    clear env0 fG fF fZ zG zZ hpi hpn hpm hltG hne hlow BW ZW FW ZF FZ PI
    go_wp2_with fail
    go_loopw [4] (fun i wr => ∃ j : Nat, j ≤ F.blk.n ∧ i = .int .i64 j ∧ OutS F w Gb sp j wr) (fun i _ => F.blk.n - (intOf i).toNat)
    case atStart => exact ⟨0, Nat.zero_le _, rfl, st0.out⟩
    case round =>
      clear st0
      obtain ⟨j, hj, rfl, bs, S, hpart, henv⟩ := hrel
      obtain ⟨c0, c1, c2, c3, c4⟩ := henv.ff
      by_cases hlt : j < F.blk.n
      · obtain ⟨bb, oo, hix, hck0⟩ := HF.out.blk.at hlt
        have hbb : bb < w.heap.size := World.block_lt_of_cell? _ _ hck0
        have g5 := HL.out.ins j hlt
        have ST := hid (in_start hpart henv)
        have hzz := henv.lt
        clear hpart henv
        go_wp2_with fail
        obtain ⟨N5, hN5⟩ : ∃ N5, wr.heap.size = N5 := ⟨_, rfl⟩
        rw [hN5] at ST hzz ⊢
        clear hN5 c0 c1 c2 c3 c4
        go_loopw [6] (fun i wx => ∃ k : Nat, k ≤ (F.B j).n ∧ i = .int .i64 k ∧ InS F w Gb N5 sp bs j k wx) (fun i _ => (F.B j).n - (intOf i).toNat)
        case atStart => exact ⟨0, Nat.zero_le _, rfl, ST.out⟩
        case round =>
          clear ST
          obtain ⟨k, hk, rfl, vs, S, hpart, henv, hcb, hfb, hgb, hbz⟩ := hrel
          obtain ⟨c0, c1, c2, c3, c4⟩ := henv.ff
          have hck := cell_on henv.low hck0
          have HP := hid (And.intro hpart (And.intro henv (And.intro hcb (And.intro hfb (And.intro hgb hbz)))))
          by_cases hkl : k < (F.B j).n
          · obtain ⟨ib, io, hiy, hI0⟩ := (HF.out.ins j hlt).at hkl
            have hib : ib < w.heap.size := World.block_lt_of_cell? _ _ hI0.c0
            have ga : (F.I j k).args.n ≤ 1000 := by have := HL.out.args j hlt k hkl; omega
            have gi : (F.I j k).into.n ≤ 1000 := by have := HL.out.into j hlt k hkl; omega
            have HIA := hid (show Ints wr.drew (F.I j k).args (F.A j k) from ((HF.out.args j hlt k hkl).on henv.low).on (Below.drew (same _)))
            have HII := hid (show Ints wr.drew (F.I j k).into (F.J j k) from ((HF.out.into j hlt k hkl).on henv.low).on (Below.drew (same _)))
            go_upto_region 9 with fail
            have s0 : Below (w.heap.size + 1) wr wr.drew := Below.drew (Below.refl _ _)
            have zr : w.heap.size + 2 ≤ wr.heap.size := by have := henv.lt; have := henv.ge; omega
            have x4 : ∀ wy, Below (w.heap.size + 1) wr wy → wy.cell? ⟨w.heap.size, 4, none⟩ = some (.slice F.blk.a F.blk.n F.blk.c) := fun wy h => (h.cell (by show w.heap.size < _; omega)).trans c4
            have xk : ∀ wy, Below (w.heap.size + 1) wr wy → wy.cell? ⟨bb, oo, none⟩ = some (.slice (F.B j).a (F.B j).n (F.B j).c) := fun wy h => (h.cell (by show bb < _; omega)).trans hck
            have hI := hI0.on henv.low
            have xI : ∀ wy, Below (w.heap.size + 1) wr wy → InsAt wy ib io (F.I j k) := fun wy h => hI.kept (p := fun b => b < w.heap.size + 1) ⟨h.size, fun b hb => h.block b hb⟩ (by show ib < _; omega)
            have i0 : ∀ wy, Below (w.heap.size + 1) wr wy → wy.cell? ⟨ib, io, none⟩ = some (.int .i64 (F.I j k).op) := fun wy h => (xI wy h).c0
            have i1 : ∀ wy, Below (w.heap.size + 1) wr wy → wy.cell? ⟨ib, io + 1, none⟩ = some (.int .i64 (F.I j k).ty) := fun wy h => (xI wy h).c1
            have i2 : ∀ wy, Below (w.heap.size + 1) wr wy → wy.cell? ⟨ib, io + 2, none⟩ = some (.int .i64 (F.I j k).to) := fun wy h => (xI wy h).c2
            have i3 : ∀ wy, Below (w.heap.size + 1) wr wy → wy.cell? ⟨ib, io + 3, none⟩ = some (.int .i64 (F.I j k).sym) := fun wy h => (xI wy h).c3
            have i4 : ∀ wy, Below (w.heap.size + 1) wr wy → wy.cell? ⟨ib, io + 4, none⟩ = some (.int .i64 (F.I j k).num) := fun wy h => (xI wy h).c4
            have i5 : ∀ wy, Below (w.heap.size + 1) wr wy → wy.cell? ⟨ib, io + 5, none⟩ = some (.slice (F.I j k).args.a (F.I j k).args.n (F.I j k).args.c) := fun wy h => (xI wy h).c5
            have i6 : ∀ wy, Below (w.heap.size + 1) wr wy → wy.cell? ⟨ib, io + 6, none⟩ = some (.slice (F.I j k).into.a (F.I j k).into.n (F.I j k).into.c) := fun wy h => (xI wy h).c6
            have sec : ∀ {w2 : World}, Below wr.drew.heap.size wr.drew w2 → Below (w.heap.size + 1) wr w2 := fun h => s0.trans (h.mono (by show _ ≤ wr.heap.size; omega))
            have sed : ∀ {w2 : World} (h : Below wr.drew.heap.size wr.drew w2) (o : Obj), Below (w.heap.size + 1) wr (w2.alloc o) := fun h o => (sec h).alloc (by have := h.size; have : wr.drew.heap.size = wr.heap.size := rfl; omega) o
            have see : ∀ {w2 w4 : World} {o : Obj} (h : Below wr.drew.heap.size wr.drew w2), (w2.alloc o).grownBy w4 (slv vs).ownBlock → Below (w.heap.size + 1) wr w4 := fun h g => (sed h _).grown g (by rw [World.size_alloc]; have := h.size; have : wr.drew.heap.size = wr.heap.size := rfl; omega) (fun b hb => by have := (HP.out.1.cur.lt b hb).1; omega)
            have cc : ∀ {w2 : World}, Below wr.drew.heap.size wr.drew w2 → w2.cell? ⟨N5, 0, none⟩ = some (.slice vs.a vs.n vs.c) := fun h => cell_on (w := wr.drew) h HP.out.2.2.1
            have cd : ∀ {w2 : World} (h : Below wr.drew.heap.size wr.drew w2) (o : Obj), (w2.alloc o).cell? ⟨N5, 0, none⟩ = some (.slice vs.a vs.n vs.c) := fun h o => cell_on (new (same _) o) (cc h)
            have fin : ∀ {w2 : World} (h : Below wr.drew.heap.size wr.drew w2) (ta ti : Sl), ∃ v' w4, (Builtin.append_ #[37, 37] 37 #[.slice vs.a vs.n vs.c, .slice (some ⟨w2.heap.size, 0, none⟩) 1 1]).run Try.prog (w2.alloc (.cells ({ F.I j k with args := ta, into := ti } : IV).cells 42)) = .ok v' w4 ∧ w4.ownsRow (w.heap.size + 2) 42 7 v' (k + 1) (flat (cpI F S j) k ++ ({ F.I j k with args := ta, into := ti } : IV).cells.toList) ∧ (w2.alloc (.cells ({ F.I j k with args := ta, into := ti } : IV).cells 42)).grownBy w4 (slv vs).ownBlock ∧ (v'.ownBlock = (slv vs).ownBlock ∨ v'.ownBlock = some (w2.heap.size + 1)) := fun h ta ti =>
              app_ins (owns_on (more (Below.drew (same wr)) h) HP.out.1.cur) (by omega) (by have := h.size; have : wr.drew.heap.size = wr.heap.size := rfl; omega) _ _
            have fzz : ∀ {w2 w4 : World} {o : Obj} (h : Below wr.drew.heap.size wr.drew w2), (w2.alloc o).grownBy w4 (slv vs).ownBlock → w4.frozen? ⟨N5, 0, none⟩ = false := fun {w2 w4 o} h g => by
              have z := h.size
              have : wr.drew.heap.size = wr.heap.size := rfl
              rw [World.frozen?_of_block (w := w2.alloc o) (g.block N5 (by simp; omega) (fun e => HP.out.1.avv N5 e.symm (.inr rfl))), World.frozen?_alloc_old _ _ _ (by show N5 ≠ _; omega), h.frozen (by show N5 < wr.heap.size; omega)]
              exact HP.out.2.2.2.1
            have ce : ∀ {w2 w4 : World} {o : Obj} (h : Below wr.drew.heap.size wr.drew w2), (w2.alloc o).grownBy w4 (slv vs).ownBlock → w4.cell? ⟨N5, 0, none⟩ = some (.slice vs.a vs.n vs.c) := fun {w2 w4 o} h g => by
              have z := h.size
              have : wr.drew.heap.size = wr.heap.size := rfl
              rw [World.cell?_of_block (w := w2.alloc o) (g.block N5 (by simp; omega) (fun e => HP.out.1.avv N5 e.symm (.inr rfl)))]
              exact cd h o
            have hcb' : wr.cell? ⟨N5, 0, none⟩ = some (.slice vs.a vs.n vs.c) := hcb
            clear hpart henv c0 c1 c2 c3 c4 hck0 hck hI0 hI xI hcb hfb
            refine wp_region_noPanic ?_
            refine wp_region_held_drew (S := fun wy => Below (w.heap.size + 1) wr wy) (by kernel_rfl) s0 (fun hS => ?_)
            refine takeAt (i := 0) (d := some 36) (v := ?vn0) rfl (by rfl) (by kernel_rfl) (by kernel_rfl) (by kernel_rfl) (fun _ _ _ h => h) (Or.inl ⟨by rfl, ?yn0⟩) hS ?_
            case yn0 => intro wx hSw; (go_simp) <;> with_reducible rfl
            simp only [Act.put, List.setIfInBounds_toArray, List.set_cons_zero, List.set_cons_succ]
            refine takeAt (i := 2) (d := some 38) (v := ?vn2) rfl (by rfl) (by kernel_rfl) (by kernel_rfl) (by kernel_rfl) (fun _ _ _ h => h) (Or.inl ⟨by rfl, ?yn2⟩) hS ?_
            case yn2 => intro wx hSw; (go_simp) <;> with_reducible rfl
            simp only [Act.put, List.setIfInBounds_toArray, List.set_cons_zero, List.set_cons_succ]
            refine takeAt (i := 3) (d := some 39) (v := ?vn3) rfl (by rfl) (by kernel_rfl) (by kernel_rfl) (by kernel_rfl) (fun _ _ _ h => h) (Or.inl ⟨by rfl, ?yn3⟩) hS ?_
            case yn3 => intro wx hSw; (go_simp) <;> with_reducible rfl
            simp only [Act.put, List.setIfInBounds_toArray, List.set_cons_zero, List.set_cons_succ]
            refine takeAt (i := 4) (d := some 40) (v := ?vn4) rfl (by rfl) (by kernel_rfl) (by kernel_rfl) (by kernel_rfl) (fun _ _ _ h => h) (Or.inl ⟨by rfl, ?yn4⟩) hS ?_
            case yn4 => intro wx hSw; (go_simp) <;> with_reducible rfl
            simp only [Act.put, List.setIfInBounds_toArray, List.set_cons_zero, List.set_cons_succ]
            refine takeAt (i := 5) (d := some 41) (v := ?vn5) rfl (by rfl) (by kernel_rfl) (by kernel_rfl) (by kernel_rfl) (fun _ _ _ h => h) (Or.inl ⟨by rfl, ?yn5⟩) hS ?_
            case yn5 => intro wx hSw; (go_simp) <;> with_reducible rfl
            simp only [Act.put, List.setIfInBounds_toArray, List.set_cons_zero, List.set_cons_succ]
            refine takeAt (i := 6) (d := some 42) (v := ?vn6) rfl (by rfl) (by kernel_rfl) (by kernel_rfl) (by kernel_rfl) (fun _ _ _ h => h) (Or.inl ⟨by rfl, ?yn6⟩) hS ?_
            case yn6 => intro wx hSw; (go_simp) <;> with_reducible rfl
            simp only [Act.put, List.setIfInBounds_toArray, List.set_cons_zero, List.set_cons_succ]
            refine takeAt (i := 7) (d := some 43) (v := ?vn7) rfl (by rfl) (by kernel_rfl) (by kernel_rfl) (by kernel_rfl) (fun _ _ _ h => h) (Or.inl ⟨by rfl, ?yn7⟩) hS ?_
            case yn7 => intro wx hSw; (go_simp) <;> with_reducible rfl
            simp only [Act.put, List.setIfInBounds_toArray, List.set_cons_zero, List.set_cons_succ]
            refine takeAt (i := 8) (d := some 44) (v := ?vn8) rfl (by rfl) (by kernel_rfl) (by kernel_rfl) (by kernel_rfl) (fun _ _ _ h => h) (Or.inl ⟨by rfl, ?yn8⟩) hS ?_
            case yn8 => intro wx hSw; (go_simp) <;> with_reducible rfl
            simp only [Act.put, List.setIfInBounds_toArray, List.set_cons_zero, List.set_cons_succ]
            refine takeAt (i := 9) (d := some 45) (v := ?vn9) rfl (by rfl) (by kernel_rfl) (by kernel_rfl) (by kernel_rfl) (fun _ _ _ h => h) (Or.inl ⟨by rfl, ?yn9⟩) hS ?_
            case yn9 => intro wx hSw; (go_simp) <;> with_reducible rfl
            simp only [Act.put, List.setIfInBounds_toArray, List.set_cons_zero, List.set_cons_succ]
            refine takeAt (i := 10) (d := some 46) (v := ?vn10) rfl (by rfl) (by kernel_rfl) (by kernel_rfl) (by kernel_rfl) (fun _ _ _ h => h) (Or.inl ⟨by rfl, ?yn10⟩) hS ?_
            case yn10 => intro wx hSw; (go_simp) <;> with_reducible rfl
            simp only [Act.put, List.setIfInBounds_toArray, List.set_cons_zero, List.set_cons_succ]
            refine wpAnyH_ready (rs := [1, 11]) (by kernel_rfl) (by simp) ?_
            refine AllReadyH.cons rfl (fun K hK => ?_) (AllReadyH.cons rfl (fun K hK => ?_) AllReadyH.nil)
            · go_simp
              refine hK.out _ _ s0 (fun _ => ?_)
              clear hK K
              replace hS := s0
              try simp only [Act.put, List.setIfInBounds_toArray, List.set_cons_zero, List.set_cons_succ]
              refine wpAnyH_ready (rs := [11]) (by kernel_rfl) (by simp) ?_
              refine AllReadyH.cons rfl (fun K hK => ?_) AllReadyH.nil
              go_simp
              refine (copyIns_ref (F.I j k) (F.A j k) (F.J j k) _ HIA.out HII.out ga gi).mono ?_
              rintro e w2 ⟨ta, ti, rfl, tw, hb2⟩
              go_wp2_with fail
              have s2 := sec hb2
              obtain ⟨v5, w4, hrun, hown4, hgr4, hat4⟩ := fin hb2 ta ti
              obtain ⟨sv, rfl⟩ := owns_slv hown4
              have hc4 := ce hb2 hgr4
              have hc2 := cc hb2
              have hc3 := cd hb2 (.cells ({ F.I j k with args := ta, into := ti } : IV).cells 42)
              have s3 := sed hb2 (.cells ({ F.I j k with args := ta, into := ti } : IV).cells 42)
              have s4 := see hb2 hgr4
              have s5 := s4.setCell (p := ⟨N5, 0, none⟩) (by show _ ≤ N5; omega) (.slice sv.a sv.n sv.c)
              have fz4 := fzz hb2 hgr4
              refine hK.out _ _ s2 (fun _ => ?_)
              clear hK K
              replace hS := s2
              try simp only [Act.put, List.setIfInBounds_toArray, List.set_cons_zero, List.set_cons_succ]
              refine wpAnyH_ready (rs := [12]) (by kernel_rfl) (by simp) ?_
              refine AllReadyH.cons rfl (fun K hK => ?_) AllReadyH.nil
              go_simp
              refine hK.out _ _ s3 (fun _ => ?_)
              clear hK K
              replace hS := s3
              try simp only [Act.put, List.setIfInBounds_toArray, List.set_cons_zero, List.set_cons_succ]
              refine wpAnyH_ready (rs := [13]) (by kernel_rfl) (by simp) ?_
              refine AllReadyH.cons rfl (fun K hK => ?_) AllReadyH.nil
              rw [if_pos (by rfl)]
              refine wp_app (s := .tmp 37) (x := .tmp 48) (t := 37) (d := some 49) rfl rfl rfl rfl rfl hrun ?_
              try simp only [Act.put, List.setIfInBounds_toArray, List.set_cons_zero, List.set_cons_succ]
              refine hK.out _ _ s4 (fun _ => ?_)
              clear hK K
              replace hS := s4
              try simp only [Act.put, List.setIfInBounds_toArray, List.set_cons_zero, List.set_cons_succ]
              refine takeAt (i := 14) (d := some 50) (v := ?vna14) rfl (by rfl) (by kernel_rfl) (by kernel_rfl) (by kernel_rfl) (fun _ _ _ h => h) (Or.inl ⟨by rfl, ?yna14⟩) hS ?_
              case yna14 => intro wx hSw; (go_simp) <;> with_reducible rfl
              simp only [Act.put, List.setIfInBounds_toArray, List.set_cons_zero, List.set_cons_succ]
              refine wpAnyH_ready (rs := [15]) (by kernel_rfl) (by simp) ?_
              refine AllReadyH.cons rfl (fun K hK => ?_) AllReadyH.nil
              go_simp
              refine hK.out _ _ s5 (fun _ => ?_)
              clear hK K
              replace hS := s5
              try simp only [Act.put, List.setIfInBounds_toArray, List.set_cons_zero, List.set_cons_succ]
              refine wpAnyH_done (by kernel_rfl) ?_ _
              refine NoPanic.normal ?_
              go_wp2_with fail
              go_round
              case rel => exact ⟨k + 1, by omega, by go_num, in_step HP.out.1 HP.out.2.1 HP.out.2.2.1 HP.out.2.2.2.1 HP.out.2.2.2.2.1 HP.out.2.2.2.2.2 tw hb2 hown4 hgr4 hat4⟩
              case measure => simp [intOf]; omega
            · go_simp
              refine (copyIns_ref (F.I j k) (F.A j k) (F.J j k) _ HIA.out HII.out ga gi).mono ?_
              rintro e w2 ⟨ta, ti, rfl, tw, hb2⟩
              go_wp2_with fail
              have s2 := sec hb2
              obtain ⟨v5, w4, hrun, hown4, hgr4, hat4⟩ := fin hb2 ta ti
              obtain ⟨sv, rfl⟩ := owns_slv hown4
              have hc4 := ce hb2 hgr4
              have hc2 := cc hb2
              have hc3 := cd hb2 (.cells ({ F.I j k with args := ta, into := ti } : IV).cells 42)
              have s3 := sed hb2 (.cells ({ F.I j k with args := ta, into := ti } : IV).cells 42)
              have s4 := see hb2 hgr4
              have s5 := s4.setCell (p := ⟨N5, 0, none⟩) (by show _ ≤ N5; omega) (.slice sv.a sv.n sv.c)
              have fz4 := fzz hb2 hgr4
              refine hK.out _ _ s2 (fun _ => ?_)
              clear hK K
              replace hS := s2
              try simp only [Act.put, List.setIfInBounds_toArray, List.set_cons_zero, List.set_cons_succ]
              refine wpAnyH_ready (rs := [1, 12]) (by kernel_rfl) (by simp) ?_
              refine AllReadyH.cons rfl (fun K hK => ?_) (AllReadyH.cons rfl (fun K hK => ?_) AllReadyH.nil)
              · go_simp
                refine hK.out _ _ s2 (fun _ => ?_)
                clear hK K
                replace hS := s2
                try simp only [Act.put, List.setIfInBounds_toArray, List.set_cons_zero, List.set_cons_succ]
                refine wpAnyH_ready (rs := [12]) (by kernel_rfl) (by simp) ?_
                refine AllReadyH.cons rfl (fun K hK => ?_) AllReadyH.nil
                go_simp
                refine hK.out _ _ s3 (fun _ => ?_)
                clear hK K
                replace hS := s3
                try simp only [Act.put, List.setIfInBounds_toArray, List.set_cons_zero, List.set_cons_succ]
                refine wpAnyH_ready (rs := [13]) (by kernel_rfl) (by simp) ?_
                refine AllReadyH.cons rfl (fun K hK => ?_) AllReadyH.nil
                rw [if_pos (by rfl)]
                refine wp_app (s := .tmp 37) (x := .tmp 48) (t := 37) (d := some 49) rfl rfl rfl rfl rfl hrun ?_
                try simp only [Act.put, List.setIfInBounds_toArray, List.set_cons_zero, List.set_cons_succ]
                refine hK.out _ _ s4 (fun _ => ?_)
                clear hK K
                replace hS := s4
                try simp only [Act.put, List.setIfInBounds_toArray, List.set_cons_zero, List.set_cons_succ]
                refine takeAt (i := 14) (d := some 50) (v := ?vnb14) rfl (by rfl) (by kernel_rfl) (by kernel_rfl) (by kernel_rfl) (fun _ _ _ h => h) (Or.inl ⟨by rfl, ?ynb14⟩) hS ?_
                case ynb14 => intro wx hSw; (go_simp) <;> with_reducible rfl
                simp only [Act.put, List.setIfInBounds_toArray, List.set_cons_zero, List.set_cons_succ]
                refine wpAnyH_ready (rs := [15]) (by kernel_rfl) (by simp) ?_
                refine AllReadyH.cons rfl (fun K hK => ?_) AllReadyH.nil
                go_simp
                refine hK.out _ _ s5 (fun _ => ?_)
                clear hK K
                replace hS := s5
                try simp only [Act.put, List.setIfInBounds_toArray, List.set_cons_zero, List.set_cons_succ]
                refine wpAnyH_done (by kernel_rfl) ?_ _
                refine NoPanic.normal ?_
                go_wp2_with fail
                go_round
                case rel => exact ⟨k + 1, by omega, by go_num, in_step HP.out.1 HP.out.2.1 HP.out.2.2.1 HP.out.2.2.2.1 HP.out.2.2.2.2.1 HP.out.2.2.2.2.2 tw hb2 hown4 hgr4 hat4⟩
                case measure => simp [intOf]; omega
              · go_simp
                refine hK.out _ _ s3 (fun _ => ?_)
                clear hK K
                replace hS := s3
                try simp only [Act.put, List.setIfInBounds_toArray, List.set_cons_zero, List.set_cons_succ]
                refine wpAnyH_ready (rs := [1]) (by kernel_rfl) (by simp) ?_
                refine AllReadyH.cons rfl (fun K hK => ?_) AllReadyH.nil
                go_simp
                refine hK.out _ _ s3 (fun _ => ?_)
                clear hK K
                replace hS := s3
                try simp only [Act.put, List.setIfInBounds_toArray, List.set_cons_zero, List.set_cons_succ]
                refine wpAnyH_ready (rs := [13]) (by kernel_rfl) (by simp) ?_
                refine AllReadyH.cons rfl (fun K hK => ?_) AllReadyH.nil
                rw [if_pos (by rfl)]
                refine wp_app (s := .tmp 37) (x := .tmp 48) (t := 37) (d := some 49) rfl rfl rfl rfl rfl hrun ?_
                try simp only [Act.put, List.setIfInBounds_toArray, List.set_cons_zero, List.set_cons_succ]
                refine hK.out _ _ s4 (fun _ => ?_)
                clear hK K
                replace hS := s4
                try simp only [Act.put, List.setIfInBounds_toArray, List.set_cons_zero, List.set_cons_succ]
                refine takeAt (i := 14) (d := some 50) (v := ?vnc14) rfl (by rfl) (by kernel_rfl) (by kernel_rfl) (by kernel_rfl) (fun _ _ _ h => h) (Or.inl ⟨by rfl, ?ync14⟩) hS ?_
                case ync14 => intro wx hSw; (go_simp) <;> with_reducible rfl
                simp only [Act.put, List.setIfInBounds_toArray, List.set_cons_zero, List.set_cons_succ]
                refine wpAnyH_ready (rs := [15]) (by kernel_rfl) (by simp) ?_
                refine AllReadyH.cons rfl (fun K hK => ?_) AllReadyH.nil
                go_simp
                refine hK.out _ _ s5 (fun _ => ?_)
                clear hK K
                replace hS := s5
                try simp only [Act.put, List.setIfInBounds_toArray, List.set_cons_zero, List.set_cons_succ]
                refine wpAnyH_done (by kernel_rfl) ?_ _
                refine NoPanic.normal ?_
                go_wp2_with fail
                go_round
                case rel => exact ⟨k + 1, by omega, by go_num, in_step HP.out.1 HP.out.2.1 HP.out.2.2.1 HP.out.2.2.2.1 HP.out.2.2.2.2.1 HP.out.2.2.2.2.2 tw hb2 hown4 hgr4 hat4⟩
                case measure => simp [intOf]; omega
          · obtain rfl : k = (F.B j).n := by omega
            obtain ⟨d0, d1, d2, d3, d4⟩ := henv.fg
            obtain ⟨v5, w5, hrun, hown5, hgr5, hat5⟩ := app_blk (w2 := wr) hpart.blks (by omega) (by have := henv.lt; have := henv.ge; omega) vs 33
            obtain ⟨sv, rfl⟩ := owns_slv hown5
            have hgk : w5.heap[Gb]? = wr.heap[Gb]? := by
              rw [hgr5.block Gb (by simp; have := henv.lt; omega) (fun e => hpart.avb Gb e.symm (.inl (.inl rfl))), Below.heap_alloc _ _ _ henv.lt]
            have k4 : w5.cell? ⟨Gb, 4, none⟩ = some (.slice bs.a bs.n bs.c) := by rw [World.cell?_of_block (w := wr) hgk]; exact d4
            have kf : w5.frozen? ⟨Gb, 4, none⟩ = false := by rw [World.frozen?_of_block (w := wr) hgk]; exact henv.zg 4
            clear hpart henv c0 c1 c2 c3 hfb hgk d0 d1 d2 d3
            go_wp2_with (at_builtin; refine wpList_app (.tmp 52) (.tmp 54) rfl rfl rfl rfl rfl hrun ?_)
            go_round
            case rel => exact ⟨j + 1, by omega, by go_num, out_step HP.out.1 HP.out.2.1 (by omega) hown5 hgr5 hat5⟩
            case measure => simp [intOf]; omega
      · obtain rfl : j = F.blk.n := by omega
        obtain ⟨d0, d1, d2, d3, d4⟩ := henv.fg
        obtain ⟨z0, z1, z2, z3, z4⟩ := henv.fz
        have zz := henv.zz
        have HP := hid (And.intro hpart henv)
        clear hpart henv
        go_wp2_with fail
        refine bodyPost_ret (v := ({ F with par := sp, blk := bs } : FV).val) (by rw [results_cell rfl]; go_simp) rfl ?_
        exact out_end HP.out.1 HP.out.2 HL.out _ _ _ _ _

end Go.Proofs.Ytclioagemjpnoaa.Own
