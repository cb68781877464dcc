/-
  A function copied by append: rows that grow; each in a block of its own. plnref3.CopyFunc, what it leaves.
-/
import Derived.Test.YtahjippocejphaaRefC
import Derived.Test.YtahjippocejphaaOwn
import Derived.Maps.AppendAt
namespace Go.Proofs.Ytahjippocejphaa.Own
open Go.RowKit View Rd Copy Srt

set_option linter.unusedVariables false

abbrev slv (s : Sl) : Value := .slice s.a s.n s.c

def bk (s : Sl) : Option Nat := if 0 < s.n then some (blkOf s) else none

theorem bk_pos {s : Sl} (h : 0 < s.n) : bk s = some (blkOf s) := if_pos h

/-- What has been copied: the rows of the blocks below j, and those of j's first k. -/
def Dn (F : FV) (j k : Nat) : Id → Prop
  | .row a => a < j
  | .arg a t => (a < j ∧ t < (F.B a).n) ∨ (a = j ∧ t < k)
  | .int a t => (a < j ∧ t < (F.B a).n) ∨ (a = j ∧ t < k)

abbrev cpI (F : FV) (S : Id → Sl) (a t : Nat) : IV := { F.I a t with args := S (.arg a t), into := S (.int a t) }

def Cont (F : FV) (w : World) (S : Id → Sl) : Id → Prop
  | .row a => Inss w (S (.row a)) (cpI F S a)
  | .arg a t => Ints w (S (.arg a t)) (F.A a t)
  | .int a t => Ints w (S (.int a t)) (F.J a t)

structure Part (F : FV) (base : Nat) (X : Nat → Prop) (w : World) (j k : Nat) (v bv : Value) (sp : Sl) (S : Id → Sl) : Prop where
  len : ∀ x, Dn F j k x → (S x).n = (sl F x).n
  mine : ∀ x, Dn F j k x → Mine base w.heap.size w (S x)
  cont : ∀ x, Dn F j k x → Cont F w S x
  sep : ∀ x y, Dn F j k x → Dn F j k y → 0 < (S x).n → 0 < (S y).n → blkOf (S x) = blkOf (S y) → x = y
  cur : w.ownsRow base 42 7 v k (flat (cpI F S j) k)
  blks : w.ownsRow base 39 1 bv j ((List.range j).map (fun a => slv (S (.row a))))
  far : ∀ x, Dn F j k x → 0 < (S x).n → some (blkOf (S x)) ≠ v.ownBlock ∧ some (blkOf (S x)) ≠ bv.ownBlock ∧ some (blkOf (S x)) ≠ bk sp
  par : Ints w sp F.P
  pn : sp.n = F.par.n
  pm : Mine base w.heap.size w sp
  pfar : 0 < sp.n → some (blkOf sp) ≠ v.ownBlock ∧ some (blkOf sp) ≠ bv.ownBlock
  av : ∀ x, Dn F j k x → 0 < (S x).n → ¬ X (blkOf (S x))
  avv : ∀ g, v.ownBlock = some g → ¬ X g
  avb : ∀ g, bv.ownBlock = some g → ¬ X g
  avp : 0 < sp.n → ¬ X (blkOf sp)
  xl : ∀ g, X g → g < w.heap.size

theorem mine_blk {base : Nat} {w : World} {s : Sl} (h : Mine base w.heap.size w s) (h0 : 0 < s.n) : s.a = some ⟨blkOf s, 0, none⟩ ∧ base ≤ blkOf s ∧ blkOf s < w.heap.size ∧ ∀ i, w.frozen? ⟨blkOf s, i, none⟩ = false := by
  obtain ⟨g, h1, h2, h3, h4⟩ := h h0
  rw [blkOf_eq h1]
  exact ⟨h1, h2, h3, h4⟩

theorem two_kinds {w : World} {base base' z z' n n' e e' : Nat} {v v' : Value} {xs xs' : List Value} (hne : e ≠ e') (h : w.ownsRow base e z v n xs) (h' : w.ownsRow base' e' z' v' n' xs') : ∀ g, v.ownBlock = some g → v'.ownBlock ≠ some g := by
  intro g e1 e2
  rcases h.2 with ⟨rfl, _⟩ | ⟨g1, cap, cur, rfl, _, hg, _⟩
  · simp [Value.ownBlock] at e1
  · rcases h'.2 with ⟨rfl, _⟩ | ⟨g2, cap2, cur2, rfl, _, hg2, _⟩
    · simp [Value.ownBlock] at e2
    · simp [Value.ownBlock] at e1 e2
      subst e1
      subst e2
      rw [hg] at hg2
      simp at hg2
      exact hne hg2.2

/-- One row is kept. -/
theorem mine_kept {base : Nat} {w w' : World} {s : Sl} (h : Mine base w.heap.size w s) (hz : w.heap.size ≤ w'.heap.size) (hb : 0 < s.n → w'.heap[blkOf s]? = w.heap[blkOf s]?) : Mine base w'.heap.size w' s := fun h0 => by
  obtain ⟨h1, h2, h3, h4⟩ := mine_blk h h0
  exact ⟨_, h1, h2, by omega, fun i => by rw [World.frozen?_of_block (w := w) (hb h0)]; exact h4 i⟩

theorem ints_blk {base : Nat} {w w' : World} {s : Sl} {f : Nat → Int} (hm : Mine base w.heap.size w s) (h : Ints w s f) (hz : w.heap.size ≤ w'.heap.size) (hb : 0 < s.n → w'.heap[blkOf s]? = w.heap[blkOf s]?) : Ints w' s f := by
  by_cases h0 : 0 < s.n
  · obtain ⟨h1, _⟩ := mine_blk hm h0
    exact h.kept (p := fun k => k = blkOf s) ⟨hz, fun k hk => by subst hk; exact hb h0⟩ (fun b off e _ => adr_inj h1 e)
  · exact ⟨h.1, h.2.1, h.2.2.1, fun h => absurd h h0⟩

theorem inss_blk {base : Nat} {w w' : World} {s : Sl} {f : Nat → IV} (hm : Mine base w.heap.size w s) (h : Inss w s f) (hz : w.heap.size ≤ w'.heap.size) (hb : 0 < s.n → w'.heap[blkOf s]? = w.heap[blkOf s]?) : Inss w' s f := by
  by_cases h0 : 0 < s.n
  · obtain ⟨h1, _⟩ := mine_blk hm h0
    exact Inss_kept h (p := fun k => k = blkOf s) ⟨hz, fun k hk => by subst hk; exact hb h0⟩ (fun b off e _ => adr_inj h1 e)
  · exact ⟨h.1, h.2.1, h.2.2.1, fun h => absurd h h0⟩

/-- The blocks of what has been copied are as they were. -/
theorem Part.to {F : FV} {base : Nat} {X : Nat → Prop} {w w' : World} {j k : Nat} {v bv : Value} {sp : Sl} {S : Id → Sl} (h : Part F base X w j k v bv sp S) (hz : w.heap.size ≤ w'.heap.size) (hb : ∀ g, base ≤ g → g < w.heap.size → ¬ X g → w'.heap[g]? = w.heap[g]?) : Part F base X w' j k v bv sp S := by
  have hm : ∀ s : Sl, Mine base w.heap.size w s → (0 < s.n → ¬ X (blkOf s)) → 0 < s.n → w'.heap[blkOf s]? = w.heap[blkOf s]? := fun s m hx h0 => by
    obtain ⟨_, h2, h3, _⟩ := mine_blk m h0
    exact hb _ h2 h3 (hx h0)
  have ho : ∀ {e z n : Nat} {v : Value} {xs : List Value}, w.ownsRow base e z v n xs → (∀ g, v.ownBlock = some g → ¬ X g) → w'.ownsRow base e z v n xs := fun {e z n v xs} o hx => by
    refine ⟨o.1, ?_⟩
    rcases o.2 with q | ⟨g, cap, cur, h1, h2, h3, h4⟩
    · exact .inl q
    · exact .inr ⟨g, cap, cur, h1, h2, by rw [hb g h2 (Array.getElem?_eq_some_iff.1 h3).1 (hx g (by rw [h1]; rfl))]; exact h3, h4⟩
  refine ⟨h.len, fun x hx => mine_kept (h.mine x hx) hz (hm _ (h.mine x hx) (h.av x hx)), fun x hx => ?_, h.sep, ho h.cur h.avv, ho h.blks h.avb, h.far, ints_blk h.pm h.par hz (hm _ h.pm h.avp), h.pn, mine_kept h.pm hz (hm _ h.pm h.avp), h.pfar, h.av, h.avv, h.avb, h.avp, fun g hg => Nat.lt_of_lt_of_le (h.xl g hg) hz⟩
  have hc := h.cont x hx
  have hmx := h.mine x hx
  cases x with
  | row a => exact inss_blk hmx hc hz (hm _ hmx (h.av _ hx))
  | arg a t => exact ints_blk hmx hc hz (hm _ hmx (h.av _ hx))
  | int a t => exact ints_blk hmx hc hz (hm _ hmx (h.av _ hx))

theorem Part.on {F : FV} {base : Nat} {X : Nat → Prop} {w w' : World} {j k : Nat} {v bv : Value} {sp : Sl} {S : Id → Sl} (h : Part F base X w j k v bv sp S) (hb : Below w.heap.size w w') : Part F base X w' j k v bv sp S :=
  h.to hb.size (fun g _ h2 _ => hb.block g h2)

/-- A block that is none of the rows is written. -/
theorem Part.write {F : FV} {base : Nat} {X : Nat → Prop} {w : World} {j k : Nat} {v bv : Value} {sp : Sl} {S : Id → Sl} (h : Part F base X w j k v bv sp S) {a : Addr} (ha : X a.block) (u : Value) : Part F base X (w.setCell a u) j k v bv sp S :=
  h.to (by simp) (fun g _ _ hx => Below.heap_setCell _ _ _ _ (fun e => hx (e ▸ ha)))

/-- A new block is none of the rows. -/
theorem Part.alloc {F : FV} {base : Nat} {X : Nat → Prop} {w : World} {j k : Nat} {v bv : Value} {sp : Sl} {S : Id → Sl} (h : Part F base X w j k v bv sp S) (o : Obj) : Part F base (fun g => X g ∨ g = w.heap.size) (w.alloc o) j k v bv sp S := by
  have q := h.on (new (same w) o)
  exact ⟨q.len, q.mine, q.cont, q.sep, q.cur, q.blks, q.far, q.par, q.pn, q.pm, q.pfar, fun x hx h0 e => e.elim (q.av x hx h0) (fun e => by have := (mine_blk (h.mine x hx) h0).2.2.1; omega), fun g hg e => e.elim (q.avv g hg) (fun e => by have := (h.cur.lt g hg).2; omega), fun g hg e => e.elim (q.avb g hg) (fun e => by have := (h.blks.lt g hg).2; omega), fun h0 e => e.elim (q.avp h0) (fun e => by have := (mine_blk h.pm h0).2.2.1; omega), fun g hg => hg.elim (q.xl g) (fun e => by simp; omega)⟩

theorem Part.less {F : FV} {base : Nat} {X Y : Nat → Prop} {w : World} {j k : Nat} {v bv : Value} {sp : Sl} {S : Id → Sl} (h : Part F base X w j k v bv sp S) (hy : ∀ g, Y g → X g) : Part F base Y w j k v bv sp S :=
  ⟨h.len, h.mine, h.cont, h.sep, h.cur, h.blks, h.far, h.par, h.pn, h.pm, h.pfar, fun x hx h0 e => h.av x hx h0 (hy _ e), fun g hg e => h.avv g hg (hy _ e), fun g hg e => h.avb g hg (hy _ e), fun h0 e => h.avp h0 (hy _ e), fun g hg => h.xl g (hy g hg)⟩

def setS (S : Id → Sl) (j k : Nat) (ta ti : Sl) : Id → Sl
  | .row a => S (.row a)
  | .arg a t => if a = j ∧ t = k then ta else S (.arg a t)
  | .int a t => if a = j ∧ t = k then ti else S (.int a t)

/-- One more is copied, and laid behind the others. -/
theorem Part.step {F : FV} {base : Nat} {X : Nat → Prop} {w w2 w4 : World} {j k : Nat} {v v' bv : Value} {sp : Sl} {S : Id → Sl} (h : Part F base X w j k v bv sp S) {ta ti : Sl} (hb2 : Below w.heap.size w w2)
    (tw : Copy.Twin w.heap.size w2.heap.size w2 ta ti (F.I j k) (F.A j k) (F.J j k)) (hbase : base ≤ w.heap.size)
    (own4 : w4.ownsRow base 42 7 v' (k + 1) (flat (cpI F S j) k ++ ({ F.I j k with args := ta, into := ti } : IV).cells.toList))
    (gr : (w2.alloc (.cells ({ F.I j k with args := ta, into := ti } : IV).cells 42)).grownBy w4 v.ownBlock)
    (hat : v'.ownBlock = v.ownBlock ∨ v'.ownBlock = some (w2.heap.size + 1)) : Part F base X w4 j (k + 1) v' bv sp (setS S j k ta ti) := by
  have z2 := hb2.size
  have z4 := gr.size
  simp only [World.size_alloc] at z4
  have hvl := h.cur.lt
  have hbl := h.blks.lt
  have kinds := two_kinds (by decide) h.cur h.blks
  -- blocks that are not v's are as they were in w2
  have hb4 : ∀ g, g < w2.heap.size → some g ≠ v.ownBlock → w4.heap[g]? = w2.heap[g]? := fun g hg hne => by
    rw [gr.block g (by simp; omega) hne, Below.heap_alloc _ _ _ hg]
  have hbw : ∀ g, g < w.heap.size → some g ≠ v.ownBlock → w4.heap[g]? = w.heap[g]? := fun g hg hne => by rw [hb4 g (by omega) hne, hb2.block g hg]
  have oldD : ∀ x, Dn F j (k + 1) x → x ≠ .arg j k → x ≠ .int j k → Dn F j k x ∧ setS S j k ta ti x = S x := by
    intro x hx n1 n2
    cases x with
    | row a => exact ⟨hx, rfl⟩
    | arg a t =>
      have hne : ¬ (a = j ∧ t = k) := fun e => n1 (by rw [e.1, e.2])
      refine ⟨?_, if_neg hne⟩
      rcases hx with h' | ⟨h1, h2⟩
      · exact .inl h'
      · exact .inr ⟨h1, by have : t ≠ k := fun e => hne ⟨h1, e⟩; omega⟩
    | int a t =>
      have hne : ¬ (a = j ∧ t = k) := fun e => n2 (by rw [e.1, e.2])
      refine ⟨?_, if_neg hne⟩
      rcases hx with h' | ⟨h1, h2⟩
      · exact .inl h'
      · exact .inr ⟨h1, by have : t ≠ k := fun e => hne ⟨h1, e⟩; omega⟩
  have sA : setS S j k ta ti (.arg j k) = ta := if_pos ⟨rfl, rfl⟩
  have sI : setS S j k ta ti (.int j k) = ti := if_pos ⟨rfl, rfl⟩
  have newA : 0 < ta.n → ∃ g, ta.a = some ⟨g, 0, none⟩ ∧ blkOf ta = g ∧ w.heap.size ≤ g ∧ g < w2.heap.size ∧ ∀ i, w2.frozen? ⟨g, i, none⟩ = false := fun h0 => by
    obtain ⟨g, a1, a2, a3, a4⟩ := tw.ma h0
    exact ⟨g, a1, blkOf_eq a1, a2, a3, a4⟩
  have newI : 0 < ti.n → ∃ g, ti.a = some ⟨g, 0, none⟩ ∧ blkOf ti = g ∧ w.heap.size ≤ g ∧ g < w2.heap.size ∧ ∀ i, w2.frozen? ⟨g, i, none⟩ = false := fun h0 => by
    obtain ⟨g, a1, a2, a3, a4⟩ := tw.mj h0
    exact ⟨g, a1, blkOf_eq a1, a2, a3, a4⟩
  have nv : ∀ g, w.heap.size ≤ g → some g ≠ v.ownBlock := fun g hg e => by have := (hvl g e.symm).2; omega
  have nb : ∀ g, w.heap.size ≤ g → some g ≠ bv.ownBlock := fun g hg e => by have := (hbl g e.symm).2; omega
  have np : ∀ g, w.heap.size ≤ g → some g ≠ bk sp := fun g hg e => by
    unfold bk at e
    split at e
    · next h0 => have := (mine_blk h.pm h0).2.2.1; have := Option.some.inj e; omega
    · cases e
  have nv' : ∀ g, g < w2.heap.size → some g ≠ v.ownBlock → some g ≠ v'.ownBlock := fun g hg hne e => by
    rcases hat with h' | h'
    · rw [h'] at e; exact hne e
    · rw [h'] at e; have := Option.some.inj e; omega
  have mA : Mine base w4.heap.size w4 ta := fun h0 => by
    obtain ⟨g, a1, a2, a3, a4, a5⟩ := newA h0
    exact ⟨g, a1, by omega, by omega, fun i => by rw [World.frozen?_of_block (w := w2) (hb4 g a4 (nv g a3))]; exact a5 i⟩
  have mI : Mine base w4.heap.size w4 ti := fun h0 => by
    obtain ⟨g, a1, a2, a3, a4, a5⟩ := newI h0
    exact ⟨g, a1, by omega, by omega, fun i => by rw [World.frozen?_of_block (w := w2) (hb4 g a4 (nv g a3))]; exact a5 i⟩
  have iA : Ints w4 ta (F.A j k) := tw.args.kept (p := fun g => g < w2.heap.size ∧ w.heap.size ≤ g) ⟨by omega, fun g hg => hb4 g hg.1 (nv g hg.2)⟩ (fun b off e h0 => by
    obtain ⟨g, a1, a2, a3, a4, _⟩ := newA h0
    rw [adr_inj a1 e]; exact ⟨a4, a3⟩)
  have iI : Ints w4 ti (F.J j k) := tw.into.kept (p := fun g => g < w2.heap.size ∧ w.heap.size ≤ g) ⟨by omega, fun g hg => hb4 g hg.1 (nv g hg.2)⟩ (fun b off e h0 => by
    obtain ⟨g, a1, a2, a3, a4, _⟩ := newI h0
    rw [adr_inj a1 e]; exact ⟨a4, a3⟩)
  have blkw : ∀ x, Dn F j k x → 0 < (S x).n → blkOf (S x) < w.heap.size := fun x hx h0 => (mine_blk (h.mine x hx) h0).2.2.1
  have keepX : ∀ x, Dn F j k x → 0 < (S x).n → w4.heap[blkOf (S x)]? = w.heap[blkOf (S x)]? := fun x hx h0 => hbw _ (blkw x hx h0) (h.far x hx h0).1
  have xw : ∀ g, w.heap.size ≤ g → ¬ X g := fun g hg e => by have := h.xl g e; omega
  refine ⟨fun x hx => ?_, fun x hx => ?_, fun x hx => ?_, fun x y hx hy h0 h0' e => ?_, ?_, ?_, fun x hx h0 => ?_, ?_, h.pn, ?_, fun h0 => ?_, fun x hx h0 => ?_, fun g hg => ?_, h.avb, h.avp, fun g hg => by have := h.xl g hg; omega⟩
  · by_cases e1 : x = .arg j k
    · rw [e1, sA]; exact tw.an
    · by_cases e2 : x = .int j k
      · rw [e2, sI]; exact tw.jn
      · obtain ⟨d, s⟩ := oldD x hx e1 e2
        rw [s]; exact h.len x d
  · by_cases e1 : x = .arg j k
    · rw [e1, sA]; exact mA
    · by_cases e2 : x = .int j k
      · rw [e2, sI]; exact mI
      · obtain ⟨d, s⟩ := oldD x hx e1 e2
        rw [s]; exact mine_kept (h.mine x d) (by omega) (keepX x d)
  · by_cases e1 : x = .arg j k
    · subst e1; show Ints w4 (setS S j k ta ti (.arg j k)) _; rw [sA]; exact iA
    · by_cases e2 : x = .int j k
      · subst e2; show Ints w4 (setS S j k ta ti (.int j k)) _; rw [sI]; exact iI
      · obtain ⟨d, s⟩ := oldD x hx e1 e2
        have hc := h.cont x d
        have hm := h.mine x d
        cases x with
        | row a =>
          have ha : a < j := d
          have : Inss w4 (S (.row a)) (cpI F S a) := inss_blk hm hc (by omega) (keepX _ d)
          have ef : cpI F (setS S j k ta ti) a = cpI F S a := by
            funext t
            show ({ F.I a t with args := if a = j ∧ t = k then ta else _, into := if a = j ∧ t = k then ti else _ } : IV) = _
            rw [if_neg (by omega), if_neg (by omega)]
          show Inss w4 (S (.row a)) (cpI F (setS S j k ta ti) a)
          rw [ef]; exact this
        | arg a t => show Ints w4 (setS S j k ta ti (.arg a t)) _; rw [s]; exact ints_blk hm hc (by omega) (keepX _ d)
        | int a t => show Ints w4 (setS S j k ta ti (.int a t)) _; rw [s]; exact ints_blk hm hc (by omega) (keepX _ d)
  · have old : ∀ z, Dn F j (k + 1) z → z ≠ .arg j k → z ≠ .int j k → 0 < (setS S j k ta ti z).n → blkOf (setS S j k ta ti z) < w.heap.size := fun z hz n1 n2 hp => by
      obtain ⟨d, s⟩ := oldD z hz n1 n2
      rw [s] at hp ⊢; exact blkw z d hp
    have newge : ∀ z, z = .arg j k ∨ z = .int j k → 0 < (setS S j k ta ti z).n → w.heap.size ≤ blkOf (setS S j k ta ti z) := fun z hz hp => by
      rcases hz with rfl | rfl
      · rw [sA] at hp ⊢; obtain ⟨g, _, a2, a3, _⟩ := newA hp; omega
      · rw [sI] at hp ⊢; obtain ⟨g, _, a2, a3, _⟩ := newI hp; omega
    by_cases x1 : x = .arg j k
    · by_cases y1 : y = .arg j k
      · rw [x1, y1]
      · by_cases y2 : y = .int j k
        · exfalso
          subst x1 y2
          rw [sA, sI] at e; rw [sA] at h0; rw [sI] at h0'
          obtain ⟨g, a1, a2, _⟩ := newA h0
          obtain ⟨g', b1, b2, _⟩ := newI h0'
          have := tw.ord g g' a1 b1 h0 h0'
          omega
        · have := old y hy y1 y2 h0'; have := newge x (.inl x1) h0; omega
    · by_cases x2 : x = .int j k
      · by_cases y1 : y = .arg j k
        · exfalso
          subst x2 y1
          rw [sA, sI] at e; rw [sI] at h0; rw [sA] at h0'
          obtain ⟨g, a1, a2, _⟩ := newA h0'
          obtain ⟨g', b1, b2, _⟩ := newI h0
          have := tw.ord g g' a1 b1 h0' h0
          omega
        · by_cases y2 : y = .int j k
          · rw [x2, y2]
          · have := old y hy y1 y2 h0'; have := newge x (.inr x2) h0; omega
      · by_cases y1 : y = .arg j k
        · have := old x hx x1 x2 h0; have := newge y (.inl y1) h0'; omega
        · by_cases y2 : y = .int j k
          · have := old x hx x1 x2 h0; have := newge y (.inr y2) h0'; omega
          · obtain ⟨d, s⟩ := oldD x hx x1 x2
            obtain ⟨d', s'⟩ := oldD y hy y1 y2
            rw [s] at h0 e; rw [s'] at h0' e
            exact h.sep x y d d' h0 h0' e
  · have ef : flat (cpI F (setS S j k ta ti) j) (k + 1) = flat (cpI F S j) k ++ ({ F.I j k with args := ta, into := ti } : IV).cells.toList := by
      rw [flat, flat_congr (g := cpI F S j) (fun t ht => by
        show ({ F.I j t with args := if j = j ∧ t = k then ta else _, into := if j = j ∧ t = k then ti else _ } : IV) = _
        rw [if_neg (by omega), if_neg (by omega)])]
      have e2 : cpI F (setS S j k ta ti) j k = ({ F.I j k with args := ta, into := ti } : IV) := by
        show ({ F.I j k with args := if j = j ∧ k = k then ta else _, into := if j = j ∧ k = k then ti else _ } : IV) = _
        rw [if_pos ⟨rfl, rfl⟩, if_pos ⟨rfl, rfl⟩]
      rw [e2]
    rw [ef]; exact own4
  · refine ⟨h.blks.1, ?_⟩
    rcases h.blks.2 with q | ⟨g, cap, cur, h1, h2, h3, h4⟩
    · exact .inl q
    · refine .inr ⟨g, cap, cur, h1, h2, ?_, h4⟩
      have hgb : bv.ownBlock = some g := by rw [h1]; rfl
      rw [hbw g (hbl g hgb).2 (fun e => kinds g e.symm hgb)]; exact h3
  · by_cases e1 : x = .arg j k
    · subst e1; rw [sA] at h0 ⊢
      obtain ⟨g, _, a2, a3, a4, _⟩ := newA h0
      rw [a2]; exact ⟨nv' g a4 (nv g a3), nb g a3, np g a3⟩
    · by_cases e2 : x = .int j k
      · subst e2; rw [sI] at h0 ⊢
        obtain ⟨g, _, a2, a3, a4, _⟩ := newI h0
        rw [a2]; exact ⟨nv' g a4 (nv g a3), nb g a3, np g a3⟩
      · obtain ⟨d, s⟩ := oldD x hx e1 e2
        rw [s] at h0 ⊢
        obtain ⟨q1, q2, q3⟩ := h.far x d h0
        exact ⟨nv' _ (by have := blkw x d h0; omega) q1, q2, q3⟩
  · exact ints_blk h.pm h.par (by omega) (fun h0 => hbw _ (mine_blk h.pm h0).2.2.1 (h.pfar h0).1)
  · exact mine_kept h.pm (by omega) (fun h0 => hbw _ (mine_blk h.pm h0).2.2.1 (h.pfar h0).1)
  · exact ⟨nv' _ (by have := (mine_blk h.pm h0).2.2.1; omega) (h.pfar h0).1, (h.pfar h0).2⟩
  · by_cases e1 : x = .arg j k
    · subst e1; rw [sA] at h0 ⊢
      obtain ⟨g, _, a2, a3, _⟩ := newA h0
      rw [a2]; exact xw g a3
    · by_cases e2 : x = .int j k
      · subst e2; rw [sI] at h0 ⊢
        obtain ⟨g, _, a2, a3, _⟩ := newI h0
        rw [a2]; exact xw g a3
      · obtain ⟨d, s⟩ := oldD x hx e1 e2
        rw [s] at h0 ⊢; exact h.av x d h0
  · rcases hat with h' | h'
    · exact h.avv g (by rw [← h']; exact hg)
    · rw [h'] at hg; have := Option.some.inj hg; exact xw g (by omega)

/-- What a row of instructions that was built by append is. -/
theorem inss_of_owns {w : World} {base : Nat} {v : Value} {k : Nat} {f : Nat → IV} (h : w.ownsRow base 42 7 v k (flat f k)) (hk : k ≤ 1000) :
    ∃ s : Sl, v = slv s ∧ s.n = k ∧ Inss w s f ∧ Mine base w.heap.size w s ∧ (0 < s.n → v.ownBlock = some (blkOf s)) := by
  rcases h.2 with ⟨rfl, rfl⟩ | ⟨g, cap, cur, rfl, hb, hg, hnc, hm, hs, ht⟩
  · exact ⟨⟨none, 0, 0⟩, rfl, rfl, ⟨Nat.le_refl _, Nat.zero_le _, fun _ => rfl, fun h => absurd h (by simp)⟩, fun h => absurd h (by simp), fun h => absurd h (by simp)⟩
  · have hlt : g < w.heap.size := (Array.getElem?_eq_some_iff.1 hg).1
    refine ⟨⟨some ⟨g, 0, none⟩, k, cap⟩, rfl, rfl, ⟨hnc, by show k ≤ _; omega, fun e => by simp at e, fun h0 => ⟨g, 0, rfl, fun i hi => ?_⟩⟩, fun h0 => ⟨g, rfl, hb, hlt, fun i => by simp [World.frozen?, hg]⟩, fun _ => rfl⟩
    simp only at hi
    have key : ∀ c, c < 7 → w.cell? ⟨g, 0 + i * 7 + c, none⟩ = (f i).cells.toList[c]? := by
      intro c hc
      rw [Nat.zero_add, h.cellAt (i * 7 + c) (by omega), flat_at _ _ _ _ hi hc]
    exact ⟨by simpa using key 0 (by omega), key 1 (by omega), key 2 (by omega), key 3 (by omega), key 4 (by omega), key 5 (by omega), key 6 (by omega)⟩

def setR (S : Id → Sl) (j : Nat) (vs : Sl) : Id → Sl
  | .row a => if a = j then vs else S (.row a)
  | .arg a t => S (.arg a t)
  | .int a t => S (.int a t)

/-- A row is whole, and laid behind the others. -/
theorem Part.next {F : FV} {base : Nat} {X : Nat → Prop} {w w5 : World} {j : Nat} {vs : Sl} {bv bv' : Value} {sp : Sl} {S : Id → Sl} (h : Part F base X w j (F.B j).n (slv vs) bv sp S) (hn90 : (F.B j).n ≤ 1000)
    (own5 : w5.ownsRow base 39 1 bv' (j + 1) ((List.range j).map (fun a => slv (S (.row a))) ++ [slv vs]))
    (gr : (w.alloc (.cells #[slv vs] 39)).grownBy w5 bv.ownBlock) (hat : bv'.ownBlock = bv.ownBlock ∨ bv'.ownBlock = some (w.heap.size + 1)) :
    Part F base X w5 (j + 1) 0 (.slice none 0 0) bv' sp (setR S j vs) := by
  obtain ⟨vs', e, hvn, hvi, hvm, hvb⟩ := inss_of_owns h.cur hn90
  obtain rfl : vs = vs' := by
    have h1 : vs.a = vs'.a ∧ vs.n = vs'.n ∧ vs.c = vs'.c := by simpa [slv] using e
    cases vs; cases vs'; simp at h1; simp [h1]
  have z5 := gr.size
  simp only [World.size_alloc] at z5
  have hbl := h.blks.lt
  have hvl := h.cur.lt
  have kinds := two_kinds (by decide) h.cur h.blks
  have hbw : ∀ g, g < w.heap.size → some g ≠ bv.ownBlock → w5.heap[g]? = w.heap[g]? := fun g hg hne => by
    rw [gr.block g (by simp; omega) hne, Below.heap_alloc _ _ _ hg]
  have nb' : ∀ g, g < w.heap.size → some g ≠ bv.ownBlock → some g ≠ bv'.ownBlock := fun g hg hne e => by
    rcases hat with h' | h'
    · rw [h'] at e; exact hne e
    · rw [h'] at e; have := Option.some.inj e; omega
  have oldD : ∀ x, Dn F (j + 1) 0 x → x ≠ .row j → Dn F j (F.B j).n x ∧ setR S j vs x = S x := by
    intro x hx hne
    cases x with
    | row a =>
      have ha : a < j + 1 := hx
      have hn : a ≠ j := fun e => hne (by rw [e])
      exact ⟨show a < j by omega, if_neg hn⟩
    | arg a t =>
      refine ⟨?_, rfl⟩
      rcases hx with ⟨h1, h2⟩ | ⟨_, h2⟩
      · by_cases e : a = j
        · subst e; exact .inr ⟨rfl, h2⟩
        · exact .inl ⟨by omega, h2⟩
      · omega
    | int a t =>
      refine ⟨?_, rfl⟩
      rcases hx with ⟨h1, h2⟩ | ⟨_, h2⟩
      · by_cases e : a = j
        · subst e; exact .inr ⟨rfl, h2⟩
        · exact .inl ⟨by omega, h2⟩
      · omega
  have sR : setR S j vs (.row j) = vs := if_pos rfl
  have vblk : 0 < vs.n → blkOf vs < w.heap.size ∧ some (blkOf vs) ≠ bv.ownBlock := fun h0 => ⟨(mine_blk hvm h0).2.2.1, fun e => kinds _ (hvb h0) e.symm⟩
  have blkw : ∀ x, Dn F j (F.B j).n x → 0 < (S x).n → blkOf (S x) < w.heap.size := fun x hx h0 => (mine_blk (h.mine x hx) h0).2.2.1
  have keepX : ∀ x, Dn F j (F.B j).n x → 0 < (S x).n → w5.heap[blkOf (S x)]? = w.heap[blkOf (S x)]? := fun x hx h0 => hbw _ (blkw x hx h0) (h.far x hx h0).2.1
  have ecp : ∀ a, cpI F (setR S j vs) a = cpI F S a := fun a => rfl
  have xw : ∀ g, w.heap.size ≤ g → ¬ X g := fun g hg e => by have := h.xl g e; omega
  refine ⟨fun x hx => ?_, fun x hx => ?_, fun x hx => ?_, fun x y hx hy h0 h0' e => ?_, World.ownsRow_nil _ _ _ _, ?_, fun x hx h0 => ?_, ?_, h.pn, ?_, fun h0 => ?_, fun x hx h0 => ?_, fun g hg => (by simp [Value.ownBlock] at hg), fun g hg => ?_, h.avp, fun g hg => by have := h.xl g hg; omega⟩
  · by_cases e1 : x = .row j
    · rw [e1, sR]; exact hvn
    · obtain ⟨d, s⟩ := oldD x hx e1
      rw [s]; exact h.len x d
  · by_cases e1 : x = .row j
    · rw [e1, sR]; exact mine_kept hvm (by omega) (fun h0 => hbw _ (vblk h0).1 (vblk h0).2)
    · obtain ⟨d, s⟩ := oldD x hx e1
      rw [s]; exact mine_kept (h.mine x d) (by omega) (keepX x d)
  · by_cases e1 : x = .row j
    · subst e1
      show Inss w5 (setR S j vs (.row j)) (cpI F (setR S j vs) j)
      rw [sR, ecp]
      exact inss_blk hvm hvi (by omega) (fun h0 => hbw _ (vblk h0).1 (vblk h0).2)
    · obtain ⟨d, s⟩ := oldD x hx e1
      have hc := h.cont x d
      have hm := h.mine x d
      cases x with
      | row a =>
        show Inss w5 (setR S j vs (.row a)) (cpI F (setR S j vs) a)
        rw [s, ecp]; exact inss_blk hm hc (by omega) (keepX _ d)
      | arg a t => exact ints_blk hm hc (by omega) (keepX _ d)
      | int a t => exact ints_blk hm hc (by omega) (keepX _ d)
  · by_cases x1 : x = .row j
    · by_cases y1 : y = .row j
      · rw [x1, y1]
      · exfalso
        subst x1
        obtain ⟨d', s'⟩ := oldD y hy y1
        rw [sR] at h0 e; rw [s'] at h0' e
        exact (h.far y d' h0').1 (by rw [hvb h0, e])
    · by_cases y1 : y = .row j
      · exfalso
        subst y1
        obtain ⟨d, s⟩ := oldD x hx x1
        rw [sR] at h0' e; rw [s] at h0 e
        exact (h.far x d h0).1 (by rw [hvb h0', e])
      · obtain ⟨d, s⟩ := oldD x hx x1
        obtain ⟨d', s'⟩ := oldD y hy y1
        rw [s] at h0 e; rw [s'] at h0' e
        exact h.sep x y d d' h0 h0' e
  · have el : (List.range (j + 1)).map (fun a => slv (setR S j vs (.row a))) = (List.range j).map (fun a => slv (S (.row a))) ++ [slv vs] := by
      rw [List.range_succ, List.map_append]
      congr 1
      · refine List.map_congr_left (fun a ha => ?_)
        have : a < j := List.mem_range.1 ha
        show slv (if a = j then vs else S (.row a)) = _
        rw [if_neg (by omega)]
      · simp [setR]
    rw [el]; exact own5
  · by_cases e1 : x = .row j
    · subst e1; rw [sR] at h0 ⊢
      refine ⟨by simp [Value.ownBlock], nb' _ (vblk h0).1 (vblk h0).2, fun e => ?_⟩
      unfold bk at e
      split at e
      · next hp => exact (h.pfar hp).1 (by rw [hvb h0]; exact e.symm)
      · cases e
    · obtain ⟨d, s⟩ := oldD x hx e1
      rw [s] at h0 ⊢
      obtain ⟨q1, q2, q3⟩ := h.far x d h0
      exact ⟨by simp [Value.ownBlock], nb' _ (blkw x d h0) q2, q3⟩
  · exact ints_blk h.pm h.par (by omega) (fun h0 => hbw _ (mine_blk h.pm h0).2.2.1 (h.pfar h0).2)
  · exact mine_kept h.pm (by omega) (fun h0 => hbw _ (mine_blk h.pm h0).2.2.1 (h.pfar h0).2)
  · exact ⟨by simp [Value.ownBlock], nb' _ (mine_blk h.pm h0).2.2.1 (h.pfar h0).2⟩
  · by_cases e1 : x = .row j
    · subst e1; rw [sR] at h0 ⊢; exact h.avv _ (hvb h0)
    · obtain ⟨d, s⟩ := oldD x hx e1
      rw [s] at h0 ⊢; exact h.av x d h0
  · rcases hat with h' | h'
    · exact h.avb g (by rw [← h']; exact hg)
    · rw [h'] at hg; have := Option.some.inj hg; exact xw g (by omega)

theorem cnt_eq {f g : Nat → Nat} : ∀ {k : Nat}, (∀ t, t < k → f t = g t) → cnt f k = cnt g k
  | 0, _ => rfl
  | k + 1, h => by rw [cnt, cnt, cnt_eq (fun t ht => h t (by omega)), h k (by omega)]

/-- The copy. -/
def cpF (F : FV) (sp bs : Sl) (S : Id → Sl) : FV := { F with par := sp, blk := bs, B := fun j => S (.row j), I := cpI F S }

theorem sl_cpF (F : FV) (sp bs : Sl) (S : Id → Sl) (x : Id) : sl (cpF F sp bs S) x = S x := by cases x <;> rfl

theorem sls_of_owns {w : World} {base : Nat} {v : Value} {k : Nat} {f : Nat → Sl} (h : w.ownsRow base 39 1 v k ((List.range k).map (fun a => slv (f a)))) (hk : k ≤ 1000) :
    ∃ s : Sl, v = slv s ∧ s.n = k ∧ Sls w s f ∧ Mine base w.heap.size w s ∧ (0 < s.n → v.ownBlock = some (blkOf s)) := by
  rcases h.2 with ⟨rfl, rfl⟩ | ⟨g, cap, cur, rfl, hb, hg, hnc, hm, hs, ht⟩
  · exact ⟨⟨none, 0, 0⟩, rfl, rfl, ⟨Nat.le_refl _, Nat.zero_le _, fun _ => rfl, fun h => absurd h (by simp)⟩, fun h => absurd h (by simp), fun h => absurd h (by simp)⟩
  · have hlt : g < w.heap.size := (Array.getElem?_eq_some_iff.1 hg).1
    refine ⟨⟨some ⟨g, 0, none⟩, k, cap⟩, rfl, rfl, ⟨hnc, by show k ≤ _; omega, fun e => by simp at e, fun h0 => ⟨g, 0, rfl, fun i hi => ?_⟩⟩, fun h0 => ⟨g, rfl, hb, hlt, fun i => by simp [World.frozen?, hg]⟩, fun _ => rfl⟩
    simp only at hi
    rw [Nat.zero_add, h.cellAt i (by omega)]
    simp [hi]

theorem Part.whole {F : FV} {base : Nat} {X : Nat → Prop} {w : World} {bv : Value} {sp : Sl} {S : Id → Sl} (h : Part F base X w F.blk.n 0 (.slice none 0 0) bv sp S) (hl : Light F) :
    ∃ bs : Sl, bv = slv bs ∧ Own base w (cpF F sp bs S) (fun x => blkOf (S x)) ∧ Light (cpF F sp bs S) ∧ bs.n = F.blk.n := by
  obtain ⟨bs, rfl, hbn, hbi, hbm, hbb⟩ := sls_of_owns h.blks (by have := hl.blk; omega)
  have dRow : ∀ a, a < F.blk.n → Dn F F.blk.n 0 (.row a) := fun a ha => ha
  have nB : ∀ a, a < F.blk.n → (S (.row a)).n = (F.B a).n := fun a ha => h.len (.row a) (dRow a ha)
  have hasD : ∀ x, has (cpF F sp bs S) x → Dn F F.blk.n 0 x := fun x hx => by
    cases x with
    | row a => have h1 : a < bs.n := hx; exact show a < F.blk.n by omega
    | arg a t =>
      obtain ⟨h1, h2⟩ : a < bs.n ∧ t < (S (.row a)).n := hx
      exact .inl ⟨by omega, by rw [← nB a (by omega)]; exact h2⟩
    | int a t =>
      obtain ⟨h1, h2⟩ : a < bs.n ∧ t < (S (.row a)).n := hx
      exact .inl ⟨by omega, by rw [← nB a (by omega)]; exact h2⟩
  have dA : ∀ a t, a < F.blk.n → t < (S (.row a)).n → Dn F F.blk.n 0 (.arg a t) := fun a t ha ht => .inl ⟨ha, by rw [← nB a ha]; exact ht⟩
  have dI : ∀ a t, a < F.blk.n → t < (S (.row a)).n → Dn F F.blk.n 0 (.int a t) := fun a t ha ht => .inl ⟨ha, by rw [← nB a ha]; exact ht⟩
  refine ⟨bs, rfl, ⟨⟨h.par, hbi, fun a ha => h.cont (.row a) (dRow a (by rw [← hbn]; exact ha)), fun a ha t ht => h.cont (.arg a t) (dA a t (by rw [← hbn]; exact ha) ht), fun a ha t ht => h.cont (.int a t) (dI a t (by rw [← hbn]; exact ha) ht)⟩, fun x hx h0 => ?_, fun x hx h0 => ?_, fun x hx h0 => ?_, fun x hx h0 => ?_, fun x y hx hy h0 h0' e => ?_, fun x hx h0 b o hb hn => ?_, fun x hx h0 b o hb hn => ?_, h.pm, hbm⟩, ⟨?_, hl.name, by show sp.n ≤ 8; rw [h.pn]; exact hl.par, by show bs.n ≤ 16; rw [hbn]; exact hl.blk, fun a ha => ?_, fun a ha t ht => ?_, fun a ha t ht => ?_⟩, hbn⟩
  · rw [sl_cpF] at h0 ⊢; exact (mine_blk (h.mine x (hasD x hx)) h0).1
  · rw [sl_cpF] at h0; exact (mine_blk (h.mine x (hasD x hx)) h0).2.1
  · rw [sl_cpF] at h0; exact (mine_blk (h.mine x (hasD x hx)) h0).2.2.1
  · rw [sl_cpF] at h0; exact (mine_blk (h.mine x (hasD x hx)) h0).2.2.2
  · rw [sl_cpF] at h0 h0'; exact h.sep x y (hasD x hx) (hasD y hy) h0 h0' e
  · rw [sl_cpF] at h0
    intro e
    have hp : 0 < sp.n := hn
    have q := (h.far x (hasD x hx) h0).2.2
    rw [bk_pos hp] at q
    have : blkOf sp = b := blkOf_eq hb
    exact q (by rw [this, e])
  · rw [sl_cpF] at h0
    intro e
    have hp : 0 < bs.n := hn
    have q := (h.far x (hasD x hx) h0).2.1
    rw [hbb hp] at q
    have : blkOf bs = b := blkOf_eq hb
    exact q (by rw [this, e])
  · show cnt (fun a => (S (.row a)).n) bs.n ≤ 90
    rw [hbn]
    have e : cnt (fun a => (S (.row a)).n) F.blk.n = cnt (fun j => (F.B j).n) F.blk.n := cnt_eq (fun a ha => nB a ha)
    rw [e]; exact hl.all
  · have ha' : a < F.blk.n := by rw [← hbn]; exact ha
    show (S (.row a)).n ≤ 90
    rw [nB a ha']; exact hl.ins a ha'
  · have ha' : a < F.blk.n := by rw [← hbn]; exact ha
    show (S (.arg a t)).n ≤ 20
    rw [h.len _ (dA a t ha' ht)]; exact hl.args a ha' t (by rw [← nB a ha']; exact ht)
  · have ha' : a < F.blk.n := by rw [← hbn]; exact ha
    show (S (.int a t)).n ≤ 20
    rw [h.len _ (dI a t ha' ht)]; exact hl.into a ha' t (by rw [← nB a ha']; exact ht)

end Go.Proofs.Ytahjippocejphaa.Own
