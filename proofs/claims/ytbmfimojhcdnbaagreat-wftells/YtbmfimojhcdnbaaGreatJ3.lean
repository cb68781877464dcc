/-
  Own, Phis, Num, Open: laid together.
-/
import Derived.Test.YtbmfimojhcdnbaaGreatJ1
import Derived.Test.YtbmfimojhcdnbaaGreatJ2
import Derived.Maps.OwnSet
import Derived.Maps.OwnOps
import Derived.Deep.Slices
import Derived.OpenShut
import Derived.SizedLaws
import Derived.ProofKit
/-
  A function in memory of the call's own: every row in a block of its own; what stays when one of them is written.
-/
namespace Go.Proofs.YtbmfimojhcdnbaaGreat.Own
open Go.RowKit View Rd Copy Srt

set_option linter.unusedVariables false

/-- The rows of a function: a block's instructions, what one of them takes, where it goes. -/
inductive Id where
  | row (j : Nat)
  | arg (j k : Nat)
  | int (j k : Nat)

def sl (F : FV) : Id → Sl
  | .row j => F.B j
  | .arg j k => (F.I j k).args
  | .int j k => (F.I j k).into

def has (F : FV) : Id → Prop
  | .row j => j < F.blk.n
  | .arg j k => j < F.blk.n ∧ k < (F.B j).n
  | .int j k => j < F.blk.n ∧ k < (F.B j).n

structure Own (base : Nat) (w : World) (F : FV) (at_ : Id → Nat) : Prop where
  inn : In w F
  adr : ∀ x, has F x → 0 < (sl F x).n → (sl F x).a = some ⟨at_ x, 0, none⟩
  ge : ∀ x, has F x → 0 < (sl F x).n → base ≤ at_ x
  lt : ∀ x, has F x → 0 < (sl F x).n → at_ x < w.heap.size
  fz : ∀ x, has F x → 0 < (sl F x).n → ∀ i, w.frozen? ⟨at_ x, i, none⟩ = false
  sep : ∀ x y, has F x → has F y → 0 < (sl F x).n → 0 < (sl F y).n → at_ x = at_ y → x = y
  par : ∀ x, has F x → 0 < (sl F x).n → ∀ b o, F.par.a = some ⟨b, o, none⟩ → 0 < F.par.n → b ≠ at_ x
  blk : ∀ x, has F x → 0 < (sl F x).n → ∀ b o, F.blk.a = some ⟨b, o, none⟩ → 0 < F.blk.n → b ≠ at_ x
  pm : Mine base w.heap.size w F.par
  bm : Mine base w.heap.size w F.blk

def blkOf (s : Sl) : Nat := match s.a with | some a => a.block | none => 0

theorem blkOf_eq {s : Sl} {g o : Nat} (h : s.a = some ⟨g, o, none⟩) : blkOf s = g := by unfold blkOf; rw [h]

def atOf (gB : Nat → Nat) (sa si : Nat → Nat → Sl) : Id → Nat
  | .row j => gB j
  | .arg j k => blkOf (sa j k)
  | .int j k => blkOf (si j k)

theorem own_copy {F : FV} {w' : World} {base G : Nat} {sp : Sl} {gB : Nat → Nat} {sa si : Nat → Nat → Sl} {h : Nat → Nat → Nat} {H : Nat → Nat} (hl : Light F)
    (hn : sp.n = F.par.n) (hp : Ints w' sp F.P) (mp : Mine base G w' sp) (r : BRows G F.blk.n F.blk.n w' F.B F.I F.A F.J gB sa si h H) (hb : base ≤ G) :
    Own base w' (twin F sp G gB sa si) (atOf gB sa si) ∧ Light (twin F sp G gB sa si) := by
  have hup := r.up
  have hlo := r.lo
  have hHb : ∀ j, j ≤ F.blk.n → G < H j := fun j hj => Nat.lt_of_lt_of_le hlo (mono_le hup hj (Nat.zero_le _))
  have hHs : ∀ j, j ≤ F.blk.n → H j ≤ w'.heap.size := fun j hj => Nat.le_trans (mono_le hup (Nat.le_refl _) hj) r.hi
  -- where each row lies
  have tw : ∀ j, j < F.blk.n → ∀ k, k < (F.B j).n → Copy.Twin (h j k) (h j (k + 1)) w' (sa j k) (si j k) (F.I j k) (F.A j k) (F.J j k) := fun j hj k hk => (r.rows j hj).tw k hk
  have hmon : ∀ j, j < F.blk.n → ∀ a b, a ≤ b → b ≤ (F.B j).n → h j a ≤ h j b := fun j hj a b hab hbn => mono_le (r.rows j hj).up hbn hab
  have argIn : ∀ j, j < F.blk.n → ∀ k, k < (F.B j).n → 0 < (sa j k).n → ∃ g, (sa j k).a = some ⟨g, 0, none⟩ ∧ blkOf (sa j k) = g ∧ h j k ≤ g ∧ g < h j (k + 1) ∧ ∀ i, w'.frozen? ⟨g, i, none⟩ = false := fun j hj k hk h0 => by
    obtain ⟨g, a1, a2, a3, a4⟩ := (tw j hj k hk).ma h0
    exact ⟨g, a1, blkOf_eq a1, a2, a3, a4⟩
  have intIn : ∀ j, j < F.blk.n → ∀ k, k < (F.B j).n → 0 < (si j k).n → ∃ g, (si j k).a = some ⟨g, 0, none⟩ ∧ blkOf (si j k) = g ∧ h j k ≤ g ∧ g < h j (k + 1) ∧ ∀ i, w'.frozen? ⟨g, i, none⟩ = false := fun j hj k hk h0 => by
    obtain ⟨g, a1, a2, a3, a4⟩ := (tw j hj k hk).mj h0
    exact ⟨g, a1, blkOf_eq a1, a2, a3, a4⟩
  have inn : In w' (twin F sp G gB sa si) := by
    refine ⟨hp, ⟨Nat.le_refl _, by have := hl.blk; show F.blk.n ≤ _; omega, fun e => by simp at e, fun h0 => ⟨G, 0, rfl, fun i hi => ?_⟩⟩, fun j hj => (r.rows j hj).inss (by have := hl.ins j hj; omega) (Nat.le_refl _), fun j hj k hk => (tw j hj k hk).args, fun j hj k hk => (tw j hj k hk).into⟩
    rw [Nat.zero_add, r.own.cellAt i (by simpa using hi)]
    simp only at hi
    simp [hi]
  have pos : ∀ x, has (twin F sp G gB sa si) x → 0 < (sl (twin F sp G gB sa si) x).n → ∃ j, j < F.blk.n ∧ (match x with | .row j' => j' = j | .arg j' _ => j' = j | .int j' _ => j' = j) ∧ H j ≤ atOf gB sa si x ∧ atOf gB sa si x < H (j + 1) ∧ (sl (twin F sp G gB sa si) x).a = some ⟨atOf gB sa si x, 0, none⟩ ∧ ∀ i, w'.frozen? ⟨atOf gB sa si x, i, none⟩ = false := by
    intro x hx h0
    cases x with
    | row j =>
      have hj : j < F.blk.n := hx
      refine ⟨j, hj, rfl, r.lows j hj, ?_, rfl, fun i => (r.rows j hj).own.frozenAt i⟩
      have := (r.rows j hj).le; have := r.tops j hj; show gB j < _; omega
    | arg j k =>
      obtain ⟨hj, hk⟩ : j < F.blk.n ∧ k < (F.B j).n := hx
      obtain ⟨g, a1, a2, a3, a4, a5⟩ := argIn j hj k hk h0
      have q1 := r.lows j hj; have q2 := (r.rows j hj).lo; have q3 := hmon j hj 0 k (Nat.zero_le _) (by omega); have q4 := hmon j hj (k + 1) (F.B j).n (by omega) (Nat.le_refl _); have q5 := r.tops j hj
      exact ⟨j, hj, rfl, by show H j ≤ blkOf (sa j k); omega, by show blkOf (sa j k) < _; omega, by show (sa j k).a = some ⟨blkOf (sa j k), 0, none⟩; rw [a2]; exact a1, by show ∀ i, w'.frozen? ⟨blkOf (sa j k), i, none⟩ = false; rw [a2]; exact a5⟩
    | int j k =>
      obtain ⟨hj, hk⟩ : j < F.blk.n ∧ k < (F.B j).n := hx
      obtain ⟨g, a1, a2, a3, a4, a5⟩ := intIn j hj k hk h0
      have q1 := r.lows j hj; have q2 := (r.rows j hj).lo; have q3 := hmon j hj 0 k (Nat.zero_le _) (by omega); have q4 := hmon j hj (k + 1) (F.B j).n (by omega) (Nat.le_refl _); have q5 := r.tops j hj
      exact ⟨j, hj, rfl, by show H j ≤ blkOf (si j k); omega, by show blkOf (si j k) < _; omega, by show (si j k).a = some ⟨blkOf (si j k), 0, none⟩; rw [a2]; exact a1, by show ∀ i, w'.frozen? ⟨blkOf (si j k), i, none⟩ = false; rw [a2]; exact a5⟩
  refine ⟨⟨inn, fun x hx h0 => ?_, fun x hx h0 => ?_, fun x hx h0 => ?_, fun x hx h0 => ?_, ?_, fun x hx h0 b o hb' hn' => ?_, fun x hx h0 b o hb' hn' => ?_, ?_, ?_⟩, ?_⟩
  · obtain ⟨j, _, _, _, _, h, _⟩ := pos x hx h0; exact h
  · obtain ⟨j, hj, _, h, _⟩ := pos x hx h0; have := hHb j (by omega); omega
  · obtain ⟨j, hj, _, _, h, _⟩ := pos x hx h0; have := hHs (j + 1) (by omega); omega
  · obtain ⟨j, _, _, _, _, _, h⟩ := pos x hx h0; exact h
  · intro x y hx hy h0 h0' e
    obtain ⟨j, hj, jx, p1, p2, _⟩ := pos x hx h0
    obtain ⟨j', hj', jy, p1', p2', _⟩ := pos y hy h0'
    have ej : j = j' := by
      rcases Nat.lt_trichotomy j j' with h' | h' | h'
      · have := mono_le hup (show j' ≤ F.blk.n by omega) (show j + 1 ≤ j' by omega); omega
      · exact h'
      · have := mono_le hup (show j ≤ F.blk.n by omega) (show j' + 1 ≤ j by omega); omega
    subst ej
    have q2 := (r.rows j hj).lo
    cases x with
    | row jx' =>
      simp only at jx; subst jx
      cases y with
      | row jy' => simp only at jy; subst jy; rfl
      | arg jy' k' =>
        simp only at jy; subst jy
        obtain ⟨_, hk'⟩ : _ ∧ k' < (F.B jy').n := hy
        obtain ⟨g, _, a2, a3, _⟩ := argIn jy' hj k' hk' h0'
        have := hmon jy' hj 0 k' (Nat.zero_le _) (by omega)
        have : gB jy' = blkOf (sa jy' k') := e
        omega
      | int jy' k' =>
        simp only at jy; subst jy
        obtain ⟨_, hk'⟩ : _ ∧ k' < (F.B jy').n := hy
        obtain ⟨g, _, a2, a3, _⟩ := intIn jy' hj k' hk' h0'
        have := hmon jy' hj 0 k' (Nat.zero_le _) (by omega)
        have : gB jy' = blkOf (si jy' k') := e
        omega
    | arg jx' k =>
      simp only at jx; subst jx
      obtain ⟨_, hk⟩ : _ ∧ k < (F.B jx').n := hx
      obtain ⟨g, b1, b2, b3, b4, _⟩ := argIn jx' hj k hk h0
      cases y with
      | row jy' =>
        simp only at jy; subst jy
        have := hmon jy' hj 0 k (Nat.zero_le _) (by omega)
        have : blkOf (sa jy' k) = gB jy' := e
        omega
      | arg jy' k' =>
        simp only at jy; subst jy
        obtain ⟨_, hk'⟩ : _ ∧ k' < (F.B jy').n := hy
        obtain ⟨g', a1, a2, a3, a4, _⟩ := argIn jy' hj k' hk' h0'
        have e' : blkOf (sa jy' k) = blkOf (sa jy' k') := e
        rcases Nat.lt_trichotomy k k' with h' | h' | h'
        · have := hmon jy' hj (k + 1) k' h' (by omega); omega
        · rw [h']
        · have := hmon jy' hj (k' + 1) k h' (by omega); omega
      | int jy' k' =>
        simp only at jy; subst jy
        obtain ⟨_, hk'⟩ : _ ∧ k' < (F.B jy').n := hy
        obtain ⟨g', a1, a2, a3, a4, _⟩ := intIn jy' hj k' hk' h0'
        have e' : blkOf (sa jy' k) = blkOf (si jy' k') := e
        exfalso
        rcases Nat.lt_trichotomy k k' with h' | h' | h'
        · have := hmon jy' hj (k + 1) k' h' (by omega); omega
        · subst h'
          have := (tw jy' hj k hk).ord g g' b1 a1 h0 h0'; omega
        · have := hmon jy' hj (k' + 1) k h' (by omega); omega
    | int jx' k =>
      simp only at jx; subst jx
      obtain ⟨_, hk⟩ : _ ∧ k < (F.B jx').n := hx
      obtain ⟨g, b1, b2, b3, b4, _⟩ := intIn jx' hj k hk h0
      cases y with
      | row jy' =>
        simp only at jy; subst jy
        have := hmon jy' hj 0 k (Nat.zero_le _) (by omega)
        have : blkOf (si jy' k) = gB jy' := e
        omega
      | arg jy' k' =>
        simp only at jy; subst jy
        obtain ⟨_, hk'⟩ : _ ∧ k' < (F.B jy').n := hy
        obtain ⟨g', a1, a2, a3, a4, _⟩ := argIn jy' hj k' hk' h0'
        have e' : blkOf (si jy' k) = blkOf (sa jy' k') := e
        exfalso
        rcases Nat.lt_trichotomy k k' with h' | h' | h'
        · have := hmon jy' hj (k + 1) k' h' (by omega); omega
        · subst h'
          have := (tw jy' hj k hk).ord g' g a1 b1 h0' h0; omega
        · have := hmon jy' hj (k' + 1) k h' (by omega); omega
      | int jy' k' =>
        simp only at jy; subst jy
        obtain ⟨_, hk'⟩ : _ ∧ k' < (F.B jy').n := hy
        obtain ⟨g', a1, a2, a3, a4, _⟩ := intIn jy' hj k' hk' h0'
        have e' : blkOf (si jy' k) = blkOf (si jy' k') := e
        rcases Nat.lt_trichotomy k k' with h' | h' | h'
        · have := hmon jy' hj (k + 1) k' h' (by omega); omega
        · rw [h']
        · have := hmon jy' hj (k' + 1) k h' (by omega); omega
  · obtain ⟨j, hj, _, h, _⟩ := pos x hx h0
    have := hHb j (by omega)
    have := (mp.ge b o hb' hn').2
    omega
  · obtain ⟨j, hj, _, h, _⟩ := pos x hx h0
    have := hHb j (by omega)
    simp at hb'
    omega
  · exact mp.wide (Nat.le_refl _) (by have := (r.own.lt G rfl).2; omega)
  · exact fun _ => ⟨G, rfl, hb, (r.own.lt G rfl).2, fun i => r.own.frozenAt i⟩
  · exact ⟨hl.all, hl.name, by show sp.n ≤ 8; rw [hn]; exact hl.par, hl.blk, hl.ins, fun j hj k hk => by show (sa j k).n ≤ 20; rw [(tw j hj k hk).an]; exact hl.args j hj k hk, fun j hj k hk => by show (si j k).n ≤ 20; rw [(tw j hj k hk).jn]; exact hl.into j hj k hk⟩

theorem Own.on {base : Nat} {w w' : World} {F : FV} {at_ : Id → Nat} (hb : Below w.heap.size w w') (h : Own base w F at_) : Own base w' F at_ :=
  ⟨h.inn.on hb, h.adr, h.ge, fun x hx h0 => Nat.lt_of_lt_of_le (h.lt x hx h0) hb.size, fun x hx h0 i => by rw [hb.frozen (by exact h.lt x hx h0)]; exact h.fz x hx h0 i, h.sep, h.par, h.blk, (h.pm.on hb (Nat.le_refl _)).wide (Nat.le_refl _) hb.size, (h.bm.on hb (Nat.le_refl _)).wide (Nat.le_refl _) hb.size⟩

theorem mine_turn {p : Nat → Prop} {base : Nat} {w w' : World} {s : Sl} (h : Mine base w.heap.size w s) (t : Turn p w w') : Mine base w'.heap.size w' s := fun h0 => by
  obtain ⟨g, h1, h2, h3, h4⟩ := h h0
  exact ⟨g, h1, h2, Nat.lt_of_lt_of_le h3 t.size, fun i => by rw [t.froz _ h3]; exact h4 i⟩

def upd (f : Nat → Nat → Nat → Int) (j k : Nat) (g : Nat → Int) : Nat → Nat → Nat → Int := fun j' k' => if j' = j ∧ k' = k then g else f j' k'

theorem Sls_kept {p : Nat → Prop} {w w' : World} {s : Sl} {f : Nat → Sl} (h : Sls w s f) (k : Kept p w w') (hp : ∀ b off, s.a = some ⟨b, off, none⟩ → 0 < s.n → p b) : Sls w' s f :=
  ⟨h.1, h.2.1, h.2.2.1, fun h0 => by
    obtain ⟨b, off, ha, hc⟩ := h.2.2.2 h0
    exact ⟨b, off, ha, fun i hi => cell_kept k (hp b off ha h0) (hc i hi)⟩⟩

theorem Inss_kept {p : Nat → Prop} {w w' : World} {s : Sl} {f : Nat → IV} (h : Inss w s f) (k : Kept p w w') (hp : ∀ b off, s.a = some ⟨b, off, none⟩ → 0 < s.n → p b) : Inss w' s f :=
  ⟨h.1, h.2.1, h.2.2.1, fun h0 => by
    obtain ⟨b, off, ha, hc⟩ := h.2.2.2 h0
    exact ⟨b, off, ha, fun i hi => (hc i hi).kept k (hp b off ha h0)⟩⟩

/-- A cell that can be read lies in a block that is there. -/
theorem Ints_lt {w : World} {s : Sl} {f : Nat → Int} (h : Ints w s f) : ∀ b off, s.a = some ⟨b, off, none⟩ → 0 < s.n → b < w.heap.size := fun b off ha h0 => by
  obtain ⟨b', off', ha', hc⟩ := h.2.2.2 h0
  have e := ha.symm.trans ha'
  simp at e
  obtain ⟨rfl, rfl⟩ := e
  exact World.block_lt_of_cell? _ _ (hc 0 h0)
theorem Sls_lt {w : World} {s : Sl} {f : Nat → Sl} (h : Sls w s f) : ∀ b off, s.a = some ⟨b, off, none⟩ → 0 < s.n → b < w.heap.size := fun b off ha h0 => by
  obtain ⟨b', off', ha', hc⟩ := h.2.2.2 h0
  have e := ha.symm.trans ha'
  simp at e
  obtain ⟨rfl, rfl⟩ := e
  exact World.block_lt_of_cell? _ _ (hc 0 h0)
theorem Inss_lt {w : World} {s : Sl} {f : Nat → IV} (h : Inss w s f) : ∀ b off, s.a = some ⟨b, off, none⟩ → 0 < s.n → b < w.heap.size := fun b off ha h0 => by
  obtain ⟨b', off', ha', hc⟩ := h.2.2.2 h0
  have e := ha.symm.trans ha'
  simp at e
  obtain ⟨rfl, rfl⟩ := e
  exact World.block_lt_of_cell? _ _ (hc 0 h0).c0

theorem adr_inj {s : Sl} {g b o : Nat} (h : s.a = some ⟨g, 0, none⟩) (h' : s.a = some ⟨b, o, none⟩) : b = g := by
  have e := h'.symm.trans h
  simp at e
  exact e.1

/-- The two rows of one instruction are written. -/
theorem Own.rows {base : Nat} {w w' : World} {F : FV} {at_ : Id → Nat} (h : Own base w F at_) {p : Nat → Prop} (ht : Turn p w w') {j k : Nat} (hj : j < F.blk.n) (hk : k < (F.B j).n)
    (hp : ∀ b, p b → (b = at_ (.arg j k) ∧ 0 < (F.I j k).args.n) ∨ (b = at_ (.int j k) ∧ 0 < (F.I j k).into.n)) {a' j' : Nat → Int} (ia : Ints w' (F.I j k).args a') (ij : Ints w' (F.I j k).into j') :
    Own base w' { F with A := upd F.A j k a', J := upd F.J j k j' } at_ := by
  have kp := ht.kept
  have ha : has F (.arg j k) := ⟨hj, hk⟩
  have hi : has F (.int j k) := ⟨hj, hk⟩
  have off : ∀ x, has F x → 0 < (sl F x).n → x ≠ .arg j k → x ≠ .int j k → ¬ p (at_ x) := fun x hx h0 n1 n2 hpx => by
    rcases hp _ hpx with ⟨e, h1⟩ | ⟨e, h1⟩
    · exact n1 (h.sep x _ hx ha h0 h1 e)
    · exact n2 (h.sep x _ hx hi h0 h1 e)
  refine ⟨⟨?_, ?_, fun j1 h1 => ?_, fun j1 h1 k1 h2 => ?_, fun j1 h1 k1 h2 => ?_⟩, h.adr, h.ge, fun x hx h0 => Nat.lt_of_lt_of_le (h.lt x hx h0) ht.size, fun x hx h0 i => by rw [ht.froz _ (by exact h.lt x hx h0)]; exact h.fz x hx h0 i, h.sep, h.par, h.blk, mine_turn h.pm ht, mine_turn h.bm ht⟩
  · refine h.inn.par.kept kp fun b off ha' h0 => ⟨Ints_lt h.inn.par b off ha' h0, fun hpb => ?_⟩
    rcases hp _ hpb with ⟨e, h1⟩ | ⟨e, h1⟩
    · exact h.par _ ha h1 b off ha' h0 e
    · exact h.par _ hi h1 b off ha' h0 e
  · refine Sls_kept h.inn.blk kp fun b off ha' h0 => ⟨Sls_lt h.inn.blk b off ha' h0, fun hpb => ?_⟩
    rcases hp _ hpb with ⟨e, h1⟩ | ⟨e, h1⟩
    · exact h.blk _ ha h1 b off ha' h0 e
    · exact h.blk _ hi h1 b off ha' h0 e
  · refine Inss_kept (h.inn.ins j1 h1) kp fun b o ha' h0 => ⟨Inss_lt (h.inn.ins j1 h1) b o ha' h0, ?_⟩
    rw [adr_inj (h.adr (.row j1) h1 h0) ha']
    exact off (.row j1) h1 h0 (by simp) (by simp)
  · show Ints w' (F.I j1 k1).args (upd F.A j k a' j1 k1)
    unfold upd
    by_cases e : j1 = j ∧ k1 = k
    · rw [if_pos e, e.1, e.2]; exact ia
    · rw [if_neg e]
      refine (h.inn.args j1 h1 k1 h2).kept kp fun b o ha' h0 => ⟨Ints_lt (h.inn.args j1 h1 k1 h2) b o ha' h0, ?_⟩
      rw [adr_inj (h.adr (.arg j1 k1) ⟨h1, h2⟩ h0) ha']
      exact off (.arg j1 k1) ⟨h1, h2⟩ h0 (by simpa using e) (by simp)
  · show Ints w' (F.I j1 k1).into (upd F.J j k j' j1 k1)
    unfold upd
    by_cases e : j1 = j ∧ k1 = k
    · rw [if_pos e, e.1, e.2]; exact ij
    · rw [if_neg e]
      refine (h.inn.into j1 h1 k1 h2).kept kp fun b o ha' h0 => ⟨Ints_lt (h.inn.into j1 h1 k1 h2) b o ha' h0, ?_⟩
      rw [adr_inj (h.adr (.int j1 k1) ⟨h1, h2⟩ h0) ha']
      exact off (.int j1 k1) ⟨h1, h2⟩ h0 (by simp) (by simpa using e)

/-- Nothing from base on has turned. -/
theorem Own.far {base : Nat} {w w' : World} {F : FV} {at_ : Id → Nat} (h : Own base w F at_) {p : Nat → Prop} (t : Turn p w w') (hp : ∀ b, p b → b < base) : Own base w' F at_ := by
  have kp := t.kept
  refine ⟨⟨h.inn.par.kept kp fun b o ha h0 => ?_, Sls_kept h.inn.blk kp fun b o ha h0 => ?_, fun j hj => Inss_kept (h.inn.ins j hj) kp fun b o ha h0 => ?_, fun j hj k hk => (h.inn.args j hj k hk).kept kp fun b o ha h0 => ?_, fun j hj k hk => (h.inn.into j hj k hk).kept kp fun b o ha h0 => ?_⟩, h.adr, h.ge, fun x hx h0 => Nat.lt_of_lt_of_le (h.lt x hx h0) t.size, fun x hx h0 i => by rw [t.froz _ (by exact h.lt x hx h0)]; exact h.fz x hx h0 i, h.sep, h.par, h.blk, mine_turn h.pm t, mine_turn h.bm t⟩
  · exact ⟨(h.pm.ge b o ha h0).2, fun e => by have := hp b e; have := (h.pm.ge b o ha h0).1; omega⟩
  · exact ⟨(h.bm.ge b o ha h0).2, fun e => by have := hp b e; have := (h.bm.ge b o ha h0).1; omega⟩
  · have e := adr_inj (h.adr (.row j) hj h0) ha
    exact ⟨by rw [e]; exact h.lt (.row j) hj h0, fun q => by have := hp b q; have := h.ge (.row j) hj h0; omega⟩
  · have e := adr_inj (h.adr (.arg j k) ⟨hj, hk⟩ h0) ha
    exact ⟨by rw [e]; exact h.lt (.arg j k) ⟨hj, hk⟩ h0, fun q => by have := hp b q; have := h.ge (.arg j k) ⟨hj, hk⟩ h0; omega⟩
  · have e := adr_inj (h.adr (.int j k) ⟨hj, hk⟩ h0) ha
    exact ⟨by rw [e]; exact h.lt (.int j k) ⟨hj, hk⟩ h0, fun q => by have := hp b q; have := h.ge (.int j k) ⟨hj, hk⟩ h0; omega⟩

theorem Own.mine {base : Nat} {w : World} {F : FV} {at_ : Id → Nat} (h : Own base w F at_) (x : Id) (hx : has F x) : Mine base w.heap.size w (sl F x) := fun h0 =>
  ⟨at_ x, h.adr x hx h0, h.ge x hx h0, h.lt x hx h0, h.fz x hx h0⟩

end Go.Proofs.YtbmfimojhcdnbaaGreat.Own

/-
  ir.sortPhis: each Phi's entries in order.
-/
namespace Go.Proofs.YtbmfimojhcdnbaaGreat.Own
open Go.RowKit View Rd Copy Srt

set_option linter.unusedVariables false

/-- What has become of an instruction's rows: in order if it is a Phi whose rows are as many. -/
def Put (v : IV) (a j a' j' : Nat → Int) : Prop :=
  if v.op = 26 ∧ v.args.n = v.into.n then StSort a j a' j' v.args.n else a' = a ∧ j' = j

/-- Done up to block b's instruction t, the others as they were. -/
def Upto (F : FV) (b t : Nat) (A J : Nat → Nat → Nat → Int) : Prop :=
  ∀ j, j < F.blk.n → ∀ k, k < (F.B j).n → if j < b ∨ j = b ∧ k < t then Put (F.I j k) (F.A j k) (F.J j k) (A j k) (J j k) else A j k = F.A j k ∧ J j k = F.J j k

theorem upd_same (f : Nat → Nat → Nat → Int) (j k : Nat) (g : Nat → Int) : upd f j k g j k = g := by simp [upd]
theorem upd_other (f : Nat → Nat → Nat → Int) {j k j' k' : Nat} (g : Nat → Int) (h : ¬ (j' = j ∧ k' = k)) : upd f j k g j' k' = f j' k' := by simp only [upd, if_neg h]

theorem Upto.start (F : FV) : Upto F 0 0 F.A F.J := fun j hj k hk => by simp

theorem Upto.skip {F : FV} {b t : Nat} {A J : Nat → Nat → Nat → Int} (h : Upto F b t A J) (hb : b < F.blk.n) (ht : t < (F.B b).n) (hp : Put (F.I b t) (F.A b t) (F.J b t) (F.A b t) (F.J b t)) : Upto F b (t + 1) A J := fun j hj k hk => by
  have := h j hj k hk
  by_cases e : j = b ∧ k = t
  · obtain ⟨rfl, rfl⟩ := e
    rw [if_neg (by omega)] at this
    rw [if_pos (by omega), this.1, this.2]; exact hp
  · by_cases e2 : j < b ∨ j = b ∧ k < t
    · rw [if_pos e2] at this; rw [if_pos (by omega)]; exact this
    · rw [if_neg e2] at this; rw [if_neg (by omega)]; exact this

theorem Upto.put {F : FV} {b t : Nat} {A J : Nat → Nat → Nat → Int} (h : Upto F b t A J) (hb : b < F.blk.n) (ht : t < (F.B b).n) {a' j' : Nat → Int} (hp : Put (F.I b t) (F.A b t) (F.J b t) a' j') : Upto F b (t + 1) (upd A b t a') (upd J b t j') := fun j hj k hk => by
  have := h j hj k hk
  by_cases e : j = b ∧ k = t
  · obtain ⟨rfl, rfl⟩ := e
    rw [if_pos (by omega), upd_same, upd_same]; exact hp
  · rw [upd_other _ _ e, upd_other _ _ e]
    by_cases e2 : j < b ∨ j = b ∧ k < t
    · rw [if_pos e2] at this; rw [if_pos (by omega)]; exact this
    · rw [if_neg e2] at this; rw [if_neg (by omega)]; exact this

theorem Upto.next {F : FV} {b : Nat} {A J : Nat → Nat → Nat → Int} (h : Upto F b (F.B b).n A J) : Upto F (b + 1) 0 A J := fun j hj k hk => by
  have := h j hj k hk
  by_cases e2 : j < b ∨ j = b ∧ k < (F.B b).n
  · rw [if_pos e2] at this; rw [if_pos (by omega)]; exact this
  · rw [if_neg e2] at this
    rw [if_neg (fun h => ?_)]
    · exact this
    · rcases h with h | h
      · rcases Nat.lt_or_eq_of_le (Nat.le_of_lt_succ h) with h' | rfl
        · exact e2 (.inl h')
        · exact e2 (.inr ⟨rfl, hk⟩)
      · omega

/-- The blocks of a function's rows. -/
def rowsOf (F : FV) (at_ : Id → Nat) (b : Nat) : Prop := ∃ x, has F x ∧ 0 < (sl F x).n ∧ b = at_ x

/-- What sortPhis leaves. -/
def Phis (base : Nat) (F : FV) (at_ : Id → Nat) (w : World) (e : Ending) (w' : World) : Prop :=
  e = .returned (.tuple #[]) ∧ ∃ A J, Own base w' { F with A := A, J := J } at_ ∧ Upto F F.blk.n 0 A J ∧ Turn (rowsOf F at_) w w'

end Go.Proofs.YtbmfimojhcdnbaaGreat.Own

/-
  The numbers of a function's values: the map that ir.newNumbers makes.
-/
namespace Go.Proofs.YtbmfimojhcdnbaaGreat.Num
open Go.RowKit View Rd Copy Srt Own
open Go.Maps (Keyed int_keyed keyOf_int_mk)

set_option linter.unusedVariables false

def W64 (n : Int) : Prop := -9223372036854775808 ≤ n ∧ n ≤ 9223372036854775807

theorem underlying3 : Tryz.prog.underlying 3 = some (.int .i64) := by kernel_rfl

theorem law3 : Keyed Tryz.prog 3 := int_keyed underlying3

theorem zero3 (w : World) : (zeroValue 3).run Tryz.prog w = .ok (.int .i64 0) w := by kernel_rfl

theorem wf64 {n : Int} (h : W64 n) : (Lit.int .i64 n).wf = true := WalkArith.wf_i64 (by have := h.1; have := h.2; omega)

/-- Block B is a map of at most n entries that is m. -/
def MapIs (w : World) (B n : Nat) (m : Int → Option Int) : Prop :=
  ∃ D : DataW Unit, w.ownsMap Tryz.prog 3 (plainElem Tryz.prog 3) B n D ∧ ∀ v, Maps.has D (.int .i64 v) = (m v).isSome ∧ D.atKey (.int .i64 v) (.lit (.int .i64 0)) = .lit (.int .i64 ((m v).getD 0))

theorem MapIs.at_block {w w' : World} {B n : Nat} {m : Int → Option Int} (h : MapIs w B n m) (e : w'.heap[B]? = w.heap[B]?) : MapIs w' B n m := by
  obtain ⟨D, ⟨es, clock, hb, hr⟩, hv⟩ := h
  exact ⟨D, ⟨es, clock, by rw [e]; exact hb, hr⟩, hv⟩

theorem MapIs.lt {w : World} {B n : Nat} {m : Int → Option Int} (h : MapIs w B n m) : B < w.heap.size := by
  obtain ⟨D, ⟨es, clock, hb, hr⟩, hv⟩ := h
  exact (Array.getElem?_eq_some_iff.1 hb).1

theorem MapIs.on {w w' : World} {B n : Nat} {m : Int → Option Int} (hb : Below w.heap.size w w') (h : MapIs w B n m) : MapIs w' B n m := h.at_block (hb.block B h.lt)

theorem MapIs.congr {w : World} {B n n' : Nat} {m m' : Int → Option Int} (h : MapIs w B n m) (e : ∀ v, m v = m' v) (hn : n ≤ n') : MapIs w B n' m' := by
  obtain ⟨D, ⟨es, clock, hb, hr, hs, hd⟩, hv⟩ := h
  exact ⟨D, ⟨es, clock, hb, hr, Nat.le_trans hs hn, hd⟩, fun v => by rw [← e v]; exact hv v⟩

theorem MapIs.made (w : World) : MapIs (w.alloc (.map #[] 0)) w.heap.size 0 (fun _ => none) :=
  ⟨.map [], World.ownsMap_made _ _ _ _, fun v => ⟨rfl, rfl⟩⟩

/-- The parameters' own numbers. -/
def m0 (np : Nat) (v : Int) : Option Int := if 1 ≤ v ∧ v ≤ np then some v else none

def rowMap (m : Int → Option Int) (l : Nat) (f : Nat → IV) : Nat → Int → Option Int
  | 0 => m
  | k + 1 => fun v => if (f k).ty ≠ 0 ∧ rowMap m l f k (f k).to = none ∧ v = (f k).to then some ((l : Int) + giv f (k + 1)) else rowMap m l f k v

theorem rowMap_no {m : Int → Option Int} {l : Nat} {f : Nat → IV} {k : Nat} {v : Int} (h : ¬ ((f k).ty ≠ 0 ∧ rowMap m l f k (f k).to = none ∧ v = (f k).to)) : rowMap m l f (k + 1) v = rowMap m l f k v := if_neg h
theorem rowMap_yes {m : Int → Option Int} {l : Nat} {f : Nat → IV} {k : Nat} {v : Int} (h1 : (f k).ty ≠ 0) (h2 : rowMap m l f k (f k).to = none) (h3 : v = (f k).to) : rowMap m l f (k + 1) v = some ((l : Int) + giv f (k + 1)) := if_pos ⟨h1, h2, h3⟩

abbrev lastOf (F : FV) (j : Nat) : Nat := F.par.n + cnt (fun j => giv (F.I j) (F.B j).n) j

def allMap (F : FV) : Nat → Int → Option Int
  | 0 => m0 F.par.n
  | j + 1 => rowMap (allMap F j) (lastOf F j) (F.I j) (F.B j).n

/-- The numbers fit. -/
structure Rng (F : FV) : Prop where
  to : ∀ j, j < F.blk.n → ∀ k, k < (F.B j).n → W64 (F.I j k).to
  args : ∀ j, j < F.blk.n → ∀ k, k < (F.B j).n → ∀ i, i < (F.I j k).args.n → W64 (F.A j k i)

def Numbers (F : FV) (w : World) (e : Ending) (w' : World) : Prop :=
  ∃ n, e = .returned (.map (some (w.heap.size + 1))) ∧ MapIs w' (w.heap.size + 1) n (allMap F F.blk.n) ∧ Below w.heap.size w w'

end Go.Proofs.YtbmfimojhcdnbaaGreat.Num

/-
  What a function that comes in as an argument is in memory.
-/
namespace Go.Proofs.YtbmfimojhcdnbaaGreat.Opn
open Go.RowKit Go.Deep View Rd Num

set_option linter.unusedVariables false

variable {H : Type} {enc : TypeId × Value → H} {w : World}

noncomputable abbrev rd (enc : TypeId × Value → H) (w : World) (fuel t : Nat) (cs : List Value) : Option (DataW H × List MemPlace) := DataW.trod enc Tryz.prog w 0 (fun _ => true) true fuel t cs

/-- All that it weighs is within reach. -/
def Lgt (t : Nat) (d : DataW H) : Prop := ∀ n ∈ d.weights Tryz.prog t, n ≤ reachBytes

theorem weightsAll_mem {P : Program} {e : TypeId} : ∀ {l : List (DataW H)} {d : DataW H}, d ∈ l → ∀ n ∈ d.weights P e, n ∈ DataW.weightsAll P e l
  | x :: l, d, h, n, hn => by
    rw [DataW.weightsAll, List.mem_append]
    rcases List.mem_cons.1 h with rfl | h
    · exact .inl hn
    · exact .inr (weightsAll_mem h n hn)

theorem open_row {T e z by_ fuel : Nat} {cs : List Value} {x : DataW H × List MemPlace} (hT : Tryz.prog.underlying T = some (.slice e)) (hz : Tryz.prog.cellsOf e = z) (hz0 : 0 < z) (hby : Tryz.prog.bytesOf e = by_) (hb0 : 0 < by_)
    (h : rd enc w fuel T cs = some x) (hw : Lgt T x.1) :
    ∃ (s : Sl) (n b off : Nat) (D : Nat → DataW H) (Pl : Nat → List MemPlace), cs = [.slice s.a s.n s.c] ∧ s.n ≤ s.c ∧ s.n ≤ 140737488355328 ∧ (s.a = none → s.c = 0) ∧ (0 < s.n → s.a = some ⟨b, off, none⟩) ∧
      ∀ i, i < s.n → ∃ cs' : List Value, cs'.length = z ∧ (∀ c, c < z → w.cell? ⟨b, off + i * z + c, none⟩ = cs'[c]?) ∧ rd enc w n e cs' = some (D i, Pl i) ∧ Lgt e (D i) := by
  rcases open_slice hT h with ⟨rfl, rfl⟩ | ⟨a, len, cap, m, n, D, Pl, rfl, _, hlc, hcm, hm, rfl, hel⟩
  · exact ⟨⟨none, 0, 0⟩, 0, 0, 0, fun _ => .nil, fun _ => [], rfl, Nat.le_refl _, Nat.zero_le _, fun _ => rfl, fun h => absurd h (by simp), fun i hi => absurd hi (by simp)⟩
  · simp only [if_true] at hm
    subst hm
    rw [hz] at hel
    have hwt : (len + (m - len)) * by_ ≤ reachBytes := by
      have := hw ((len + (m - len)) * Tryz.prog.bytesOf e) (by simp [DataW.weights, hT])
      rw [hby] at this; exact this
    have hlen : len ≤ 140737488355328 := by
      have h1 : len ≤ (len + (m - len)) * by_ := Nat.le_trans (by omega : len ≤ len + (m - len)) (Nat.le_mul_of_pos_right _ hb0)
      unfold reachBytes at hwt
      omega
    have hD : ∀ i, i < len → Lgt e (D i) := fun i hi k hk => by
      refine hw k ?_
      simp only [DataW.weights, hT, List.mem_cons, List.mem_append]
      exact .inr (.inl (weightsAll_mem (List.mem_map.2 ⟨i, List.mem_range.2 hi, rfl⟩) k hk))
    obtain ⟨b, off, spot⟩ := a
    by_cases h0 : 0 < len
    · have hspot : spot = none := by
        obtain ⟨cs', h1, _⟩ := hel 0 (by omega)
        obtain ⟨_, h2, h3⟩ := World.cells?_some h1
        have h4 := h3 0 hz0
        simp only [Nat.zero_mul, Addr.add, if_true] at h4
        have h5 : 0 < cs'.length := by omega
        rw [List.getElem?_eq_getElem h5] at h4
        simpa using World.cell?_spot h4
      subst hspot
      refine ⟨⟨some ⟨b, off, none⟩, len, m⟩, n, b, off, D, Pl, rfl, hlc, hlen, fun h => by simp at h, fun _ => rfl, fun i hi => ?_⟩
      obtain ⟨cs', h1, h2⟩ := hel i (by simp only at hi; omega)
      obtain ⟨_, h3, h4⟩ := World.cells?_some h1
      exact ⟨cs', h3, fun c hc => by have := h4 c hc; rw [Addr.add_lit, Addr.add_lit] at this; exact this, h2, hD i hi⟩
    · exact ⟨⟨some ⟨b, off, spot⟩, len, m⟩, n, b, off, D, Pl, rfl, hlc, hlen, fun h => by simp at h, fun h => absurd h h0, fun i hi => absurd (Nat.lt_of_le_of_lt (Nat.zero_le _) hi) h0⟩

theorem w64_of {n : Int} (h : (Lit.int .i64 n).wf = true) : W64 n := by
  have := bounds_i64 h
  exact ⟨this.1, this.2⟩

theorem cells3 : Tryz.prog.cellsOf 3 = 1 := by kernel_rfl
theorem bytes3 : Tryz.prog.bytesOf 3 = 8 := by kernel_rfl

theorem open_intsV {fuel : Nat} {cs : List Value} {x : DataW H × List MemPlace} (h : rd enc w fuel 40 cs = some x) (hw : Lgt 40 x.1) :
    ∃ (s : Sl) (f : Nat → Int), cs = [.slice s.a s.n s.c] ∧ Ints w s f ∧ ∀ i, i < s.n → W64 (f i) := by
  obtain ⟨s, n, b, off, D, Pl, rfl, h1, h2, h3, h4, h5⟩ := open_row underlying40 cells3 (by decide) bytes3 (by decide) h hw
  obtain ⟨f, hf⟩ := choose_lt (α := Int) (n := s.n) (p := fun i v => w.cell? ⟨b, off + i, none⟩ = some (.int .i64 v) ∧ W64 v) (fun i hi => by
    obtain ⟨cs', c1, c2, c3, _⟩ := h5 i hi
    obtain ⟨v, rfl, _, hwf⟩ := DataW.trod_int underlying3 c3
    have := c2 0 (by decide)
    exact ⟨v, by simpa using this, w64_of hwf⟩)
  exact ⟨s, f, rfl, ⟨h1, h2, h3, fun h0 => ⟨b, off, h4 h0, fun i hi => (hf i hi).1⟩⟩, fun i hi => (hf i hi).2⟩

theorem cells50 : Tryz.prog.cellsOf 50 = 7 := by kernel_rfl
theorem bytes50 : Tryz.prog.bytesOf 50 = 88 := by kernel_rfl
theorem cells2 : Tryz.prog.cellsOf 2 = 1 := by kernel_rfl
theorem cells40 : Tryz.prog.cellsOf 40 = 1 := by kernel_rfl
theorem underlying2 : Tryz.prog.underlying 2 = some (.int .i64) := by kernel_rfl

theorem Lgt.part {t : Nat} {fs : Array Field} {parts : List (DataW H)} (hu : Tryz.prog.underlying t = some (.struct fs)) (h : Lgt t (.agg parts)) {i : Nat} {f : Field} {d : DataW H} (hf : fs.toList[i]? = some f) (hd : parts[i]? = some d) : Lgt f.type d := fun n hn => by
  refine h n ?_
  simp only [DataW.weights, hu]
  exact DataW.weights_mem_each (by rw [List.getElem?_map, hf]; rfl) hd n hn

theorem len1 {α : Type} {l : List α} (h : l.length = 1) : ∃ a, l = [a] := by
  match l, h with | [a], _ => exact ⟨a, rfl⟩
theorem len5 {α : Type} {l : List α} (h : l.length = 5) : ∃ a b c d e, l = [a, b, c, d, e] := by
  match l, h with | [a, b, c, d, e], _ => exact ⟨a, b, c, d, e, rfl⟩
theorem len7 {α : Type} {l : List α} (h : l.length = 7) : ∃ a b c d e f g, l = [a, b, c, d, e, f, g] := by
  match l, h with | [a, b, c, d, e, f, g], _ => exact ⟨a, b, c, d, e, f, g, rfl⟩

/-- One instruction. -/
theorem open_insV {fuel : Nat} {cs : List Value} {x : DataW H × List MemPlace} (h : rd enc w fuel 50 cs = some x) (hw : Lgt 50 x.1) :
    ∃ (v : IV) (a j : Nat → Int), cs = v.cells.toList ∧ Ints w v.args a ∧ Ints w v.into j ∧ W64 v.op ∧ W64 v.ty ∧ W64 v.to ∧ W64 v.sym ∧ W64 v.num ∧ (∀ i, i < v.args.n → W64 (a i)) ∧ ∀ i, i < v.into.n → W64 (j i) := by
  obtain ⟨xs, n, _, rfl, hl, hx, hf⟩ := DataW.trod_struct Tryz.underlying50 h
  rw [cells50] at hl
  obtain ⟨c0, c1, c2, c3, c4, c5, c6, rfl⟩ := len7 hl
  obtain ⟨y0, y1, y2, y3, y4, y5, y6, rfl⟩ := len7 (show xs.length = 7 from hx)
  have f0 := hf 0 _ rfl
  have f1 := hf 1 _ rfl
  have f2 := hf 2 _ rfl
  have f3 := hf 3 _ rfl
  have f4 := hf 4 _ rfl
  have f5 := hf 5 _ rfl
  have f6 := hf 6 _ rfl
  have w5 : Lgt 40 y5.1 := Lgt.part Tryz.underlying50 hw (i := 5) rfl rfl
  have w6 : Lgt 40 y6.1 := Lgt.part Tryz.underlying50 hw (i := 6) rfl rfl
  simp [cells3, cells2, cells40] at f0 f1 f2 f3 f4 f5 f6
  obtain ⟨v0, e0, _, b0⟩ := DataW.trod_int underlying3 f0
  obtain ⟨v1, e1, _, b1⟩ := DataW.trod_int underlying3 f1
  obtain ⟨v2, e2, _, b2⟩ := DataW.trod_int underlying3 f2
  obtain ⟨v3, e3, _, b3⟩ := DataW.trod_int underlying3 f3
  obtain ⟨v4, e4, _, b4⟩ := DataW.trod_int underlying2 f4
  obtain ⟨sa, a, e5, i5, b5⟩ := open_intsV f5 w5
  obtain ⟨si, j, e6, i6, b6⟩ := open_intsV f6 w6
  simp at e0 e1 e2 e3 e4 e5 e6
  subst e0 e1 e2 e3 e4 e5 e6
  exact ⟨⟨v0, v1, v2, v3, v4, sa, si⟩, a, j, rfl, i5, i6, w64_of b0, w64_of b1, w64_of b2, w64_of b3, w64_of b4, b5, b6⟩

instance : Inhabited Sl := ⟨⟨none, 0, 0⟩⟩
instance : Inhabited IV := ⟨IV.zero⟩

/-- A row of instructions. -/
theorem open_inss {fuel : Nat} {cs : List Value} {x : DataW H × List MemPlace} (h : rd enc w fuel 45 cs = some x) (hw : Lgt 45 x.1) :
    ∃ (s : Sl) (I : Nat → IV) (A J : Nat → Nat → Int), cs = [.slice s.a s.n s.c] ∧ Inss w s I ∧ ∀ k, k < s.n → Ints w (I k).args (A k) ∧ Ints w (I k).into (J k) ∧ W64 (I k).op ∧ W64 (I k).ty ∧ W64 (I k).to ∧ W64 (I k).sym ∧ W64 (I k).num ∧ (∀ i, i < (I k).args.n → W64 (A k i)) ∧ ∀ i, i < (I k).into.n → W64 (J k i) := by
  obtain ⟨s, n, b, off, D, Pl, rfl, h1, h2, h3, h4, h5⟩ := open_row underlying45 cells50 (by decide) bytes50 (by decide) h hw
  obtain ⟨f, hf⟩ := choose_lt (α := IV × (Nat → Int) × (Nat → Int)) (n := s.n) (p := fun i v => InsAt w b (off + i * 7) v.1 ∧ Ints w v.1.args v.2.1 ∧ Ints w v.1.into v.2.2 ∧ W64 v.1.op ∧ W64 v.1.ty ∧ W64 v.1.to ∧ W64 v.1.sym ∧ W64 v.1.num ∧ (∀ i, i < v.1.args.n → W64 (v.2.1 i)) ∧ ∀ i, i < v.1.into.n → W64 (v.2.2 i)) (fun i hi => by
    obtain ⟨cs', c1, c2, c3, c4⟩ := h5 i hi
    obtain ⟨v, a, j, rfl, hr⟩ := open_insV c3 c4
    exact ⟨(v, a, j), ⟨by simpa using c2 0 (by decide), c2 1 (by decide), c2 2 (by decide), c2 3 (by decide), c2 4 (by decide), c2 5 (by decide), c2 6 (by decide)⟩, hr⟩)
  exact ⟨s, fun k => (f k).1, fun k => (f k).2.1, fun k => (f k).2.2, rfl, ⟨h1, h2, h3, fun h0 => ⟨b, off, h4 h0, fun i hi => (hf i hi).1⟩⟩, fun k hk => (hf k hk).2⟩

theorem cells47 : Tryz.prog.cellsOf 47 = 1 := by kernel_rfl
theorem bytes47 : Tryz.prog.bytesOf 47 = 24 := by kernel_rfl
theorem cells45 : Tryz.prog.cellsOf 45 = 1 := by kernel_rfl
theorem cells43 : Tryz.prog.cellsOf 43 = 5 := by kernel_rfl
theorem cells41 : Tryz.prog.cellsOf 41 = 1 := by kernel_rfl
theorem cells9 : Tryz.prog.cellsOf 9 = 1 := by kernel_rfl
theorem cells4 : Tryz.prog.cellsOf 4 = 1 := by kernel_rfl

theorem open_blk {fuel : Nat} {cs : List Value} {x : DataW H × List MemPlace} (h : rd enc w fuel 47 cs = some x) (hw : Lgt 47 x.1) : ∃ n y, rd enc w n 45 cs = some y ∧ Lgt 45 y.1 := by
  obtain ⟨xs, n, _, rfl, hl, hx, hf⟩ := DataW.trod_struct Tryz.underlying47 h
  rw [cells47] at hl
  obtain ⟨c0, rfl⟩ := len1 hl
  obtain ⟨y0, rfl⟩ := len1 (show xs.length = 1 from hx)
  have f0 := hf 0 _ rfl
  have w0 : Lgt 45 y0.1 := Lgt.part Tryz.underlying47 hw (i := 0) rfl rfl
  simp [cells45] at f0
  exact ⟨n, y0, f0, w0⟩

/-- All numbers of a function fit. -/
structure Fits (F : FV) : Prop where
  res : W64 F.res
  par : ∀ i, i < F.par.n → W64 (F.P i)
  ins : ∀ j, j < F.blk.n → ∀ k, k < (F.B j).n → W64 (F.I j k).op ∧ W64 (F.I j k).ty ∧ W64 (F.I j k).to ∧ W64 (F.I j k).sym ∧ W64 (F.I j k).num
  args : ∀ j, j < F.blk.n → ∀ k, k < (F.B j).n → ∀ i, i < (F.I j k).args.n → W64 (F.A j k i)
  into : ∀ j, j < F.blk.n → ∀ k, k < (F.B j).n → ∀ i, i < (F.I j k).into.n → W64 (F.J j k i)

theorem Fits.rng {F : FV} (h : Fits F) : Rng F := ⟨fun j hj k hk => (h.ins j hj k hk).2.2.1, h.args⟩

/-- A function. -/
theorem open_func {fuel : Nat} {cs : List Value} {x : DataW H × List MemPlace} (h : rd enc w fuel 43 cs = some x) (hw : Lgt 43 x.1) :
    ∃ F : FV, cs = [.string F.name, .bool F.out, .slice F.par.a F.par.n F.par.c, .int .i64 F.res, .slice F.blk.a F.blk.n F.blk.c] ∧ In w F ∧ Fits F ∧ F.name.size ≤ maxLen := by
  obtain ⟨xs, n, _, rfl, hl, hx, hf⟩ := DataW.trod_struct Tryz.underlying43 h
  rw [cells43] at hl
  obtain ⟨c0, c1, c2, c3, c4, rfl⟩ := len5 hl
  obtain ⟨y0, y1, y2, y3, y4, rfl⟩ := len5 (show xs.length = 5 from hx)
  have f0 := hf 0 _ rfl
  have f1 := hf 1 _ rfl
  have f2 := hf 2 _ rfl
  have f3 := hf 3 _ rfl
  have f4 := hf 4 _ rfl
  have w2 : Lgt 40 y2.1 := Lgt.part Tryz.underlying43 hw (i := 2) rfl rfl
  have w4 : Lgt 41 y4.1 := Lgt.part Tryz.underlying43 hw (i := 4) rfl rfl
  simp [cells3, cells9, cells40, cells41, cells4] at f0 f1 f2 f3 f4
  obtain ⟨nm, e0, _, b0⟩ := DataW.trod_string Tryz.underlying9 f0
  obtain ⟨ou, e1, _⟩ := DataW.trod_bool Tryz.underlying4 f1
  obtain ⟨sp, P, e2, i2, b2⟩ := open_intsV f2 w2
  obtain ⟨re, e3, _, b3⟩ := DataW.trod_int underlying3 f3
  obtain ⟨sb, nb, b, off, D, Pl, e4, h1, h2, h3, h4, h5⟩ := open_row underlying41 cells47 (by decide) bytes47 (by decide) f4 w4
  simp at e0 e1 e2 e3 e4
  subst e0 e1 e2 e3 e4
  obtain ⟨f, hf⟩ := choose_lt (α := Sl × (Nat → IV) × (Nat → Nat → Int) × (Nat → Nat → Int)) (n := sb.n) (p := fun i v => w.cell? ⟨b, off + i, none⟩ = some (.slice v.1.a v.1.n v.1.c) ∧ Inss w v.1 v.2.1 ∧ ∀ k, k < v.1.n → Ints w (v.2.1 k).args (v.2.2.1 k) ∧ Ints w (v.2.1 k).into (v.2.2.2 k) ∧ W64 (v.2.1 k).op ∧ W64 (v.2.1 k).ty ∧ W64 (v.2.1 k).to ∧ W64 (v.2.1 k).sym ∧ W64 (v.2.1 k).num ∧ (∀ i, i < (v.2.1 k).args.n → W64 (v.2.2.1 k i)) ∧ ∀ i, i < (v.2.1 k).into.n → W64 (v.2.2.2 k i)) (fun i hi => by
    obtain ⟨cs', c1, c2, c3, c4⟩ := h5 i hi
    obtain ⟨m, y, d1, d2⟩ := open_blk c3 c4
    obtain ⟨s, I, A, J, rfl, hr⟩ := open_inss d1 d2
    exact ⟨(s, I, A, J), by simpa using c2 0 (by decide), hr⟩)
  refine ⟨⟨nm, ou, sp, re, sb, P, fun j => (f j).1, fun j => (f j).2.1, fun j => (f j).2.2.1, fun j => (f j).2.2.2⟩, rfl, ⟨i2, ⟨h1, h2, h3, fun h0 => ⟨b, off, h4 h0, fun i hi => (hf i hi).1⟩⟩, fun j hj => (hf j hj).2.1, fun j hj k hk => ((hf j hj).2.2 k hk).1, fun j hj k hk => ((hf j hj).2.2 k hk).2.1⟩, ⟨w64_of b3, b2, fun j hj k hk => ?_, fun j hj k hk => ?_, fun j hj k hk => ?_⟩, b0⟩
  · obtain ⟨_, _, a1, a2, a3, a4, a5, _⟩ := (hf j hj).2.2 k hk
    exact ⟨a1, a2, a3, a4, a5⟩
  · obtain ⟨_, _, _, _, _, _, _, a, _⟩ := (hf j hj).2.2 k hk
    exact a
  · obtain ⟨_, _, _, _, _, _, _, _, a⟩ := (hf j hj).2.2 k hk
    exact a

end Go.Proofs.YtbmfimojhcdnbaaGreat.Opn
