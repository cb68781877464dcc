/-
  A function in memory of the call's own: every row in a block of its own; what stays when one of them is written.
-/
import Derived.Test.YtbmfimojhcdnbaaCopyF
import Derived.Test.YtbmfimojhcdnbaaSortF
namespace Go.Proofs.Ytbmfimojhcdnbaa.Own
open Go.RowKit View Rd Copy Srt

set_option linter.unusedVariables false

/-- The rows of a function: a block's instructions, what one of them takes, where it goes. -/
inductive Id where
  | row (j : Nat)
  | arg (j k : Nat)
  | int (j k : Nat)

def sl (F : FV) : Id → Sl
  | .row j => F.B j
  | .arg j k => (F.I j k).args
  | .int j k => (F.I j k).into

def has (F : FV) : Id → Prop
  | .row j => j < F.blk.n
  | .arg j k => j < F.blk.n ∧ k < (F.B j).n
  | .int j k => j < F.blk.n ∧ k < (F.B j).n

structure Own (base : Nat) (w : World) (F : FV) (at_ : Id → Nat) : Prop where
  inn : In w F
  adr : ∀ x, has F x → 0 < (sl F x).n → (sl F x).a = some ⟨at_ x, 0, none⟩
  ge : ∀ x, has F x → 0 < (sl F x).n → base ≤ at_ x
  lt : ∀ x, has F x → 0 < (sl F x).n → at_ x < w.heap.size
  fz : ∀ x, has F x → 0 < (sl F x).n → ∀ i, w.frozen? ⟨at_ x, i, none⟩ = false
  sep : ∀ x y, has F x → has F y → 0 < (sl F x).n → 0 < (sl F y).n → at_ x = at_ y → x = y
  par : ∀ x, has F x → 0 < (sl F x).n → ∀ b o, F.par.a = some ⟨b, o, none⟩ → 0 < F.par.n → b ≠ at_ x
  blk : ∀ x, has F x → 0 < (sl F x).n → ∀ b o, F.blk.a = some ⟨b, o, none⟩ → 0 < F.blk.n → b ≠ at_ x
  pm : Mine base w.heap.size w F.par
  bm : Mine base w.heap.size w F.blk

def blkOf (s : Sl) : Nat := match s.a with | some a => a.block | none => 0

theorem blkOf_eq {s : Sl} {g o : Nat} (h : s.a = some ⟨g, o, none⟩) : blkOf s = g := by unfold blkOf; rw [h]

def atOf (gB : Nat → Nat) (sa si : Nat → Nat → Sl) : Id → Nat
  | .row j => gB j
  | .arg j k => blkOf (sa j k)
  | .int j k => blkOf (si j k)

theorem own_copy {F : FV} {w' : World} {base G : Nat} {sp : Sl} {gB : Nat → Nat} {sa si : Nat → Nat → Sl} {h : Nat → Nat → Nat} {H : Nat → Nat} (hl : Light F)
    (hn : sp.n = F.par.n) (hp : Ints w' sp F.P) (mp : Mine base G w' sp) (r : BRows G F.blk.n F.blk.n w' F.B F.I F.A F.J gB sa si h H) (hb : base ≤ G) :
    Own base w' (twin F sp G gB sa si) (atOf gB sa si) ∧ Light (twin F sp G gB sa si) := by
  have hup := r.up
  have hlo := r.lo
  have hHb : ∀ j, j ≤ F.blk.n → G < H j := fun j hj => Nat.lt_of_lt_of_le hlo (mono_le hup hj (Nat.zero_le _))
  have hHs : ∀ j, j ≤ F.blk.n → H j ≤ w'.heap.size := fun j hj => Nat.le_trans (mono_le hup (Nat.le_refl _) hj) r.hi
  -- where each row lies
  have tw : ∀ j, j < F.blk.n → ∀ k, k < (F.B j).n → Copy.Twin (h j k) (h j (k + 1)) w' (sa j k) (si j k) (F.I j k) (F.A j k) (F.J j k) := fun j hj k hk => (r.rows j hj).tw k hk
  have hmon : ∀ j, j < F.blk.n → ∀ a b, a ≤ b → b ≤ (F.B j).n → h j a ≤ h j b := fun j hj a b hab hbn => mono_le (r.rows j hj).up hbn hab
  have argIn : ∀ j, j < F.blk.n → ∀ k, k < (F.B j).n → 0 < (sa j k).n → ∃ g, (sa j k).a = some ⟨g, 0, none⟩ ∧ blkOf (sa j k) = g ∧ h j k ≤ g ∧ g < h j (k + 1) ∧ ∀ i, w'.frozen? ⟨g, i, none⟩ = false := fun j hj k hk h0 => by
    obtain ⟨g, a1, a2, a3, a4⟩ := (tw j hj k hk).ma h0
    exact ⟨g, a1, blkOf_eq a1, a2, a3, a4⟩
  have intIn : ∀ j, j < F.blk.n → ∀ k, k < (F.B j).n → 0 < (si j k).n → ∃ g, (si j k).a = some ⟨g, 0, none⟩ ∧ blkOf (si j k) = g ∧ h j k ≤ g ∧ g < h j (k + 1) ∧ ∀ i, w'.frozen? ⟨g, i, none⟩ = false := fun j hj k hk h0 => by
    obtain ⟨g, a1, a2, a3, a4⟩ := (tw j hj k hk).mj h0
    exact ⟨g, a1, blkOf_eq a1, a2, a3, a4⟩
  have inn : In w' (twin F sp G gB sa si) := by
    refine ⟨hp, ⟨Nat.le_refl _, by have := hl.blk; show F.blk.n ≤ _; omega, fun e => by simp at e, fun h0 => ⟨G, 0, rfl, fun i hi => ?_⟩⟩, fun j hj => (r.rows j hj).inss (by have := hl.ins j hj; omega) (Nat.le_refl _), fun j hj k hk => (tw j hj k hk).args, fun j hj k hk => (tw j hj k hk).into⟩
    rw [Nat.zero_add, r.own.cellAt i (by simpa using hi)]
    simp only at hi
    simp [hi]
  have pos : ∀ x, has (twin F sp G gB sa si) x → 0 < (sl (twin F sp G gB sa si) x).n → ∃ j, j < F.blk.n ∧ (match x with | .row j' => j' = j | .arg j' _ => j' = j | .int j' _ => j' = j) ∧ H j ≤ atOf gB sa si x ∧ atOf gB sa si x < H (j + 1) ∧ (sl (twin F sp G gB sa si) x).a = some ⟨atOf gB sa si x, 0, none⟩ ∧ ∀ i, w'.frozen? ⟨atOf gB sa si x, i, none⟩ = false := by
    intro x hx h0
    cases x with
    | row j =>
      have hj : j < F.blk.n := hx
      refine ⟨j, hj, rfl, r.lows j hj, ?_, rfl, fun i => (r.rows j hj).own.frozenAt i⟩
      have := (r.rows j hj).le; have := r.tops j hj; show gB j < _; omega
    | arg j k =>
      obtain ⟨hj, hk⟩ : j < F.blk.n ∧ k < (F.B j).n := hx
      obtain ⟨g, a1, a2, a3, a4, a5⟩ := argIn j hj k hk h0
      have q1 := r.lows j hj; have q2 := (r.rows j hj).lo; have q3 := hmon j hj 0 k (Nat.zero_le _) (by omega); have q4 := hmon j hj (k + 1) (F.B j).n (by omega) (Nat.le_refl _); have q5 := r.tops j hj
      exact ⟨j, hj, rfl, by show H j ≤ blkOf (sa j k); omega, by show blkOf (sa j k) < _; omega, by show (sa j k).a = some ⟨blkOf (sa j k), 0, none⟩; rw [a2]; exact a1, by show ∀ i, w'.frozen? ⟨blkOf (sa j k), i, none⟩ = false; rw [a2]; exact a5⟩
    | int j k =>
      obtain ⟨hj, hk⟩ : j < F.blk.n ∧ k < (F.B j).n := hx
      obtain ⟨g, a1, a2, a3, a4, a5⟩ := intIn j hj k hk h0
      have q1 := r.lows j hj; have q2 := (r.rows j hj).lo; have q3 := hmon j hj 0 k (Nat.zero_le _) (by omega); have q4 := hmon j hj (k + 1) (F.B j).n (by omega) (Nat.le_refl _); have q5 := r.tops j hj
      exact ⟨j, hj, rfl, by show H j ≤ blkOf (si j k); omega, by show blkOf (si j k) < _; omega, by show (si j k).a = some ⟨blkOf (si j k), 0, none⟩; rw [a2]; exact a1, by show ∀ i, w'.frozen? ⟨blkOf (si j k), i, none⟩ = false; rw [a2]; exact a5⟩
  refine ⟨⟨inn, fun x hx h0 => ?_, fun x hx h0 => ?_, fun x hx h0 => ?_, fun x hx h0 => ?_, ?_, fun x hx h0 b o hb' hn' => ?_, fun x hx h0 b o hb' hn' => ?_, ?_, ?_⟩, ?_⟩
  · obtain ⟨j, _, _, _, _, h, _⟩ := pos x hx h0; exact h
  · obtain ⟨j, hj, _, h, _⟩ := pos x hx h0; have := hHb j (by omega); omega
  · obtain ⟨j, hj, _, _, h, _⟩ := pos x hx h0; have := hHs (j + 1) (by omega); omega
  · obtain ⟨j, _, _, _, _, _, h⟩ := pos x hx h0; exact h
  · intro x y hx hy h0 h0' e
    obtain ⟨j, hj, jx, p1, p2, _⟩ := pos x hx h0
    obtain ⟨j', hj', jy, p1', p2', _⟩ := pos y hy h0'
    have ej : j = j' := by
      rcases Nat.lt_trichotomy j j' with h' | h' | h'
      · have := mono_le hup (show j' ≤ F.blk.n by omega) (show j + 1 ≤ j' by omega); omega
      · exact h'
      · have := mono_le hup (show j ≤ F.blk.n by omega) (show j' + 1 ≤ j by omega); omega
    subst ej
    have q2 := (r.rows j hj).lo
    cases x with
    | row jx' =>
      simp only at jx; subst jx
      cases y with
      | row jy' => simp only at jy; subst jy; rfl
      | arg jy' k' =>
        simp only at jy; subst jy
        obtain ⟨_, hk'⟩ : _ ∧ k' < (F.B jy').n := hy
        obtain ⟨g, _, a2, a3, _⟩ := argIn jy' hj k' hk' h0'
        have := hmon jy' hj 0 k' (Nat.zero_le _) (by omega)
        have : gB jy' = blkOf (sa jy' k') := e
        omega
      | int jy' k' =>
        simp only at jy; subst jy
        obtain ⟨_, hk'⟩ : _ ∧ k' < (F.B jy').n := hy
        obtain ⟨g, _, a2, a3, _⟩ := intIn jy' hj k' hk' h0'
        have := hmon jy' hj 0 k' (Nat.zero_le _) (by omega)
        have : gB jy' = blkOf (si jy' k') := e
        omega
    | arg jx' k =>
      simp only at jx; subst jx
      obtain ⟨_, hk⟩ : _ ∧ k < (F.B jx').n := hx
      obtain ⟨g, b1, b2, b3, b4, _⟩ := argIn jx' hj k hk h0
      cases y with
      | row jy' =>
        simp only at jy; subst jy
        have := hmon jy' hj 0 k (Nat.zero_le _) (by omega)
        have : blkOf (sa jy' k) = gB jy' := e
        omega
      | arg jy' k' =>
        simp only at jy; subst jy
        obtain ⟨_, hk'⟩ : _ ∧ k' < (F.B jy').n := hy
        obtain ⟨g', a1, a2, a3, a4, _⟩ := argIn jy' hj k' hk' h0'
        have e' : blkOf (sa jy' k) = blkOf (sa jy' k') := e
        rcases Nat.lt_trichotomy k k' with h' | h' | h'
        · have := hmon jy' hj (k + 1) k' h' (by omega); omega
        · rw [h']
        · have := hmon jy' hj (k' + 1) k h' (by omega); omega
      | int jy' k' =>
        simp only at jy; subst jy
        obtain ⟨_, hk'⟩ : _ ∧ k' < (F.B jy').n := hy
        obtain ⟨g', a1, a2, a3, a4, _⟩ := intIn jy' hj k' hk' h0'
        have e' : blkOf (sa jy' k) = blkOf (si jy' k') := e
        exfalso
        rcases Nat.lt_trichotomy k k' with h' | h' | h'
        · have := hmon jy' hj (k + 1) k' h' (by omega); omega
        · subst h'
          have := (tw jy' hj k hk).ord g g' b1 a1 h0 h0'; omega
        · have := hmon jy' hj (k' + 1) k h' (by omega); omega
    | int jx' k =>
      simp only at jx; subst jx
      obtain ⟨_, hk⟩ : _ ∧ k < (F.B jx').n := hx
      obtain ⟨g, b1, b2, b3, b4, _⟩ := intIn jx' hj k hk h0
      cases y with
      | row jy' =>
        simp only at jy; subst jy
        have := hmon jy' hj 0 k (Nat.zero_le _) (by omega)
        have : blkOf (si jy' k) = gB jy' := e
        omega
      | arg jy' k' =>
        simp only at jy; subst jy
        obtain ⟨_, hk'⟩ : _ ∧ k' < (F.B jy').n := hy
        obtain ⟨g', a1, a2, a3, a4, _⟩ := argIn jy' hj k' hk' h0'
        have e' : blkOf (si jy' k) = blkOf (sa jy' k') := e
        exfalso
        rcases Nat.lt_trichotomy k k' with h' | h' | h'
        · have := hmon jy' hj (k + 1) k' h' (by omega); omega
        · subst h'
          have := (tw jy' hj k hk).ord g' g a1 b1 h0' h0; omega
        · have := hmon jy' hj (k' + 1) k h' (by omega); omega
      | int jy' k' =>
        simp only at jy; subst jy
        obtain ⟨_, hk'⟩ : _ ∧ k' < (F.B jy').n := hy
        obtain ⟨g', a1, a2, a3, a4, _⟩ := intIn jy' hj k' hk' h0'
        have e' : blkOf (si jy' k) = blkOf (si jy' k') := e
        rcases Nat.lt_trichotomy k k' with h' | h' | h'
        · have := hmon jy' hj (k + 1) k' h' (by omega); omega
        · rw [h']
        · have := hmon jy' hj (k' + 1) k h' (by omega); omega
  · obtain ⟨j, hj, _, h, _⟩ := pos x hx h0
    have := hHb j (by omega)
    have := (mp.ge b o hb' hn').2
    omega
  · obtain ⟨j, hj, _, h, _⟩ := pos x hx h0
    have := hHb j (by omega)
    simp at hb'
    omega
  · exact mp.wide (Nat.le_refl _) (by have := (r.own.lt G rfl).2; omega)
  · exact fun _ => ⟨G, rfl, hb, (r.own.lt G rfl).2, fun i => r.own.frozenAt i⟩
  · exact ⟨hl.all, hl.name, by show sp.n ≤ 8; rw [hn]; exact hl.par, hl.blk, hl.ins, fun j hj k hk => by show (sa j k).n ≤ 20; rw [(tw j hj k hk).an]; exact hl.args j hj k hk, fun j hj k hk => by show (si j k).n ≤ 20; rw [(tw j hj k hk).jn]; exact hl.into j hj k hk⟩

theorem Own.on {base : Nat} {w w' : World} {F : FV} {at_ : Id → Nat} (hb : Below w.heap.size w w') (h : Own base w F at_) : Own base w' F at_ :=
  ⟨h.inn.on hb, h.adr, h.ge, fun x hx h0 => Nat.lt_of_lt_of_le (h.lt x hx h0) hb.size, fun x hx h0 i => by rw [hb.frozen (by exact h.lt x hx h0)]; exact h.fz x hx h0 i, h.sep, h.par, h.blk, (h.pm.on hb (Nat.le_refl _)).wide (Nat.le_refl _) hb.size, (h.bm.on hb (Nat.le_refl _)).wide (Nat.le_refl _) hb.size⟩

theorem mine_turn {p : Nat → Prop} {base : Nat} {w w' : World} {s : Sl} (h : Mine base w.heap.size w s) (t : Turn p w w') : Mine base w'.heap.size w' s := fun h0 => by
  obtain ⟨g, h1, h2, h3, h4⟩ := h h0
  exact ⟨g, h1, h2, Nat.lt_of_lt_of_le h3 t.size, fun i => by rw [t.froz _ h3]; exact h4 i⟩

def upd (f : Nat → Nat → Nat → Int) (j k : Nat) (g : Nat → Int) : Nat → Nat → Nat → Int := fun j' k' => if j' = j ∧ k' = k then g else f j' k'

theorem Sls_kept {p : Nat → Prop} {w w' : World} {s : Sl} {f : Nat → Sl} (h : Sls w s f) (k : Kept p w w') (hp : ∀ b off, s.a = some ⟨b, off, none⟩ → 0 < s.n → p b) : Sls w' s f :=
  ⟨h.1, h.2.1, h.2.2.1, fun h0 => by
    obtain ⟨b, off, ha, hc⟩ := h.2.2.2 h0
    exact ⟨b, off, ha, fun i hi => cell_kept k (hp b off ha h0) (hc i hi)⟩⟩

theorem Inss_kept {p : Nat → Prop} {w w' : World} {s : Sl} {f : Nat → IV} (h : Inss w s f) (k : Kept p w w') (hp : ∀ b off, s.a = some ⟨b, off, none⟩ → 0 < s.n → p b) : Inss w' s f :=
  ⟨h.1, h.2.1, h.2.2.1, fun h0 => by
    obtain ⟨b, off, ha, hc⟩ := h.2.2.2 h0
    exact ⟨b, off, ha, fun i hi => (hc i hi).kept k (hp b off ha h0)⟩⟩

/-- A cell that can be read lies in a block that is there. -/
theorem Ints_lt {w : World} {s : Sl} {f : Nat → Int} (h : Ints w s f) : ∀ b off, s.a = some ⟨b, off, none⟩ → 0 < s.n → b < w.heap.size := fun b off ha h0 => by
  obtain ⟨b', off', ha', hc⟩ := h.2.2.2 h0
  have e := ha.symm.trans ha'
  simp at e
  obtain ⟨rfl, rfl⟩ := e
  exact World.block_lt_of_cell? _ _ (hc 0 h0)
theorem Sls_lt {w : World} {s : Sl} {f : Nat → Sl} (h : Sls w s f) : ∀ b off, s.a = some ⟨b, off, none⟩ → 0 < s.n → b < w.heap.size := fun b off ha h0 => by
  obtain ⟨b', off', ha', hc⟩ := h.2.2.2 h0
  have e := ha.symm.trans ha'
  simp at e
  obtain ⟨rfl, rfl⟩ := e
  exact World.block_lt_of_cell? _ _ (hc 0 h0)
theorem Inss_lt {w : World} {s : Sl} {f : Nat → IV} (h : Inss w s f) : ∀ b off, s.a = some ⟨b, off, none⟩ → 0 < s.n → b < w.heap.size := fun b off ha h0 => by
  obtain ⟨b', off', ha', hc⟩ := h.2.2.2 h0
  have e := ha.symm.trans ha'
  simp at e
  obtain ⟨rfl, rfl⟩ := e
  exact World.block_lt_of_cell? _ _ (hc 0 h0).c0

theorem adr_inj {s : Sl} {g b o : Nat} (h : s.a = some ⟨g, 0, none⟩) (h' : s.a = some ⟨b, o, none⟩) : b = g := by
  have e := h'.symm.trans h
  simp at e
  exact e.1

/-- The two rows of one instruction are written. -/
theorem Own.rows {base : Nat} {w w' : World} {F : FV} {at_ : Id → Nat} (h : Own base w F at_) {p : Nat → Prop} (ht : Turn p w w') {j k : Nat} (hj : j < F.blk.n) (hk : k < (F.B j).n)
    (hp : ∀ b, p b → (b = at_ (.arg j k) ∧ 0 < (F.I j k).args.n) ∨ (b = at_ (.int j k) ∧ 0 < (F.I j k).into.n)) {a' j' : Nat → Int} (ia : Ints w' (F.I j k).args a') (ij : Ints w' (F.I j k).into j') :
    Own base w' { F with A := upd F.A j k a', J := upd F.J j k j' } at_ := by
  have kp := ht.kept
  have ha : has F (.arg j k) := ⟨hj, hk⟩
  have hi : has F (.int j k) := ⟨hj, hk⟩
  have off : ∀ x, has F x → 0 < (sl F x).n → x ≠ .arg j k → x ≠ .int j k → ¬ p (at_ x) := fun x hx h0 n1 n2 hpx => by
    rcases hp _ hpx with ⟨e, h1⟩ | ⟨e, h1⟩
    · exact n1 (h.sep x _ hx ha h0 h1 e)
    · exact n2 (h.sep x _ hx hi h0 h1 e)
  refine ⟨⟨?_, ?_, fun j1 h1 => ?_, fun j1 h1 k1 h2 => ?_, fun j1 h1 k1 h2 => ?_⟩, h.adr, h.ge, fun x hx h0 => Nat.lt_of_lt_of_le (h.lt x hx h0) ht.size, fun x hx h0 i => by rw [ht.froz _ (by exact h.lt x hx h0)]; exact h.fz x hx h0 i, h.sep, h.par, h.blk, mine_turn h.pm ht, mine_turn h.bm ht⟩
  · refine h.inn.par.kept kp fun b off ha' h0 => ⟨Ints_lt h.inn.par b off ha' h0, fun hpb => ?_⟩
    rcases hp _ hpb with ⟨e, h1⟩ | ⟨e, h1⟩
    · exact h.par _ ha h1 b off ha' h0 e
    · exact h.par _ hi h1 b off ha' h0 e
  · refine Sls_kept h.inn.blk kp fun b off ha' h0 => ⟨Sls_lt h.inn.blk b off ha' h0, fun hpb => ?_⟩
    rcases hp _ hpb with ⟨e, h1⟩ | ⟨e, h1⟩
    · exact h.blk _ ha h1 b off ha' h0 e
    · exact h.blk _ hi h1 b off ha' h0 e
  · refine Inss_kept (h.inn.ins j1 h1) kp fun b o ha' h0 => ⟨Inss_lt (h.inn.ins j1 h1) b o ha' h0, ?_⟩
    rw [adr_inj (h.adr (.row j1) h1 h0) ha']
    exact off (.row j1) h1 h0 (by simp) (by simp)
  · show Ints w' (F.I j1 k1).args (upd F.A j k a' j1 k1)
    unfold upd
    by_cases e : j1 = j ∧ k1 = k
    · rw [if_pos e, e.1, e.2]; exact ia
    · rw [if_neg e]
      refine (h.inn.args j1 h1 k1 h2).kept kp fun b o ha' h0 => ⟨Ints_lt (h.inn.args j1 h1 k1 h2) b o ha' h0, ?_⟩
      rw [adr_inj (h.adr (.arg j1 k1) ⟨h1, h2⟩ h0) ha']
      exact off (.arg j1 k1) ⟨h1, h2⟩ h0 (by simpa using e) (by simp)
  · show Ints w' (F.I j1 k1).into (upd F.J j k j' j1 k1)
    unfold upd
    by_cases e : j1 = j ∧ k1 = k
    · rw [if_pos e, e.1, e.2]; exact ij
    · rw [if_neg e]
      refine (h.inn.into j1 h1 k1 h2).kept kp fun b o ha' h0 => ⟨Ints_lt (h.inn.into j1 h1 k1 h2) b o ha' h0, ?_⟩
      rw [adr_inj (h.adr (.int j1 k1) ⟨h1, h2⟩ h0) ha']
      exact off (.int j1 k1) ⟨h1, h2⟩ h0 (by simp) (by simpa using e)

/-- Nothing from base on has turned. -/
theorem Own.far {base : Nat} {w w' : World} {F : FV} {at_ : Id → Nat} (h : Own base w F at_) {p : Nat → Prop} (t : Turn p w w') (hp : ∀ b, p b → b < base) : Own base w' F at_ := by
  have kp := t.kept
  refine ⟨⟨h.inn.par.kept kp fun b o ha h0 => ?_, Sls_kept h.inn.blk kp fun b o ha h0 => ?_, fun j hj => Inss_kept (h.inn.ins j hj) kp fun b o ha h0 => ?_, fun j hj k hk => (h.inn.args j hj k hk).kept kp fun b o ha h0 => ?_, fun j hj k hk => (h.inn.into j hj k hk).kept kp fun b o ha h0 => ?_⟩, h.adr, h.ge, fun x hx h0 => Nat.lt_of_lt_of_le (h.lt x hx h0) t.size, fun x hx h0 i => by rw [t.froz _ (by exact h.lt x hx h0)]; exact h.fz x hx h0 i, h.sep, h.par, h.blk, mine_turn h.pm t, mine_turn h.bm t⟩
  · exact ⟨(h.pm.ge b o ha h0).2, fun e => by have := hp b e; have := (h.pm.ge b o ha h0).1; omega⟩
  · exact ⟨(h.bm.ge b o ha h0).2, fun e => by have := hp b e; have := (h.bm.ge b o ha h0).1; omega⟩
  · have e := adr_inj (h.adr (.row j) hj h0) ha
    exact ⟨by rw [e]; exact h.lt (.row j) hj h0, fun q => by have := hp b q; have := h.ge (.row j) hj h0; omega⟩
  · have e := adr_inj (h.adr (.arg j k) ⟨hj, hk⟩ h0) ha
    exact ⟨by rw [e]; exact h.lt (.arg j k) ⟨hj, hk⟩ h0, fun q => by have := hp b q; have := h.ge (.arg j k) ⟨hj, hk⟩ h0; omega⟩
  · have e := adr_inj (h.adr (.int j k) ⟨hj, hk⟩ h0) ha
    exact ⟨by rw [e]; exact h.lt (.int j k) ⟨hj, hk⟩ h0, fun q => by have := hp b q; have := h.ge (.int j k) ⟨hj, hk⟩ h0; omega⟩

theorem Own.mine {base : Nat} {w : World} {F : FV} {at_ : Id → Nat} (h : Own base w F at_) (x : Id) (hx : has F x) : Mine base w.heap.size w (sl F x) := fun h0 =>
  ⟨at_ x, h.adr x hx h0, h.ge x hx h0, h.lt x hx h0, h.fz x hx h0⟩

end Go.Proofs.Ytbmfimojhcdnbaa.Own
