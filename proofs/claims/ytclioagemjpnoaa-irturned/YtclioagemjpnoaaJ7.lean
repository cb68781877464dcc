/-
  TurnE, Low, Eqv: laid together.
-/
import Derived.Test.YtclioagemjpnoaaCopyR
import Derived.Test.YtclioagemjpnoaaJ6
import Derived.Test.YtclioagemjpnoaaNum
import Derived.Test.YtclioagemjpnoaaSameM
/-
  One thing turned in a copy of a module: what lies in memory then.
-/
namespace Go.Proofs.Ytclioagemjpnoaa.Trn
open Go.RowKit View Rd Num Opn Copy Srt Go.Proofs.Ytclioagemjpnoaa.Own Go.Proofs.Ytclioagemjpnoaa.Mod Go.Proofs.Ytclioagemjpnoaa.CpM Go.Proofs.Ytclioagemjpnoaa.Chk

set_option linter.unusedVariables false

def updI (I : Nat → Nat → IV) (j k : Nat) (v : IV) : Nat → Nat → IV := fun j' k' => if j' = j ∧ k' = k then v else I j' k'
def updA (A : Nat → Nat → Nat → Int) (j k : Nat) (a : Nat → Int) : Nat → Nat → Nat → Int := fun j' k' => if j' = j ∧ k' = k then a else A j' k'

theorem updI_same (I : Nat → Nat → IV) (j k : Nat) (v : IV) : updI I j k v j k = v := by simp [updI]
theorem updI_other (I : Nat → Nat → IV) {j k j' k' : Nat} (v : IV) (h : ¬ (j' = j ∧ k' = k)) : updI I j k v j' k' = I j' k' := by simp only [updI, if_neg h]
theorem updA_same (A : Nat → Nat → Nat → Int) (j k : Nat) (a : Nat → Int) : updA A j k a j k = a := by simp [updA]
theorem updA_other (A : Nat → Nat → Nat → Int) {j k j' k' : Nat} (a : Nat → Int) (h : ¬ (j' = j ∧ k' = k)) : updA A j k a j' k' = A j' k' := by simp only [updA, if_neg h]

/-- The function with one Ins turned. -/
abbrev setI (F : FV) (j k : Nat) (v : IV) (a : Nat → Int) : FV := { F with I := updI F.I j k v, A := updA F.A j k a }

theorem in_setI {base : Nat} {w : World} {F : FV} {at_ : Own.Id → Nat} (h : Own base w F at_) {j k c : Nat} (hj : j < F.blk.n) (hk : k < (F.B j).n) (hc : c < 7) {val : Value} {v : IV} {a : Nat → Int}
    (hv : InsAt (w.setCell ⟨at_ (.row j), k * 7 + c, none⟩ val) (at_ (.row j)) (k * 7) v) (hin : v.into = (F.I j k).into) (ha : Ints (w.setCell ⟨at_ (.row j), k * 7 + c, none⟩ val) v.args a) :
    In (w.setCell ⟨at_ (.row j), k * 7 + c, none⟩ val) (setI F j k v a) := by
  have h0 : 0 < (sl F (.row j)).n := by show 0 < (F.B j).n; omega
  have kp : Kept (fun b => b ≠ at_ (.row j)) w (w.setCell ⟨at_ (.row j), k * 7 + c, none⟩ val) := (Kept.refl _ _).setCell (fun h => h rfl) _
  have off : ∀ x, has F x → 0 < (sl F x).n → x ≠ .row j → at_ x ≠ at_ (.row j) := fun x hx hx0 hne e => hne (h.sep x (.row j) hx hj hx0 h0 e)
  refine ⟨?_, ?_, fun j1 h1 => ?_, fun j1 h1 k1 h2 => ?_, fun j1 h1 k1 h2 => ?_⟩
  · exact h.inn.par.kept kp fun b o ha h0' => h.par (.row j) hj h0 b o ha h0'
  · exact Sls_kept h.inn.blk kp fun b o ha h0' => h.blk (.row j) hj h0 b o ha h0'
  · by_cases e : j1 = j
    · subst e
      refine ⟨(h.inn.ins j1 h1).1, (h.inn.ins j1 h1).2.1, (h.inn.ins j1 h1).2.2.1, fun h0' => ⟨at_ (.row j1), 0, h.adr (.row j1) h1 h0', fun i hi => ?_⟩⟩
      rw [Nat.zero_add]
      show InsAt _ _ _ (updI F.I j1 k v j1 i)
      by_cases e2 : i = k
      · subst e2
        rw [updI_same]
        exact hv
      · rw [updI_other _ _ (by simp [e2])]
        exact InsAt.off (h.insAt h1 hi).1 (by omega) _
    · have : (fun k' => updI F.I j k v j1 k') = F.I j1 := by funext k'; exact updI_other _ _ (by simp [e])
      show Inss _ (F.B j1) (fun k' => updI F.I j k v j1 k')
      rw [this]
      refine Inss_kept (h.inn.ins j1 h1) kp fun b o ha h0' => ?_
      rw [adr_inj (h.adr (.row j1) h1 h0') ha]
      exact off (.row j1) h1 h0' (by simp [e])
  · show Ints _ (updI F.I j k v j1 k1).args (updA F.A j k a j1 k1)
    by_cases e : j1 = j ∧ k1 = k
    · obtain ⟨rfl, rfl⟩ := e
      rw [updI_same, updA_same]
      exact ha
    · rw [updI_other _ _ e, updA_other _ _ e]
      refine (h.inn.args j1 h1 k1 h2).kept kp fun b o ha h0' => ?_
      rw [adr_inj (h.adr (.arg j1 k1) ⟨h1, h2⟩ h0') ha]
      exact off (.arg j1 k1) ⟨h1, h2⟩ h0' (by simp)
  · show Ints _ (updI F.I j k v j1 k1).into (F.J j1 k1)
    have e' : (updI F.I j k v j1 k1).into = (F.I j1 k1).into := by
      by_cases e : j1 = j ∧ k1 = k
      · obtain ⟨rfl, rfl⟩ := e; rw [updI_same]; exact hin
      · rw [updI_other _ _ e]
    rw [e']
    refine (h.inn.into j1 h1 k1 h2).kept kp fun b o ha h0' => ?_
    rw [adr_inj (h.adr (.int j1 k1) ⟨h1, h2⟩ h0') ha]
    exact off (.int j1 k1) ⟨h1, h2⟩ h0' (by simp)

/-- What is taken stays, where a row of Ins is written. -/
theorem args_stay {base : Nat} {w : World} {F : FV} {at_ : Own.Id → Nat} (h : Own base w F at_) {j k : Nat} (hj : j < F.blk.n) (hk : k < (F.B j).n) (o : Nat) (val : Value) : Ints (w.setCell ⟨at_ (.row j), o, none⟩ val) (F.I j k).args (F.A j k) := by
  have h0 : 0 < (sl F (.row j)).n := by show 0 < (F.B j).n; omega
  have kp : Kept (fun b => b ≠ at_ (.row j)) w (w.setCell ⟨at_ (.row j), o, none⟩ val) := (Kept.refl _ _).setCell (fun h => h rfl) _
  refine (h.inn.args j hj k hk).kept kp fun b o ha h0' => ?_
  rw [adr_inj (h.adr (.arg j k) ⟨hj, hk⟩ h0') ha]
  exact fun e => by have := h.sep (.arg j k) (.row j) ⟨hj, hk⟩ hj h0' h0 e; cases this

theorem Sep.on {X : Nat} {w w' : World} {N : MV} (h : Sep X w N) (hb : Below w.heap.size w w') : Sep X w' N := by
  refine ⟨Nat.le_trans h.le hb.size, fun w2 hz hk => h.low w2 (Nat.le_trans hb.size hz) (fun b hbx => by rw [hk b hbx, hb.block b (Nat.lt_of_lt_of_le hbx h.le)]), fun i hi => ?_, h.dis, fun h0 => ?_⟩
  · obtain ⟨at_, h1⟩ := h.own i hi
    exact ⟨at_, h1.on hb⟩
  · obtain ⟨g, a1, a2, a3, a4, a5⟩ := h.fns h0
    exact ⟨g, a1, a2, Nat.lt_of_lt_of_le a3 hb.size, fun i => by rw [hb.frozen (by show g < _; exact a3)]; exact a4 i, a5⟩

/-- A module with one function turned. -/
abbrev setF (N : MV) (k : Nat) (F : FV) : MV := { N with F := fun i => if i = k then F else N.F i }

theorem setF_same (N : MV) (k : Nat) (F : FV) : (setF N k F).F k = F := by simp
theorem setF_other (N : MV) {k i : Nat} (F : FV) (h : i ≠ k) : (setF N k F).F i = N.F i := by simp [h]

/-- Written in a block of the k-th function. -/
theorem inM_set {X : Nat} {w : World} {N : MV} (sp : Sep X w N) (hN : InM w N) {k : Nat} (hk : k < N.fns.n) {B o : Nat} {val : Value} (hB : FpF (N.F k) B) {F : FV} (hF : In (w.setCell ⟨B, o, none⟩ val) F)
    (e1 : F.name = (N.F k).name) (e2 : F.out = (N.F k).out) (e3 : F.par = (N.F k).par) (e4 : F.res = (N.F k).res) (e5 : F.blk = (N.F k).blk) : InM (w.setCell ⟨B, o, none⟩ val) (setF N k F) := by
  obtain ⟨at_, own⟩ := sp.own k hk
  have hBX := (fpF_in own B hB).1
  obtain ⟨⟨l1, l2⟩, ⟨l3, l4⟩, l5, l6⟩ := sp.low (w.setCell ⟨B, o, none⟩ val) (by simp) (fun b hb => Below.heap_setCell _ _ _ _ (by show b ≠ B; omega))
  refine ⟨l1, l2, l3, l4, l5, l6, ?_, fun i hi => ?_⟩
  · obtain ⟨g, a1, a2, a3, a4, a5⟩ := sp.fns (by omega)
    have hne : g ≠ B := fun e => a5 k hk (e ▸ hB)
    refine ⟨hN.fns.1, hN.fns.2.1, hN.fns.2.2.1, fun h0 => ?_⟩
    obtain ⟨b, off, ha, hc⟩ := hN.fns.2.2.2 h0
    have e := a1.symm.trans ha
    simp at e
    obtain ⟨rfl, rfl⟩ := e
    refine ⟨g, 0, ha, fun i hi => ?_⟩
    have hci := hc i hi
    have co : ∀ {r : Nat} {u : Value}, w.cell? ⟨g, r, none⟩ = some u → (w.setCell ⟨B, o, none⟩ val).cell? ⟨g, r, none⟩ = some u := fun h => cell_other (fun e => hne (congrArg Addr.block e).symm) h
    by_cases ei : i = k
    · subst ei
      rw [setF_same]
      exact ⟨by rw [e1]; exact co hci.c0, by rw [e2]; exact co hci.c1, by rw [e3]; exact co hci.c2, by rw [e4]; exact co hci.c3, by rw [e5]; exact co hci.c4⟩
    · rw [setF_other N F ei]
      exact ⟨co hci.c0, co hci.c1, co hci.c2, co hci.c3, co hci.c4⟩
  · by_cases ei : i = k
    · subst ei
      rw [setF_same]
      exact hF
    · rw [setF_other N F ei]
      obtain ⟨at2, own2⟩ := sp.own i hi
      refine (own_fp own2 (by simp) (fun b hb _ => Below.heap_setCell _ _ _ _ ?_)).inn
      show b ≠ B
      rintro rfl
      exact sp.dis i k hi hk ei _ hb hB

/-- Written in the row of functions. -/
theorem inM_row {X : Nat} {w : World} {N : MV} (sp : Sep X w N) (hN : InM w N) {k : Nat} (hk : k < N.fns.n) {g c : Nat} (hg : N.fns.a = some ⟨g, 0, none⟩) (hc : c < 5) {val : Value} {F : FV}
    (hF : FAt (w.setCell ⟨g, k * 5 + c, none⟩ val) g (k * 5) F) (e3 : F.par = (N.F k).par) (e5 : F.blk = (N.F k).blk) (e6 : F.P = (N.F k).P) (e7 : F.B = (N.F k).B) (e8 : F.I = (N.F k).I) (e9 : F.A = (N.F k).A) (e10 : F.J = (N.F k).J) : InM (w.setCell ⟨g, k * 5 + c, none⟩ val) (setF N k F) := by
  obtain ⟨g', a1, a2, a3, a4, a5⟩ := sp.fns (by omega)
  obtain rfl : g' = g := by have := a1.symm.trans hg; simpa using this
  obtain ⟨⟨l1, l2⟩, ⟨l3, l4⟩, l5, l6⟩ := sp.low (w.setCell ⟨g', k * 5 + c, none⟩ val) (by simp) (fun b hb => Below.heap_setCell _ _ _ _ (by show b ≠ g'; omega))
  have all : ∀ i, i < N.fns.n → In (w.setCell ⟨g', k * 5 + c, none⟩ val) (N.F i) := fun i hi => by
    obtain ⟨at2, own2⟩ := sp.own i hi
    refine (own_fp own2 (by simp) (fun b hb _ => Below.heap_setCell _ _ _ _ ?_)).inn
    show b ≠ g'
    rintro rfl
    exact a5 i hi hb
  refine ⟨l1, l2, l3, l4, l5, l6, ?_, fun i hi => ?_⟩
  · refine ⟨hN.fns.1, hN.fns.2.1, hN.fns.2.2.1, fun h0 => ?_⟩
    obtain ⟨b, off, ha, hcc⟩ := hN.fns.2.2.2 h0
    have e := a1.symm.trans ha
    simp at e
    obtain ⟨rfl, rfl⟩ := e
    refine ⟨g', 0, ha, fun i hi => ?_⟩
    have hci := hcc i hi
    rw [Nat.zero_add] at hci ⊢
    by_cases ei : i = k
    · subst ei
      rw [setF_same]
      exact hF
    · rw [setF_other N F ei]
      have co : ∀ {r : Nat} {u : Value}, r < 5 → w.cell? ⟨g', i * 5 + r, none⟩ = some u → (w.setCell ⟨g', k * 5 + c, none⟩ val).cell? ⟨g', i * 5 + r, none⟩ = some u := fun hr h => cell_other (ne_off (by omega)) h
      exact ⟨co (r := 0) (by omega) hci.c0, co (by omega) hci.c1, co (by omega) hci.c2, co (by omega) hci.c3, co (by omega) hci.c4⟩
  · by_cases ei : i = k
    · subst ei
      rw [setF_same]
      have h := all i hi
      exact ⟨by rw [e3, e6]; exact h.par, by rw [e5, e7]; exact h.blk, fun j hj => by rw [e7, e8]; rw [e5] at hj; exact h.ins j hj, fun j hj k hk => by rw [e8, e9]; rw [e5] at hj; rw [e7] at hk; exact h.args j hj k hk, fun j hj k hk => by rw [e8, e10]; rw [e5] at hj; rw [e7] at hk; exact h.into j hj k hk⟩
    · rw [setF_other N F ei]
      exact all i hi

theorem InsAt.set0 {w : World} {b o : Nat} {v : IV} (h : InsAt w b o v) (n : Int) : InsAt (w.setCell ⟨b, o + 0, none⟩ (.int .i64 n)) b o { v with op := n } :=
  ⟨cell_same h.c0, cell_other (ne_off (by omega)) h.c1, cell_other (ne_off (by omega)) h.c2, cell_other (ne_off (by omega)) h.c3, cell_other (ne_off (by omega)) h.c4, cell_other (ne_off (by omega)) h.c5, cell_other (ne_off (by omega)) h.c6⟩
theorem InsAt.set1 {w : World} {b o : Nat} {v : IV} (h : InsAt w b o v) (n : Int) : InsAt (w.setCell ⟨b, o + 1, none⟩ (.int .i64 n)) b o { v with ty := n } :=
  ⟨cell_other (ne_off (by omega)) h.c0, cell_same h.c1, cell_other (ne_off (by omega)) h.c2, cell_other (ne_off (by omega)) h.c3, cell_other (ne_off (by omega)) h.c4, cell_other (ne_off (by omega)) h.c5, cell_other (ne_off (by omega)) h.c6⟩
theorem InsAt.set3 {w : World} {b o : Nat} {v : IV} (h : InsAt w b o v) (n : Int) : InsAt (w.setCell ⟨b, o + 3, none⟩ (.int .i64 n)) b o { v with sym := n } :=
  ⟨cell_other (ne_off (by omega)) h.c0, cell_other (ne_off (by omega)) h.c1, cell_other (ne_off (by omega)) h.c2, cell_same h.c3, cell_other (ne_off (by omega)) h.c4, cell_other (ne_off (by omega)) h.c5, cell_other (ne_off (by omega)) h.c6⟩
theorem InsAt.set4 {w : World} {b o : Nat} {v : IV} (h : InsAt w b o v) (n : Int) : InsAt (w.setCell ⟨b, o + 4, none⟩ (.int .i64 n)) b o { v with num := n } :=
  ⟨cell_other (ne_off (by omega)) h.c0, cell_other (ne_off (by omega)) h.c1, cell_other (ne_off (by omega)) h.c2, cell_other (ne_off (by omega)) h.c3, cell_same h.c4, cell_other (ne_off (by omega)) h.c5, cell_other (ne_off (by omega)) h.c6⟩

/-- The turned one differs. -/
def Diff (v u : IV) : Prop := v.op ≠ u.op ∨ v.ty ≠ u.ty ∨ v.to ≠ u.to ∨ v.sym ≠ u.sym ∨ v.num ≠ u.num ∨ v.args.n ≠ u.args.n

theorem ne_setI {M N : MV} (h : EqM N M) {k j i : Nat} (hk : k < N.fns.n) (hj : j < (N.F k).blk.n) (hi : i < ((N.F k).B j).n) {v : IV} {a : Nat → Int} (hd : Diff v ((N.F k).I j i)) : ¬ EqM M (setF N k (setI (N.F k) j i v a)) ∧ ¬ EqM (setF N k (setI (N.F k) j i v a)) M := by
  have hkM : k < M.fns.n := by rw [← h.fns.1]; exact hk
  have q := h.fns.2 k hk
  have hjM : j < (M.F k).blk.n := by rw [← q.2.2.2.2.1]; exact hj
  have q2 := (q.2.2.2.2.2 j hj)
  have hiM : i < ((M.F k).B j).n := by rw [← q2.1]; exact hi
  have q3 := q2.2 i hi
  refine ⟨fun e => ?_, fun e => ?_⟩
  · have r := (e.fns.2 k hkM)
    rw [setF_same] at r
    have r3 := (r.2.2.2.2.2 j hjM).2 i hiM
    have e' : (setI (N.F k) j i v a).I j i = v := updI_same _ _ _ _
    rw [e'] at r3
    rcases hd with d | d | d | d | d | d
    · exact d (r3.1.symm.trans q3.1.symm)
    · exact d (r3.2.1.symm.trans q3.2.1.symm)
    · exact d (r3.2.2.1.symm.trans q3.2.2.1.symm)
    · exact d (r3.2.2.2.1.symm.trans q3.2.2.2.1.symm)
    · exact d (r3.2.2.2.2.1.symm.trans q3.2.2.2.2.1.symm)
    · exact d (r3.2.2.2.2.2.1.1.symm.trans q3.2.2.2.2.2.1.1.symm)
  · have r := (e.fns.2 k hk)
    rw [setF_same] at r
    have r3 := (r.2.2.2.2.2 j hj).2 i hi
    have e' : (setI (N.F k) j i v a).I j i = v := updI_same _ _ _ _
    rw [e'] at r3
    rcases hd with d | d | d | d | d | d
    · exact d (r3.1.trans q3.1.symm)
    · exact d (r3.2.1.trans q3.2.1.symm)
    · exact d (r3.2.2.1.trans q3.2.2.1.symm)
    · exact d (r3.2.2.2.1.trans q3.2.2.2.1.symm)
    · exact d (r3.2.2.2.2.1.trans q3.2.2.2.2.1.symm)
    · exact d (r3.2.2.2.2.2.1.1.trans q3.2.2.2.2.2.1.1.symm)

theorem ne_row {M N : MV} (h : EqM N M) {k : Nat} (hk : k < N.fns.n) {F : FV} (hd : F.name.toList ≠ (N.F k).name.toList ∨ F.out ≠ (N.F k).out) : ¬ EqM M (setF N k F) ∧ ¬ EqM (setF N k F) M := by
  have hkM : k < M.fns.n := by rw [← h.fns.1]; exact hk
  have q := h.fns.2 k hk
  refine ⟨fun e => ?_, fun e => ?_⟩
  · have r := (e.fns.2 k hkM)
    rw [setF_same] at r
    rcases hd with d | d
    · exact d (r.1.symm.trans q.1.symm)
    · exact d (r.2.1.symm.trans q.2.1.symm)
  · have r := (e.fns.2 k hk)
    rw [setF_same] at r
    rcases hd with d | d
    · exact d (r.1.trans q.1.symm)
    · exact d (r.2.1.trans q.2.1.symm)

theorem small_set {N : MV} (hs : SmallM N) {k : Nat} (hk : k < N.fns.n) {F : FV} (hl : Light F) (hz : fsize F = fsize (N.F k)) : SmallM (setF N k F) := by
  refine ⟨hs.ext, hs.glo, hs.tab, hs.fns, hs.extI, hs.gloI, hs.tabI, fun i hi => ?_, ?_⟩
  · by_cases e : i = k
    · subst e; rw [setF_same]; exact hl
    · rw [setF_other N F e]; exact hs.light i hi
  · have e : cnt (fun i => fsize ((setF N k F).F i)) N.fns.n = cnt (fun i => fsize (N.F i)) N.fns.n := cnt_same fun i hi => by
      by_cases e : i = k
      · subst e; rw [setF_same]; exact hz
      · rw [setF_other N F e]
    show cnt (fun i => fsize ((setF N k F).F i)) N.fns.n ≤ 160
    rw [e]; exact hs.all

theorem light_setI {F : FV} (hl : Light F) {j k : Nat} {v : IV} {a : Nat → Int} (h1 : v.args.n ≤ 20) (h2 : v.into = (F.I j k).into) (hj : j < F.blk.n) (hk : k < (F.B j).n) : Light (setI F j k v a) := by
  refine ⟨hl.all, hl.name, hl.par, hl.blk, hl.ins, fun j' hj' k' hk' => ?_, fun j' hj' k' hk' => ?_⟩
  · show (updI F.I j k v j' k').args.n ≤ 20
    by_cases e : j' = j ∧ k' = k
    · obtain ⟨rfl, rfl⟩ := e; rw [updI_same]; exact h1
    · rw [updI_other _ _ e]; exact hl.args j' hj' k' hk'
  · show (updI F.I j k v j' k').into.n ≤ 20
    by_cases e : j' = j ∧ k' = k
    · obtain ⟨rfl, rfl⟩ := e; rw [updI_same, h2]; exact hl.into j' hj' k' hk'
    · rw [updI_other _ _ e]; exact hl.into j' hj' k' hk'

/-- A turned copy O of M, in memory. -/
structure Odd (M O : MV) (w : World) : Prop where
  inn : InM w O
  small : SmallM O
  ne : ¬ EqM M O
  ne' : ¬ EqM O M

theorem odd_setI {M N : MV} {X : Nat} {w : World} (sp : Sep X w N) (hN : InM w N) (hs : SmallM N) (he : EqM N M) {k j i : Nat} (hk : k < N.fns.n) (hj : j < (N.F k).blk.n) (hi : i < ((N.F k).B j).n) {at_ : Own.Id → Nat} (own : Own X w (N.F k) at_) {c : Nat} (hc : c < 7) {val : Value} {v : IV} {a : Nat → Int}
    (hv : InsAt (w.setCell ⟨at_ (.row j), i * 7 + c, none⟩ val) (at_ (.row j)) (i * 7) v) (hin : v.into = ((N.F k).I j i).into) (ha : Ints (w.setCell ⟨at_ (.row j), i * 7 + c, none⟩ val) v.args a) (hn : v.args.n ≤ 20) (hd : Diff v ((N.F k).I j i)) :
    ∃ O : MV, O.val = N.val ∧ Odd M O (w.setCell ⟨at_ (.row j), i * 7 + c, none⟩ val) := by
  have hF := in_setI own hj hi hc hv hin ha
  have hB : FpF (N.F k) (at_ (.row j)) := .inl ⟨.row j, hj, by show 0 < ((N.F k).B j).n; omega, (blkOf_eq (own.adr (.row j) hj (by show 0 < ((N.F k).B j).n; omega))).symm⟩
  exact ⟨setF N k (setI (N.F k) j i v a), rfl, inM_set sp hN hk hB hF rfl rfl rfl rfl rfl, small_set hs hk (light_setI (hs.light k hk) hn hin hj hi) rfl, (ne_setI he hk hj hi hd).1, (ne_setI he hk hj hi hd).2⟩

theorem odd_row {M N : MV} {X : Nat} {w : World} (sp : Sep X w N) (hN : InM w N) (hs : SmallM N) (he : EqM N M) {k : Nat} (hk : k < N.fns.n) {g c : Nat} (hg : N.fns.a = some ⟨g, 0, none⟩) (hc : c < 5) {val : Value} {F : FV}
    (hF : FAt (w.setCell ⟨g, k * 5 + c, none⟩ val) g (k * 5) F) (e3 : F.par = (N.F k).par) (e5 : F.blk = (N.F k).blk) (e6 : F.P = (N.F k).P) (e7 : F.B = (N.F k).B) (e8 : F.I = (N.F k).I) (e9 : F.A = (N.F k).A) (e10 : F.J = (N.F k).J) (hn : F.name.size ≤ 40)
    (hd : F.name.toList ≠ (N.F k).name.toList ∨ F.out ≠ (N.F k).out) : ∃ O : MV, O.val = N.val ∧ Odd M O (w.setCell ⟨g, k * 5 + c, none⟩ val) := by
  have hl := hs.light k hk
  refine ⟨setF N k F, rfl, inM_row sp hN hk hg hc hF e3 e5 e6 e7 e8 e9 e10, small_set hs hk ⟨by rw [e5, e7]; exact hl.all, hn, by rw [e3]; exact hl.par, by rw [e5]; exact hl.blk, by rw [e5, e7]; exact hl.ins, by rw [e5, e7, e8]; exact hl.args, by rw [e5, e7, e8]; exact hl.into⟩ (by unfold fsize; rw [e5, e7]), (ne_row he hk hd).1, (ne_row he hk hd).2⟩

theorem FAt.set1 {w : World} {b o : Nat} {F : FV} (h : FAt w b o F) (v : Bool) : FAt (w.setCell ⟨b, o + 1, none⟩ (.bool v)) b o { F with out := v } :=
  ⟨cell_other (ne_off (by omega)) h.c0, cell_same h.c1, cell_other (ne_off (by omega)) h.c2, cell_other (ne_off (by omega)) h.c3, cell_other (ne_off (by omega)) h.c4⟩
theorem FAt.set0 {w : World} {b o : Nat} {F : FV} (h : FAt w b o F) (v : ByteArray) : FAt (w.setCell ⟨b, o + 0, none⟩ (.string v)) b o { F with name := v } :=
  ⟨cell_same h.c0, cell_other (ne_off (by omega)) h.c1, cell_other (ne_off (by omega)) h.c2, cell_other (ne_off (by omega)) h.c3, cell_other (ne_off (by omega)) h.c4⟩

/-- How many an Ins of a module that may be takes. -/
theorem args_few {M : MV} (hs : SmallM M) (h : FitM M) {k j i : Nat} (hk : k < M.fns.n) (hj : j < (M.F k).blk.n) (hi : i < ((M.F k).B j).n) : ((M.F k).I j i).args.n ≤ 19 := by
  have hf := (h.form.fns k hk).2.2 j hj i hi
  by_cases e : ((M.F k).I j i).op = 26
  · have h1 := phi_into hf e
    have h2 := ((h.flow k hk).2 j hj).2 i hi e
    have h3 := Flo.pvL_le (M.F k) (M.F k).blk.n j
    have h4 := (hs.light k hk).blk
    omega
  · unfold formB swB at hf
    simp only [Bool.and_eq_true, decide_eq_true_eq, Bool.or_eq_true] at hf
    obtain ⟨⟨⟨⟨⟨⟨⟨⟨⟨⟨a1, a2⟩, a3⟩, a4⟩, a5⟩, a6⟩, a7⟩, a8⟩, a9⟩, a10⟩, a11⟩ := hf
    rw [if_neg e] at a9
    generalize ((M.F k).I j i).op = op at *
    have hop : op = 1 ∨ op = 2 ∨ op = 3 ∨ op = 4 ∨ op = 5 ∨ op = 6 ∨ op = 7 ∨ op = 8 ∨ op = 9 ∨ op = 10 ∨ op = 11 ∨ op = 12 ∨ op = 13 ∨ op = 14 ∨ op = 15 ∨ op = 16 ∨ op = 17 ∨ op = 18 ∨ op = 19 ∨ op = 20 ∨ op = 21 ∨ op = 22 ∨ op = 23 ∨ op = 24 ∨ op = 25 ∨ op = 26 ∨ op = 27 ∨ op = 28 ∨ op = 29 ∨ op = 30 := by omega
    rcases hop with rfl | rfl | rfl | rfl | rfl | rfl | rfl | rfl | rfl | rfl | rfl | rfl | rfl | rfl | rfl | rfl | rfl | rfl | rfl | rfl | rfl | rfl | rfl | rfl | rfl | rfl | rfl | rfl | rfl | rfl <;> simp [mk] at a5 a9 e <;> omega

end Go.Proofs.Ytclioagemjpnoaa.Trn

/-
  The low bits of a number.
-/
namespace Go.Proofs.Ytclioagemjpnoaa.Low
open Go.RowKit View Rd Num

set_option linter.unusedVariables false

theorem wrap_toInt (x : BitVec 64) : IntKind.i64.wrap (x.toNat : Int) = x.toInt := by
  rw [IntKind.wrap_i64, BitVec.toInt_eq_toNat_cond]
  have := x.isLt
  split <;> omega

theorem toNat_of (n : Int) : ((BitVec.ofInt 64 n).toNat : Int) = n % 18446744073709551616 := by
  rw [BitVec.toNat_ofInt]
  omega

theorem low16 (n : Int) : bits .and .i64 n 65535 = n % 65536 := by
  have hb : bits .and .i64 n 65535 = (BitVec.ofInt 64 n &&& BitVec.ofInt 64 65535).toInt := wrap_toInt _
  rw [hb, ← wrap_toInt, IntKind.wrap_i64, BitVec.toNat_and]
  have e : (BitVec.ofInt 64 65535).toNat = 2 ^ 16 - 1 := rfl
  have t := toNat_of n
  rw [e, Nat.and_two_pow_sub_one_eq_mod]
  omega

theorem low8 (n : Int) : bits .and .i64 n 255 = n % 256 := by
  have hb : bits .and .i64 n 255 = (BitVec.ofInt 64 n &&& BitVec.ofInt 64 255).toInt := wrap_toInt _
  rw [hb, ← wrap_toInt, IntKind.wrap_i64, BitVec.toNat_and]
  have e : (BitVec.ofInt 64 255).toNat = 2 ^ 8 - 1 := rfl
  have t := toNat_of n
  rw [e, Nat.and_two_pow_sub_one_eq_mod]
  omega

theorem low3 (n : Int) : bits .and .i64 n 7 = n % 8 := by
  have hb : bits .and .i64 n 7 = (BitVec.ofInt 64 n &&& BitVec.ofInt 64 7).toInt := wrap_toInt _
  rw [hb, ← wrap_toInt, IntKind.wrap_i64, BitVec.toNat_and]
  have e : (BitVec.ofInt 64 7).toNat = 2 ^ 3 - 1 := rfl
  have t := toNat_of n
  rw [e, Nat.and_two_pow_sub_one_eq_mod]
  omega

theorem low2 (n : Int) : bits .and .i64 n 3 = n % 4 := by
  have hb : bits .and .i64 n 3 = (BitVec.ofInt 64 n &&& BitVec.ofInt 64 3).toInt := wrap_toInt _
  rw [hb, ← wrap_toInt, IntKind.wrap_i64, BitVec.toNat_and]
  have e : (BitVec.ofInt 64 3).toNat = 2 ^ 2 - 1 := rfl
  have t := toNat_of n
  rw [e, Nat.and_two_pow_sub_one_eq_mod]
  omega

theorem low1 (n : Int) : bits .and .i64 n 1 = n % 2 := by
  have hb : bits .and .i64 n 1 = (BitVec.ofInt 64 n &&& BitVec.ofInt 64 1).toInt := wrap_toInt _
  rw [hb, ← wrap_toInt, IntKind.wrap_i64, BitVec.toNat_and]
  have e : (BitVec.ofInt 64 1).toNat = 2 ^ 1 - 1 := rfl
  have t := toNat_of n
  rw [e, Nat.and_two_pow_sub_one_eq_mod]
  omega

theorem red16 (a : Int) {n : Nat} (hn : 0 < n) : ∃ x : Nat, x < n ∧ ∃ a0 : Nat, bits .and .i64 a 65535 = (a0 : Int) ∧ (a0 : Int).tmod (n : Int) = (x : Int) := by
  refine ⟨(a % 65536).toNat % n, Nat.mod_lt _ hn, (a % 65536).toNat, ?_, ?_⟩
  · rw [low16]; omega
  · rw [Int.ofNat_tmod]

theorem xor_one {n : Int} (h : W64 n) : bits .xor .i64 n 1 ≠ n := by
  have hb : bits .xor .i64 n 1 = (BitVec.ofInt 64 n ^^^ BitVec.ofInt 64 1).toInt := wrap_toInt _
  intro e
  rw [hb] at e
  have e1 : (BitVec.ofInt 64 n).toInt = n := by
    rw [BitVec.toInt_ofInt]
    have := h.1
    have := h.2
    simp only [Int.bmod]
    split <;> omega
  have e2 : BitVec.ofInt 64 n ^^^ BitVec.ofInt 64 1 = BitVec.ofInt 64 n := BitVec.eq_of_toInt_eq (by rw [e, e1])
  have e3 : BitVec.ofInt 64 1 = 0#64 := by
    have := congrArg (fun x => BitVec.ofInt 64 n ^^^ x) e2
    simp only [← BitVec.xor_assoc, BitVec.xor_self, BitVec.zero_xor] at this
    exact this
  exact absurd e3 (by decide)

end Go.Proofs.Ytclioagemjpnoaa.Low

/-
  Alike, both ways.
-/
namespace Go.Proofs.Ytclioagemjpnoaa.Trn
open Go.RowKit View Rd Copy Srt Go.Proofs.Ytclioagemjpnoaa.Mod

set_option linter.unusedVariables false

theorem eqs_symm {s t : Sl} {f g : Nat → Int} (h : Eqs s t f g) : Eqs t s g f := ⟨h.1.symm, fun i hi => (h.2 i (by rw [h.1]; exact hi)).symm⟩
theorem eqs_trans {s t u : Sl} {f g k : Nat → Int} (h : Eqs s t f g) (h' : Eqs t u g k) : Eqs s u f k := ⟨h.1.trans h'.1, fun i hi => (h.2 i hi).trans (h'.2 i (by rw [← h.1]; exact hi))⟩
theorem eqF_symm {F G : FV} (h : EqF F G) : EqF G F := by
  obtain ⟨h1, h2, h3, h4, h5, h6⟩ := h
  refine ⟨h1.symm, h2.symm, h3.symm, eqs_symm h4, h5.symm, fun j hj => ?_⟩
  obtain ⟨q1, q2⟩ := h6 j (by rw [h5]; exact hj)
  refine ⟨q1.symm, fun k hk => ?_⟩
  obtain ⟨a1, a2, a3, a4, a5, a6, a7⟩ := q2 k (by rw [q1]; exact hk)
  exact ⟨a1.symm, a2.symm, a3.symm, a4.symm, a5.symm, eqs_symm a6, eqs_symm a7⟩
theorem eqF_trans {F G H : FV} (h : EqF F G) (h' : EqF G H) : EqF F H := by
  obtain ⟨h1, h2, h3, h4, h5, h6⟩ := h
  obtain ⟨k1, k2, k3, k4, k5, k6⟩ := h'
  refine ⟨h1.trans k1, h2.trans k2, h3.trans k3, eqs_trans h4 k4, h5.trans k5, fun j hj => ?_⟩
  obtain ⟨q1, q2⟩ := h6 j hj
  obtain ⟨r1, r2⟩ := k6 j (by rw [← h5]; exact hj)
  refine ⟨q1.trans r1, fun t ht => ?_⟩
  obtain ⟨a1, a2, a3, a4, a5, a6, a7⟩ := q2 t ht
  obtain ⟨b1, b2, b3, b4, b5, b6, b7⟩ := r2 t (by rw [← q1]; exact ht)
  exact ⟨a1.trans b1, a2.trans b2, a3.trans b3, a4.trans b4, a5.trans b5, eqs_trans a6 b6, eqs_trans a7 b7⟩
theorem eqM_symm {M N : MV} (h : EqM M N) : EqM N M :=
  ⟨⟨h.ext.1.symm, fun i hi => by have := h.ext.2 i (by rw [h.ext.1]; exact hi); exact ⟨this.1.symm, this.2.1.symm, eqs_symm this.2.2⟩⟩, ⟨h.glo.1.symm, fun i hi => by have := h.glo.2 i (by rw [h.glo.1]; exact hi); exact ⟨this.1.symm, eqs_symm this.2⟩⟩, ⟨h.tab.1.symm, fun i hi => by have := h.tab.2 i (by rw [h.tab.1]; exact hi); exact ⟨this.1.symm, eqs_symm this.2⟩⟩, ⟨h.fns.1.symm, fun i hi => eqF_symm (h.fns.2 i (by rw [h.fns.1]; exact hi))⟩⟩
theorem eqM_trans {M N O : MV} (h : EqM M N) (k : EqM N O) : EqM M O :=
  ⟨⟨h.ext.1.trans k.ext.1, fun i hi => by have a := h.ext.2 i hi; have b := k.ext.2 i (by rw [← h.ext.1]; exact hi); exact ⟨a.1.trans b.1, a.2.1.trans b.2.1, eqs_trans a.2.2 b.2.2⟩⟩, ⟨h.glo.1.trans k.glo.1, fun i hi => by have a := h.glo.2 i hi; have b := k.glo.2 i (by rw [← h.glo.1]; exact hi); exact ⟨a.1.trans b.1, eqs_trans a.2 b.2⟩⟩, ⟨h.tab.1.trans k.tab.1, fun i hi => by have a := h.tab.2 i hi; have b := k.tab.2 i (by rw [← h.tab.1]; exact hi); exact ⟨a.1.trans b.1, eqs_trans a.2 b.2⟩⟩, ⟨h.fns.1.trans k.fns.1, fun i hi => eqF_trans (h.fns.2 i hi) (k.fns.2 i (by rw [← h.fns.1]; exact hi))⟩⟩

end Go.Proofs.Ytclioagemjpnoaa.Trn
