/-
  One thing turned, never the same: plnlaw3.IrTurned.
-/
import Derived.Test.YtclioagemjpnoaaJ7
import Derived.Test.YtclioagemjpnoaaFirst
import Derived.Deep.RegionHeld3
namespace Go.Proofs.Ytclioagemjpnoaa.Trn
open Go.RowKit View Rd Num Opn Copy Ty Srt Go.Proofs.Ytclioagemjpnoaa.Own Go.Proofs.Ytclioagemjpnoaa.Mod Go.Proofs.Ytclioagemjpnoaa.CpM Go.Proofs.Ytclioagemjpnoaa.Chk Go.Proofs.Ytclioagemjpnoaa.First Go.Proofs.Ytclioagemjpnoaa.Low

set_option linter.unusedVariables false

theorem to_zero {v : IV} (h : formB v = true) (e : v.ty = 0) : v.to = 0 := by
  unfold formB at h
  simp only [Bool.and_eq_true, Bool.or_eq_true, decide_eq_true_eq] at h
  rcases h.2 with q | q
  · exact q.2
  · exact absurd e q.1

theorem symN_le {M : MV} (hs : SmallM M) (op : Int) : symN M op ≤ 26 := by
  have := hs.fns; have := hs.glo; have := hs.ext; have := hs.tab
  unfold symN
  split
  · omega
  · split
    · omega
    · split
      · omega
      · split <;> omega

def Says (r : Bool) (w : World) (e : Ending) (w' : World) : Prop := e = .returned (.bool r) ∧ Below w.heap.size w w'

theorem odd_calls {M O N : MV} {w9 : World} (hM : InM w9 M) (hs : SmallM M) (h : Odd M O w9) (hv : O.val = N.val) : ∀ wx, Below w9.heap.size w9 wx → Calls Try.prog 13 #[M.val, N.val] wx (Says false wx) := fun wx hb => by
  rw [← hv]
  refine (same_ir M O wx (hM.on hb) (h.inn.on hb) hs).mono ?_
  rintro e w' ⟨r, rfl, hr, hb'⟩
  cases r with
  | false => exact ⟨rfl, hb'⟩
  | true => exact absurd (hr.1 rfl) h.ne

theorem odd_calls' {M O N : MV} {w9 : World} (hM : InM w9 M) (hs : SmallM M) (h : Odd M O w9) (hv : O.val = N.val) : ∀ wx, Below w9.heap.size w9 wx → Calls Try.prog 13 #[N.val, M.val] wx (Says false wx) := fun wx hb => by
  rw [← hv]
  refine (same_ir O M wx (h.inn.on hb) (hM.on hb) h.small).mono ?_
  rintro e w' ⟨r, rfl, hr, hb'⟩
  cases r with
  | false => exact ⟨rfl, hb'⟩
  | true => exact absurd (hr.1 rfl) h.ne'

def Twin2 (M : MV) (w : World) (e : Ending) (w' : World) : Prop := ∃ N : MV, e = .returned N.val ∧ InM w' N ∧ EqM M N ∧ Below w.heap.size w w'

theorem same_true {M N : MV} {w9 : World} (hM : InM w9 M) (hN : InM w9 N) (hs : SmallM M) (h : EqM M N) : ∀ wx, Below w9.heap.size w9 wx → Calls Try.prog 13 #[M.val, N.val] wx (Says true wx) := fun wx hb => by
  refine (same_ir M N wx (hM.on hb) (hN.on hb) hs).mono ?_
  rintro e w' ⟨r, rfl, hr, hb'⟩
  cases r with
  | true => exact ⟨rfl, hb'⟩
  | false => have := hr.2 h; cases this

set_option maxRecDepth 10000 in
set_option maxHeartbeats 8000000 in
theorem irTurned_any (M : MV) (k b i which : Int) (w : World) (hM : InM w M) (fM : FitsM M) :
    Calls Try.prog 3 #[M.val, .int .i64 k, .int .i64 b, .int .i64 i, .int .i64 which] w fun e w' => e = .returned (.bool true) ∧ Below w.heap.size w w' := by
  have HM := hid hM
  have FM := hid fM
  clear hM fM
  go_enter Try.func3, Try.ntmps3
  go_wp2_with fail
  refine (first_any _).mono ?_
  rintro e w1 ⟨rfl, hb1⟩
  have m1 : MBox w1 w.heap.size M := MBox.on hb1 (MBox.alloc w M)
  have B1 := hid (View.more (new (same w) _) hb1)
  have M1 := hid m1
  obtain ⟨c0, c1, c2, c3⟩ := m1
  clear hb1
  go_wp2_with fail
  refine (fit_any M _ (HM.out.on B1.out)).mono ?_
  rintro e w2 ⟨r, rfl, hr, hb2⟩
  have B2 := hid (View.more B1.out hb2)
  have M2 := hid (M1.out.on hb2)
  have HR := hid hr
  clear c0 c1 c2 c3 hb2 B1 M1 hr
  cases r with
  | false =>
    go_wp2_with fail
    refine (first_any _).mono ?_
    rintro e w3 ⟨rfl, hb3⟩
    go_wp2_with fail
    go_ret
    exact ⟨rfl, View.more B2.out hb3⟩
  | true =>
  have FT := hid (HR.out rfl)
  clear HR
  obtain ⟨c0, c1, c2, c3⟩ := M2.out
  by_cases g0 : M.fns.n = 0
  · have t0 : ((M.fns.n : Int) == 0) = true := by simp [g0]
    clear g0
    go_wp2_with fail
    refine (first_any _).mono ?_
    rintro e w3 ⟨rfl, hb3⟩
    go_wp2_with fail
    go_ret
    exact ⟨rfl, View.more B2.out hb3⟩
  have t0 : ((M.fns.n : Int) == 0) = false := by simp [g0]
  go_wp2_with fail
  refine (copy_sep M _ (HM.out.on B2.out) FT.out.1).mono ?_
  rintro e w3 ⟨N, X, rfl, hN, hE, hS3, hb3, hX, hsp⟩
  obtain ⟨nb, hnb⟩ : ∃ nb, w3.heap.size = nb := ⟨_, rfl⟩
  obtain ⟨W, hW⟩ : ∃ W, w3.alloc (.cells (mcells N) 27) = W := ⟨_, rfl⟩
  have BW := hid (show Below w.heap.size w W by rw [← hW]; exact new (View.more B2.out hb3) _)
  have MW := hid (show MBox W w.heap.size M by rw [← hW]; exact (M2.out.on hb3).on (new (same _) _))
  have NW := hid (show MBox W nb N by rw [← hW, ← hnb]; exact MBox.alloc w3 N)
  have IN := hid (show InM W N by rw [← hW]; exact hN.on (new (same _) _))
  have SP := hid (show Sep X W N by rw [← hW]; exact Sep.on hsp (new (same _) _))
  have IM := hid (HM.out.on BW.out)
  have EN := hid (And.intro hE hS3)
  have HX := hid (show w.heap.size < X by have := B2.out.size; omega)
  have HNB := hid (show nb < W.heap.size ∧ X ≤ nb by rw [← hW, ← hnb]; simp; exact hsp.le)
  have hNf : N.fns.n = M.fns.n := hE.fns.1
  have HNF := hid hNf
  obtain ⟨x, hx, a0, hk1, hk2⟩ := red16 k (show 0 < M.fns.n by omega)
  have EF := hid (hE.fns.2 x (by omega))
  have hnb2 : (N.F x).blk.n = (M.F x).blk.n := EF.out.2.2.2.2.1
  have lim := (FT.out.2.lim.fnI x hx).one
  obtain ⟨y, hy, b0, hb1, hb2⟩ := red16 b (show 0 < (N.F x).blk.n by omega)
  have hnb3 : ((N.F x).B y).n = ((M.F x).B y).n := (EF.out.2.2.2.2.2 y hy).1
  have flw := ((FT.out.2.flow x hx).1 y (by omega)).1
  obtain ⟨z, hz, i0, hi1, hi2⟩ := red16 i (show 0 < ((N.F x).B y).n by omega)
  obtain ⟨at_, own3⟩ := hsp.own x (by omega)
  have HAT := hid (show at_ (.row y) < nb by rw [← hnb]; exact own3.lt (.row y) hy (show 0 < ((N.F x).B y).n by omega))
  have own : Own X W (N.F x) at_ := by rw [← hW]; exact own3.on (new (same _) _)
  have OWN := hid own
  obtain ⟨g, hg, hgX, hgl, hgz, hgF⟩ := hsp.fns (by omega)
  have HGN := hid (show g < nb by rw [← hnb]; exact hgl)
  clear own3
  have HGG := hid (And.intro hg (And.intro hgX (And.intro hgl (And.intro hgz hgF))))
  have gf := EN.out.2.fns
  have gl := EN.out.2.light x (by omega)
  have gbn := gl.blk
  have gin := gl.ins y hy
  obtain ⟨g', o', hg', hgc⟩ := IN.out.fns.2.2.2 (by omega)
  have e0 := hg.symm.trans hg'
  simp at e0
  obtain ⟨rfl, rfl⟩ := e0
  have fat := hgc x (by omega)
  rw [Nat.zero_add] at fat
  have FATT := hid fat
  have p1 := index_row (s := N.fns) hg underlying25 size35 (k := x) (by omega)
  simp only [Nat.zero_add] at p1
  obtain ⟨G, oB, hGa, hGc⟩ := own.inn.blk.2.2.2 (by omega)
  have hcb := hGc y hy
  have p2 := index_row (s := (N.F x).blk) hGa underlying33 size39 (k := y) hy
  simp only [Nat.mul_one] at p2
  obtain ⟨ins, p3⟩ := own.insAt hy hz
  have INS := hid ins
  obtain ⟨c0', c1', c2', c3', c4'⟩ := fat
  obtain ⟨n0, n1, n2, n3⟩ := NW.out
  obtain ⟨s0, s1, s2, s3, s4, s5, s6⟩ := ins
  have af := hid (And.intro (args_few FT.out.1 FT.out.2 hx (by omega) (show z < ((M.F x).B y).n by omega)) ((EF.out.2.2.2.2.2 y hy).2 z hz))
  have fz1 := own.fz (.row y) hy (show 0 < ((N.F x).B y).n by omega)
  have hat := own.lt (.row y) hy (show 0 < ((N.F x).B y).n by omega)
  have hatX := own.ge (.row y) hy (show 0 < ((N.F x).B y).n by omega)
  rw [← hNf] at hk2
  have BX := hid (And.intro hy (And.intro hz hx))
  have hw8 := low3 which
  have ne1 : N.fns.n ≠ 0 := by omega
  have ne2 : (N.F x).blk.n ≠ 0 := by omega
  have ne3 : ((N.F x).B y).n ≠ 0 := by omega
  clear hN hE hS3 hb3 hX hsp hg' hgc hGc own hgF hNf hnb2 hnb3 lim flw c0 c1 c2 c3 gl hg hGa
  go_wp2_with fail
  clear hW hnb
  go_region
  go_wp2_with fail
  go_region
  go_wp2_with fail
  go_region
  obtain ⟨WD, hWD⟩ : ∃ WD, W.drew.drew.drew = WD := ⟨_, rfl⟩
  have DD : Below W.heap.size W WD := by rw [← hWD]; exact Below.drew (Below.drew (Below.drew (same _)))
  have BWD := hid (View.more BW.out DD)
  have MWD := hid (MW.out.on DD)
  have NWD := hid (NW.out.on DD)
  have IND := hid (IN.out.on DD)
  have SPD := hid (Sep.on SP.out DD)
  have IMD := hid (IM.out.on DD)
  have OWD := hid (OWN.out.on DD)
  have INSD := hid (INS.out.on DD)
  have FATD := hid (FATT.out.on DD)
  have ARG := hid (show Ints WD ((N.F x).I y z).args ((N.F x).A y z) from OWD.out.inn.args y hy z hz)
  have ZD := hid (show WD.heap.size = W.heap.size by rw [← hWD]; rfl)
  rw [hWD]
  clear hWD DD c0' c1' c2' c3' c4' s0 s1 s2 s3 s4 s5 s6 n0 n1 n2 n3 hcb p1 p2 p3 hk1 hk2 hb1 hb2 hi1 hi2 fz1
  obtain ⟨c0', c1', c2', c3', c4'⟩ := FATD.out
  obtain ⟨s0, s1, s2, s3, s4, s5, s6⟩ := INSD.out
  have fz1 := OWD.out.fz (.row y) hy (show 0 < ((N.F x).B y).n by omega)
  have HFM := hid ((FT.out.2.form.fns x hx).2.2 y (by have := EF.out.2.2.2.2.1; omega) z (by have := (EF.out.2.2.2.2.2 y hy).1; omega))
  have gz : ∀ i, WD.frozen? ⟨g, i, none⟩ = false := by
    obtain ⟨g', q1, q2, q3, q4, q5⟩ := SPD.out.fns (by omega)
    have := q1.symm.trans HGG.out.1
    simp at this
    subst this
    exact q4
  have IX := hid (And.intro (show x < N.fns.n by have := HNF.out; omega) (show ((N.F x).I y z).args.n ≤ 19 by rw [af.out.2.2.2.2.2.2.1.1]; exact af.out.1))
  have MOPS := hid af.out.2
  have TOB := hid (show ((N.F x).I y z).to ≤ 10000 ∧ 0 ≤ ((N.F x).I y z).to by
    have hyM : y < (M.F x).blk.n := by have := EF.out.2.2.2.2.1; omega
    have hzM : z < ((M.F x).B y).n := by have := (EF.out.2.2.2.2.2 y hy).1; omega
    rw [MOPS.out.2.2.1]
    by_cases e : ((M.F x).I y z).ty = 0
    · rw [to_zero HFM.out e]; omega
    · have h1 := (FT.out.2.use x hx).1 y hyM z hzM e
      have h2 := idx_all (M.F x) hyM hzM
      have h3 := allV_le (FT.out.1.light x hx)
      omega)
  have SYB := hid (show ((N.F x).I y z).sym ≤ 1000 ∧ 0 ≤ ((N.F x).I y z).sym by
    have hyM : y < (M.F x).blk.n := by have := EF.out.2.2.2.2.1; omega
    have hzM : z < ((M.F x).B y).n := by have := (EF.out.2.2.2.2.2 y hy).1; omega
    rw [MOPS.out.2.2.2.1]
    have h1 := FT.out.2.sym.ins x hx y hyM z hzM
    have h2 := symN_le FT.out.1 ((M.F x).I y z).op
    unfold SymI at h1
    omega)
  have XNB := hid (show W64 ((N.F x).I y z).num by
    have hyM : y < (M.F x).blk.n := by have := EF.out.2.2.2.2.1; omega
    have hzM : z < ((M.F x).B y).n := by have := (EF.out.2.2.2.2.2 y hy).1; omega
    rw [MOPS.out.2.2.2.2.1]
    exact ((FM.out.fns x hx).ins y hyM z hzM).2.2.2.2)
  have NML := hid (show ((N.F x).name).size ≤ 12 by
    have h1 := FT.out.2.name.1 (M.F x).name (by unfold namesF; exact List.mem_append_right _ (List.mem_map.2 ⟨x, List.mem_range.2 hx, rfl⟩))
    have h2 : (N.F x).name.toList = (M.F x).name.toList := EF.out.1
    have h3 := congrArg List.length h2
    rw [Go.ByteArray.toList_eq, Go.ByteArray.toList_eq] at h3
    have h5 : (N.F x).name.size = (M.F x).name.size := by simpa using h3
    have h4 := h1.2.1
    omega)
  have h8 : which % 8 = 0 ∨ which % 8 = 1 ∨ which % 8 = 2 ∨ which % 8 = 3 ∨ which % 8 = 4 ∨ which % 8 = 5 ∨ which % 8 = 6 ∨ which % 8 = 7 := by omega
  rcases h8 with h8 | h8 | h8 | h8 | h8 | h8 | h8 | h8 <;> rw [h8] at hw8
  · clear h8
    have hfo := HFM.out
    unfold formB at hfo
    simp only [Bool.and_eq_true, decide_eq_true_eq] at hfo
    have hb1 : ((N.F x).I y z).op ≤ 30 := by rw [MOPS.out.1]; omega
    have hb0 : 1 ≤ ((N.F x).I y z).op := by rw [MOPS.out.1]; omega
    clear hfo
    go_wp2_with fail
    obtain ⟨O, hOv, hodd⟩ := odd_setI SPD.out IND.out EN.out.2 EN.out.1 IX.out.1 hy hz OWD.out (c := 0) (by decide) (InsAt.set0 INSD.out (((N.F x).I y z).op + 1)) rfl (args_stay OWD.out hy hz _ _) (by have := IX.out.2; show ((N.F x).I y z).args.n ≤ 20; omega) (.inl (by show ((N.F x).I y z).op + 1 ≠ ((N.F x).I y z).op; omega))
    obtain ⟨W9, hW9⟩ : ∃ W9, WD.setCell ⟨at_ (.row y), z * 7 + 0, none⟩ (.int .i64 (((N.F x).I y z).op + 1)) = W9 := ⟨_, rfl⟩
    try simp only [Nat.add_zero] at hW9 hodd
    simp only [hW9] at hodd ⊢
    have B9 := hid (show Below w.heap.size w W9 by rw [← hW9]; exact BWD.out.setCell (by show _ ≤ at_ (.row y); have := HX.out; have := hatX; omega) _)
    have MB9 := hid (show MBox W9 w.heap.size M by rw [← hW9]; exact MWD.out.at_block (Below.heap_setCell _ _ _ _ (by show w.heap.size ≠ at_ (.row y); have := HX.out; have := hatX; omega)))
    have NB9 := hid (show MBox W9 nb N by rw [← hW9]; exact NWD.out.at_block (Below.heap_setCell _ _ _ _ (by show nb ≠ at_ (.row y); have := HAT.out; omega)))
    clear hW9 c0' c1' c2' c3' c4' s0 s1 s2 s3 s4 s5 s6 fz1 gz hw8
    have C1 := odd_calls (HM.out.on B9.out) FT.out.1 hodd hOv
    have C2 := odd_calls' (HM.out.on B9.out) FT.out.1 hodd hOv
    clear hodd hOv
    have k0 : ∀ wx, Below W9.heap.size W9 wx → wx.cell? ⟨w.heap.size, 0, none⟩ = some (.slice M.ext.a M.ext.n M.ext.c) := fun wx h => (MB9.out.on h).c0
    have k1 : ∀ wx, Below W9.heap.size W9 wx → wx.cell? ⟨w.heap.size, 1, none⟩ = some (.slice M.glo.a M.glo.n M.glo.c) := fun wx h => (MB9.out.on h).c1
    have k2 : ∀ wx, Below W9.heap.size W9 wx → wx.cell? ⟨w.heap.size, 2, none⟩ = some (.slice M.tab.a M.tab.n M.tab.c) := fun wx h => (MB9.out.on h).c2
    have k3 : ∀ wx, Below W9.heap.size W9 wx → wx.cell? ⟨w.heap.size, 3, none⟩ = some (.slice M.fns.a M.fns.n M.fns.c) := fun wx h => (MB9.out.on h).c3
    have k4 : ∀ wx, Below W9.heap.size W9 wx → wx.cell? ⟨nb, 0, none⟩ = some (.slice N.ext.a N.ext.n N.ext.c) := fun wx h => (NB9.out.on h).c0
    have k5 : ∀ wx, Below W9.heap.size W9 wx → wx.cell? ⟨nb, 1, none⟩ = some (.slice N.glo.a N.glo.n N.glo.c) := fun wx h => (NB9.out.on h).c1
    have k6 : ∀ wx, Below W9.heap.size W9 wx → wx.cell? ⟨nb, 2, none⟩ = some (.slice N.tab.a N.tab.n N.tab.c) := fun wx h => (NB9.out.on h).c2
    have k7 : ∀ wx, Below W9.heap.size W9 wx → wx.cell? ⟨nb, 3, none⟩ = some (.slice N.fns.a N.fns.n N.fns.c) := fun wx h => (NB9.out.on h).c3
    have st0 : Below W9.heap.size W9 W9.drew := Below.drew (same _)
    have IM9 := hid (HM.out.on B9.out)
    go_region_held3 (fun wx => Below W9.heap.size W9 wx) (first | exact st0 | exact st1 | exact st2 | exact st3 | exact st4)
      (first
        | (go_at_call 13; refine (C1 _ st0).mono ?_; rintro e wa ⟨rfl, hba⟩; have st1 : Below W9.heap.size W9 wa := View.more st0 hba; clear hba C1)
        | (go_at_call 13; refine (C2 _ st1).mono ?_; rintro e wb ⟨rfl, hbb⟩; have st2 : Below W9.heap.size W9 wb := View.more st1 hbb; clear hbb C2)
        | (go_at_call 12; refine (copy_ref M _ (IM9.out.on st2) FT.out.1).mono ?_; rintro e wc ⟨N2, rfl, hN2, hE2, hS2, hbc⟩; have st3 : Below W9.heap.size W9 wc := View.more st2 hbc; have C4 := same_true (IM9.out.on st3) hN2 FT.out.1 (eqM_symm hE2); clear hbc hN2 hE2 hS2)
        | (go_at_call 13; refine (C4 _ (same _)).mono ?_; rintro e wd ⟨rfl, hbd⟩; have st4 : Below W9.heap.size W9 wd := View.more st3 hbd; clear hbd C4))
    clear k0 k1 k2 k3 k4 k5 k6 k7
    go_wp2_with fail
    go_ret
    exact ⟨rfl, View.more B9.out st4⟩
  · clear h8
    have hfo := HFM.out
    unfold formB at hfo
    simp only [Bool.and_eq_true, decide_eq_true_eq] at hfo
    have hb1 : ((N.F x).I y z).ty ≤ 4 := by rw [MOPS.out.2.1]; omega
    have hb0 : 0 ≤ ((N.F x).I y z).ty := by rw [MOPS.out.2.1]; omega
    clear hfo
    go_wp2_with fail
    obtain ⟨O, hOv, hodd⟩ := odd_setI SPD.out IND.out EN.out.2 EN.out.1 IX.out.1 hy hz OWD.out (c := 1) (by decide) (InsAt.set1 INSD.out (((N.F x).I y z).ty + 1)) rfl (args_stay OWD.out hy hz _ _) (by have := IX.out.2; show ((N.F x).I y z).args.n ≤ 20; omega) (.inr (.inl (by show ((N.F x).I y z).ty + 1 ≠ ((N.F x).I y z).ty; omega)))
    obtain ⟨W9, hW9⟩ : ∃ W9, WD.setCell ⟨at_ (.row y), z * 7 + 1, none⟩ (.int .i64 (((N.F x).I y z).ty + 1)) = W9 := ⟨_, rfl⟩
    try simp only [Nat.add_zero] at hW9 hodd
    simp only [hW9] at hodd ⊢
    have B9 := hid (show Below w.heap.size w W9 by rw [← hW9]; exact BWD.out.setCell (by show _ ≤ at_ (.row y); have := HX.out; have := hatX; omega) _)
    have MB9 := hid (show MBox W9 w.heap.size M by rw [← hW9]; exact MWD.out.at_block (Below.heap_setCell _ _ _ _ (by show w.heap.size ≠ at_ (.row y); have := HX.out; have := hatX; omega)))
    have NB9 := hid (show MBox W9 nb N by rw [← hW9]; exact NWD.out.at_block (Below.heap_setCell _ _ _ _ (by show nb ≠ at_ (.row y); have := HAT.out; omega)))
    clear hW9 c0' c1' c2' c3' c4' s0 s1 s2 s3 s4 s5 s6 fz1 gz hw8
    have C1 := odd_calls (HM.out.on B9.out) FT.out.1 hodd hOv
    have C2 := odd_calls' (HM.out.on B9.out) FT.out.1 hodd hOv
    clear hodd hOv
    have k0 : ∀ wx, Below W9.heap.size W9 wx → wx.cell? ⟨w.heap.size, 0, none⟩ = some (.slice M.ext.a M.ext.n M.ext.c) := fun wx h => (MB9.out.on h).c0
    have k1 : ∀ wx, Below W9.heap.size W9 wx → wx.cell? ⟨w.heap.size, 1, none⟩ = some (.slice M.glo.a M.glo.n M.glo.c) := fun wx h => (MB9.out.on h).c1
    have k2 : ∀ wx, Below W9.heap.size W9 wx → wx.cell? ⟨w.heap.size, 2, none⟩ = some (.slice M.tab.a M.tab.n M.tab.c) := fun wx h => (MB9.out.on h).c2
    have k3 : ∀ wx, Below W9.heap.size W9 wx → wx.cell? ⟨w.heap.size, 3, none⟩ = some (.slice M.fns.a M.fns.n M.fns.c) := fun wx h => (MB9.out.on h).c3
    have k4 : ∀ wx, Below W9.heap.size W9 wx → wx.cell? ⟨nb, 0, none⟩ = some (.slice N.ext.a N.ext.n N.ext.c) := fun wx h => (NB9.out.on h).c0
    have k5 : ∀ wx, Below W9.heap.size W9 wx → wx.cell? ⟨nb, 1, none⟩ = some (.slice N.glo.a N.glo.n N.glo.c) := fun wx h => (NB9.out.on h).c1
    have k6 : ∀ wx, Below W9.heap.size W9 wx → wx.cell? ⟨nb, 2, none⟩ = some (.slice N.tab.a N.tab.n N.tab.c) := fun wx h => (NB9.out.on h).c2
    have k7 : ∀ wx, Below W9.heap.size W9 wx → wx.cell? ⟨nb, 3, none⟩ = some (.slice N.fns.a N.fns.n N.fns.c) := fun wx h => (NB9.out.on h).c3
    have st0 : Below W9.heap.size W9 W9.drew := Below.drew (same _)
    have IM9 := hid (HM.out.on B9.out)
    go_region_held3 (fun wx => Below W9.heap.size W9 wx) (first | exact st0 | exact st1 | exact st2 | exact st3 | exact st4)
      (first
        | (go_at_call 13; refine (C1 _ st0).mono ?_; rintro e wa ⟨rfl, hba⟩; have st1 : Below W9.heap.size W9 wa := View.more st0 hba; clear hba C1)
        | (go_at_call 13; refine (C2 _ st1).mono ?_; rintro e wb ⟨rfl, hbb⟩; have st2 : Below W9.heap.size W9 wb := View.more st1 hbb; clear hbb C2)
        | (go_at_call 12; refine (copy_ref M _ (IM9.out.on st2) FT.out.1).mono ?_; rintro e wc ⟨N2, rfl, hN2, hE2, hS2, hbc⟩; have st3 : Below W9.heap.size W9 wc := View.more st2 hbc; have C4 := same_true (IM9.out.on st3) hN2 FT.out.1 (eqM_symm hE2); clear hbc hN2 hE2 hS2)
        | (go_at_call 13; refine (C4 _ (same _)).mono ?_; rintro e wd ⟨rfl, hbd⟩; have st4 : Below W9.heap.size W9 wd := View.more st3 hbd; clear hbd C4))
    clear k0 k1 k2 k3 k4 k5 k6 k7
    go_wp2_with fail
    go_ret
    exact ⟨rfl, View.more B9.out st4⟩
  · clear h8
    have hb1 : ((N.F x).I y z).to ≤ 10000 ∧ 0 ≤ ((N.F x).I y z).to := TOB.out
    obtain ⟨hb1, hb0⟩ := hb1
    go_wp2_with fail
    obtain ⟨O, hOv, hodd⟩ := odd_setI SPD.out IND.out EN.out.2 EN.out.1 IX.out.1 hy hz OWD.out (c := 2) (by decide) (InsAt.set2 INSD.out (((N.F x).I y z).to + 1)) rfl (args_stay OWD.out hy hz _ _) (by have := IX.out.2; show ((N.F x).I y z).args.n ≤ 20; omega) (.inr (.inr (.inl (by show ((N.F x).I y z).to + 1 ≠ ((N.F x).I y z).to; omega))))
    obtain ⟨W9, hW9⟩ : ∃ W9, WD.setCell ⟨at_ (.row y), z * 7 + 2, none⟩ (.int .i64 (((N.F x).I y z).to + 1)) = W9 := ⟨_, rfl⟩
    try simp only [Nat.add_zero] at hW9 hodd
    simp only [hW9] at hodd ⊢
    have B9 := hid (show Below w.heap.size w W9 by rw [← hW9]; exact BWD.out.setCell (by show _ ≤ at_ (.row y); have := HX.out; have := hatX; omega) _)
    have MB9 := hid (show MBox W9 w.heap.size M by rw [← hW9]; exact MWD.out.at_block (Below.heap_setCell _ _ _ _ (by show w.heap.size ≠ at_ (.row y); have := HX.out; have := hatX; omega)))
    have NB9 := hid (show MBox W9 nb N by rw [← hW9]; exact NWD.out.at_block (Below.heap_setCell _ _ _ _ (by show nb ≠ at_ (.row y); have := HAT.out; omega)))
    clear hW9 c0' c1' c2' c3' c4' s0 s1 s2 s3 s4 s5 s6 fz1 gz hw8
    have C1 := odd_calls (HM.out.on B9.out) FT.out.1 hodd hOv
    have C2 := odd_calls' (HM.out.on B9.out) FT.out.1 hodd hOv
    clear hodd hOv
    have k0 : ∀ wx, Below W9.heap.size W9 wx → wx.cell? ⟨w.heap.size, 0, none⟩ = some (.slice M.ext.a M.ext.n M.ext.c) := fun wx h => (MB9.out.on h).c0
    have k1 : ∀ wx, Below W9.heap.size W9 wx → wx.cell? ⟨w.heap.size, 1, none⟩ = some (.slice M.glo.a M.glo.n M.glo.c) := fun wx h => (MB9.out.on h).c1
    have k2 : ∀ wx, Below W9.heap.size W9 wx → wx.cell? ⟨w.heap.size, 2, none⟩ = some (.slice M.tab.a M.tab.n M.tab.c) := fun wx h => (MB9.out.on h).c2
    have k3 : ∀ wx, Below W9.heap.size W9 wx → wx.cell? ⟨w.heap.size, 3, none⟩ = some (.slice M.fns.a M.fns.n M.fns.c) := fun wx h => (MB9.out.on h).c3
    have k4 : ∀ wx, Below W9.heap.size W9 wx → wx.cell? ⟨nb, 0, none⟩ = some (.slice N.ext.a N.ext.n N.ext.c) := fun wx h => (NB9.out.on h).c0
    have k5 : ∀ wx, Below W9.heap.size W9 wx → wx.cell? ⟨nb, 1, none⟩ = some (.slice N.glo.a N.glo.n N.glo.c) := fun wx h => (NB9.out.on h).c1
    have k6 : ∀ wx, Below W9.heap.size W9 wx → wx.cell? ⟨nb, 2, none⟩ = some (.slice N.tab.a N.tab.n N.tab.c) := fun wx h => (NB9.out.on h).c2
    have k7 : ∀ wx, Below W9.heap.size W9 wx → wx.cell? ⟨nb, 3, none⟩ = some (.slice N.fns.a N.fns.n N.fns.c) := fun wx h => (NB9.out.on h).c3
    have st0 : Below W9.heap.size W9 W9.drew := Below.drew (same _)
    have IM9 := hid (HM.out.on B9.out)
    go_region_held3 (fun wx => Below W9.heap.size W9 wx) (first | exact st0 | exact st1 | exact st2 | exact st3 | exact st4)
      (first
        | (go_at_call 13; refine (C1 _ st0).mono ?_; rintro e wa ⟨rfl, hba⟩; have st1 : Below W9.heap.size W9 wa := View.more st0 hba; clear hba C1)
        | (go_at_call 13; refine (C2 _ st1).mono ?_; rintro e wb ⟨rfl, hbb⟩; have st2 : Below W9.heap.size W9 wb := View.more st1 hbb; clear hbb C2)
        | (go_at_call 12; refine (copy_ref M _ (IM9.out.on st2) FT.out.1).mono ?_; rintro e wc ⟨N2, rfl, hN2, hE2, hS2, hbc⟩; have st3 : Below W9.heap.size W9 wc := View.more st2 hbc; have C4 := same_true (IM9.out.on st3) hN2 FT.out.1 (eqM_symm hE2); clear hbc hN2 hE2 hS2)
        | (go_at_call 13; refine (C4 _ (same _)).mono ?_; rintro e wd ⟨rfl, hbd⟩; have st4 : Below W9.heap.size W9 wd := View.more st3 hbd; clear hbd C4))
    clear k0 k1 k2 k3 k4 k5 k6 k7
    go_wp2_with fail
    go_ret
    exact ⟨rfl, View.more B9.out st4⟩
  · clear h8
    have hb1 : ((N.F x).I y z).sym ≤ 1000 ∧ 0 ≤ ((N.F x).I y z).sym := SYB.out
    obtain ⟨hb1, hb0⟩ := hb1
    go_wp2_with fail
    obtain ⟨O, hOv, hodd⟩ := odd_setI SPD.out IND.out EN.out.2 EN.out.1 IX.out.1 hy hz OWD.out (c := 3) (by decide) (InsAt.set3 INSD.out (((N.F x).I y z).sym + 1)) rfl (args_stay OWD.out hy hz _ _) (by have := IX.out.2; show ((N.F x).I y z).args.n ≤ 20; omega) (.inr (.inr (.inr (.inl (by show ((N.F x).I y z).sym + 1 ≠ ((N.F x).I y z).sym; omega)))))
    obtain ⟨W9, hW9⟩ : ∃ W9, WD.setCell ⟨at_ (.row y), z * 7 + 3, none⟩ (.int .i64 (((N.F x).I y z).sym + 1)) = W9 := ⟨_, rfl⟩
    try simp only [Nat.add_zero] at hW9 hodd
    simp only [hW9] at hodd ⊢
    have B9 := hid (show Below w.heap.size w W9 by rw [← hW9]; exact BWD.out.setCell (by show _ ≤ at_ (.row y); have := HX.out; have := hatX; omega) _)
    have MB9 := hid (show MBox W9 w.heap.size M by rw [← hW9]; exact MWD.out.at_block (Below.heap_setCell _ _ _ _ (by show w.heap.size ≠ at_ (.row y); have := HX.out; have := hatX; omega)))
    have NB9 := hid (show MBox W9 nb N by rw [← hW9]; exact NWD.out.at_block (Below.heap_setCell _ _ _ _ (by show nb ≠ at_ (.row y); have := HAT.out; omega)))
    clear hW9 c0' c1' c2' c3' c4' s0 s1 s2 s3 s4 s5 s6 fz1 gz hw8
    have C1 := odd_calls (HM.out.on B9.out) FT.out.1 hodd hOv
    have C2 := odd_calls' (HM.out.on B9.out) FT.out.1 hodd hOv
    clear hodd hOv
    have k0 : ∀ wx, Below W9.heap.size W9 wx → wx.cell? ⟨w.heap.size, 0, none⟩ = some (.slice M.ext.a M.ext.n M.ext.c) := fun wx h => (MB9.out.on h).c0
    have k1 : ∀ wx, Below W9.heap.size W9 wx → wx.cell? ⟨w.heap.size, 1, none⟩ = some (.slice M.glo.a M.glo.n M.glo.c) := fun wx h => (MB9.out.on h).c1
    have k2 : ∀ wx, Below W9.heap.size W9 wx → wx.cell? ⟨w.heap.size, 2, none⟩ = some (.slice M.tab.a M.tab.n M.tab.c) := fun wx h => (MB9.out.on h).c2
    have k3 : ∀ wx, Below W9.heap.size W9 wx → wx.cell? ⟨w.heap.size, 3, none⟩ = some (.slice M.fns.a M.fns.n M.fns.c) := fun wx h => (MB9.out.on h).c3
    have k4 : ∀ wx, Below W9.heap.size W9 wx → wx.cell? ⟨nb, 0, none⟩ = some (.slice N.ext.a N.ext.n N.ext.c) := fun wx h => (NB9.out.on h).c0
    have k5 : ∀ wx, Below W9.heap.size W9 wx → wx.cell? ⟨nb, 1, none⟩ = some (.slice N.glo.a N.glo.n N.glo.c) := fun wx h => (NB9.out.on h).c1
    have k6 : ∀ wx, Below W9.heap.size W9 wx → wx.cell? ⟨nb, 2, none⟩ = some (.slice N.tab.a N.tab.n N.tab.c) := fun wx h => (NB9.out.on h).c2
    have k7 : ∀ wx, Below W9.heap.size W9 wx → wx.cell? ⟨nb, 3, none⟩ = some (.slice N.fns.a N.fns.n N.fns.c) := fun wx h => (NB9.out.on h).c3
    have st0 : Below W9.heap.size W9 W9.drew := Below.drew (same _)
    have IM9 := hid (HM.out.on B9.out)
    go_region_held3 (fun wx => Below W9.heap.size W9 wx) (first | exact st0 | exact st1 | exact st2 | exact st3 | exact st4)
      (first
        | (go_at_call 13; refine (C1 _ st0).mono ?_; rintro e wa ⟨rfl, hba⟩; have st1 : Below W9.heap.size W9 wa := View.more st0 hba; clear hba C1)
        | (go_at_call 13; refine (C2 _ st1).mono ?_; rintro e wb ⟨rfl, hbb⟩; have st2 : Below W9.heap.size W9 wb := View.more st1 hbb; clear hbb C2)
        | (go_at_call 12; refine (copy_ref M _ (IM9.out.on st2) FT.out.1).mono ?_; rintro e wc ⟨N2, rfl, hN2, hE2, hS2, hbc⟩; have st3 : Below W9.heap.size W9 wc := View.more st2 hbc; have C4 := same_true (IM9.out.on st3) hN2 FT.out.1 (eqM_symm hE2); clear hbc hN2 hE2 hS2)
        | (go_at_call 13; refine (C4 _ (same _)).mono ?_; rintro e wd ⟨rfl, hbd⟩; have st4 : Below W9.heap.size W9 wd := View.more st3 hbd; clear hbd C4))
    clear k0 k1 k2 k3 k4 k5 k6 k7
    go_wp2_with fail
    go_ret
    exact ⟨rfl, View.more B9.out st4⟩
  · clear h8
    go_wp2_with fail
    obtain ⟨O, hOv, hodd⟩ := odd_setI SPD.out IND.out EN.out.2 EN.out.1 IX.out.1 hy hz OWD.out (c := 4) (by decide) (InsAt.set4 INSD.out (bits .xor .i64 ((N.F x).I y z).num 1)) rfl (args_stay OWD.out hy hz _ _) (by have := IX.out.2; show ((N.F x).I y z).args.n ≤ 20; omega) (.inr (.inr (.inr (.inr (.inl (by show bits .xor .i64 ((N.F x).I y z).num 1 ≠ ((N.F x).I y z).num; exact xor_one XNB.out))))))
    obtain ⟨W9, hW9⟩ : ∃ W9, WD.setCell ⟨at_ (.row y), z * 7 + 4, none⟩ (.int .i64 (bits .xor .i64 ((N.F x).I y z).num 1)) = W9 := ⟨_, rfl⟩
    try simp only [Nat.add_zero] at hW9 hodd
    simp only [hW9] at hodd ⊢
    have B9 := hid (show Below w.heap.size w W9 by rw [← hW9]; exact BWD.out.setCell (by show _ ≤ at_ (.row y); have := HX.out; have := hatX; omega) _)
    have MB9 := hid (show MBox W9 w.heap.size M by rw [← hW9]; exact MWD.out.at_block (Below.heap_setCell _ _ _ _ (by show w.heap.size ≠ at_ (.row y); have := HX.out; have := hatX; omega)))
    have NB9 := hid (show MBox W9 nb N by rw [← hW9]; exact NWD.out.at_block (Below.heap_setCell _ _ _ _ (by show nb ≠ at_ (.row y); have := HAT.out; omega)))
    clear hW9 c0' c1' c2' c3' c4' s0 s1 s2 s3 s4 s5 s6 fz1 gz hw8
    have C1 := odd_calls (HM.out.on B9.out) FT.out.1 hodd hOv
    have C2 := odd_calls' (HM.out.on B9.out) FT.out.1 hodd hOv
    clear hodd hOv
    have k0 : ∀ wx, Below W9.heap.size W9 wx → wx.cell? ⟨w.heap.size, 0, none⟩ = some (.slice M.ext.a M.ext.n M.ext.c) := fun wx h => (MB9.out.on h).c0
    have k1 : ∀ wx, Below W9.heap.size W9 wx → wx.cell? ⟨w.heap.size, 1, none⟩ = some (.slice M.glo.a M.glo.n M.glo.c) := fun wx h => (MB9.out.on h).c1
    have k2 : ∀ wx, Below W9.heap.size W9 wx → wx.cell? ⟨w.heap.size, 2, none⟩ = some (.slice M.tab.a M.tab.n M.tab.c) := fun wx h => (MB9.out.on h).c2
    have k3 : ∀ wx, Below W9.heap.size W9 wx → wx.cell? ⟨w.heap.size, 3, none⟩ = some (.slice M.fns.a M.fns.n M.fns.c) := fun wx h => (MB9.out.on h).c3
    have k4 : ∀ wx, Below W9.heap.size W9 wx → wx.cell? ⟨nb, 0, none⟩ = some (.slice N.ext.a N.ext.n N.ext.c) := fun wx h => (NB9.out.on h).c0
    have k5 : ∀ wx, Below W9.heap.size W9 wx → wx.cell? ⟨nb, 1, none⟩ = some (.slice N.glo.a N.glo.n N.glo.c) := fun wx h => (NB9.out.on h).c1
    have k6 : ∀ wx, Below W9.heap.size W9 wx → wx.cell? ⟨nb, 2, none⟩ = some (.slice N.tab.a N.tab.n N.tab.c) := fun wx h => (NB9.out.on h).c2
    have k7 : ∀ wx, Below W9.heap.size W9 wx → wx.cell? ⟨nb, 3, none⟩ = some (.slice N.fns.a N.fns.n N.fns.c) := fun wx h => (NB9.out.on h).c3
    have st0 : Below W9.heap.size W9 W9.drew := Below.drew (same _)
    have IM9 := hid (HM.out.on B9.out)
    go_region_held3 (fun wx => Below W9.heap.size W9 wx) (first | exact st0 | exact st1 | exact st2 | exact st3 | exact st4)
      (first
        | (go_at_call 13; refine (C1 _ st0).mono ?_; rintro e wa ⟨rfl, hba⟩; have st1 : Below W9.heap.size W9 wa := View.more st0 hba; clear hba C1)
        | (go_at_call 13; refine (C2 _ st1).mono ?_; rintro e wb ⟨rfl, hbb⟩; have st2 : Below W9.heap.size W9 wb := View.more st1 hbb; clear hbb C2)
        | (go_at_call 12; refine (copy_ref M _ (IM9.out.on st2) FT.out.1).mono ?_; rintro e wc ⟨N2, rfl, hN2, hE2, hS2, hbc⟩; have st3 : Below W9.heap.size W9 wc := View.more st2 hbc; have C4 := same_true (IM9.out.on st3) hN2 FT.out.1 (eqM_symm hE2); clear hbc hN2 hE2 hS2)
        | (go_at_call 13; refine (C4 _ (same _)).mono ?_; rintro e wd ⟨rfl, hbd⟩; have st4 : Below W9.heap.size W9 wd := View.more st3 hbd; clear hbd C4))
    clear k0 k1 k2 k3 k4 k5 k6 k7
    go_wp2_with fail
    go_ret
    exact ⟨rfl, View.more B9.out st4⟩
  · clear h8
    have zat : at_ (.row y) < WD.heap.size := World.block_lt_of_cell? _ _ s0
    have R0 := hid (show (WD.alloc (.cells #[] 3)).ownsRow WD.heap.size 3 1 (.slice (some ⟨WD.heap.size, 0, none⟩) 0 0) 0 (([] : List Int).map (Value.int .i64)) from ⟨rfl, .inr ⟨WD.heap.size, 0, #[], rfl, Nat.le_refl _, heap_alloc_new WD (.cells #[] 3), Nat.le_refl _, by decide, rfl, rfl⟩⟩)
    have AR0 := hid (ARG.out.on (new (same WD) (.cells #[] 3)))
    have an := IX.out.2
    have AL := hid (row_length ((N.F x).A y z) ((N.F x).I y z).args.n)
    go_wp2_with (first | (at_builtin; refine append_in rfl (.tmp 122) (.tmp 126) rfl WD.heap.size _ 0 [] rfl R0.out ((N.F x).I y z).args ((N.F x).A y z) rfl AR0.out (by omega) (by simp) ?_; intro v5 w5 hown5 hgr5; have O5 := hid (show w5.ownsRow WD.heap.size 3 1 v5 (row ((N.F x).A y z) ((N.F x).I y z).args.n).length ((row ((N.F x).A y z) ((N.F x).I y z).args.n).map (Value.int .i64)) by rw [AL.out]; simpa using hown5); have G5 := hid hgr5; have z5 : WD.heap.size ≤ w5.heap.size := (by have := hgr5.size; simp at this; omega); clear hown5 hgr5) | (at_builtin; refine append_one rfl (.tmp 127) (.tmp 128) rfl WD.heap.size _ (row ((N.F x).A y z) ((N.F x).I y z).args.n) rfl 0 O5.out rfl (by rw [AL.out]; omega) z5 ?_; intro v6 w6 hown6 hgr6; have b6 : Below WD.heap.size WD w6 := (new ((new (same WD) _).grown G5.out (by simp) (fun q hq => (R0.out.lt q hq).1)) _).grown hgr6 (by simp; omega) (fun q hq => (O5.out.lt q hq).1); obtain ⟨s8, rfl, hn8, hi8, hm8⟩ := ints_of_owns hown6 (by simp; rw [AL.out]; omega); obtain ⟨u0, u1, u2, u3, u4, u5, u6⟩ := INSD.out.on b6; have fz6 : w6.frozen? ⟨at_ (.row y), z * 7 + 5, none⟩ = false := (by rw [b6.frozen zat]; exact fz1 _); have B6 := hid b6; have HN8 := hid hn8; have HI8 := hid hi8; have HM8 := hid hm8; clear hown6 hgr6 b6 hn8 hi8 hm8))
    have N8 := hid (show s8.n = ((N.F x).I y z).args.n + 1 by rw [HN8.out]; simp; rw [AL.out])
    obtain ⟨O, hOv, hodd⟩ := odd_setI (Sep.on SPD.out B6.out) (IND.out.on B6.out) EN.out.2 EN.out.1 IX.out.1 hy hz (OWD.out.on B6.out) (c := 5) (by decide) (InsAt.set5 (INSD.out.on B6.out) s8) rfl (HI8.out.kept ((Kept.refl (fun b => b ≠ at_ (.row y)) w6).setCell (fun h => h rfl) _) (fun b o e h0 => by have := (HM8.out.ge b o e h0).1; omega)) (by have := IX.out.2; show s8.n ≤ 20; have := N8.out; omega) (.inr (.inr (.inr (.inr (.inr (by show s8.n ≠ ((N.F x).I y z).args.n; have := N8.out; omega))))))
    obtain ⟨W9, hW9⟩ : ∃ W9, w6.setCell ⟨at_ (.row y), z * 7 + 5, none⟩ (.slice s8.a s8.n s8.c) = W9 := ⟨_, rfl⟩
    simp only [hW9] at hodd ⊢
    have B9 := hid (show Below w.heap.size w W9 by rw [← hW9]; exact (View.more BWD.out B6.out).setCell (by show _ ≤ at_ (.row y); have := HX.out; have := hatX; omega) _)
    have MB9 := hid (show MBox W9 w.heap.size M by rw [← hW9]; exact (MWD.out.on B6.out).at_block (Below.heap_setCell _ _ _ _ (by show w.heap.size ≠ at_ (.row y); have := HX.out; have := hatX; omega)))
    have NB9 := hid (show MBox W9 nb N by rw [← hW9]; exact (NWD.out.on B6.out).at_block (Below.heap_setCell _ _ _ _ (by show nb ≠ at_ (.row y); have := HAT.out; omega)))
    clear hW9 c0' c1' c2' c3' c4' s0 s1 s2 s3 s4 s5 s6 fz1 gz hw8 u0 u1 u2 u3 u4 u5 u6 fz6 zat z5
    have C1 := odd_calls (HM.out.on B9.out) FT.out.1 hodd hOv
    have C2 := odd_calls' (HM.out.on B9.out) FT.out.1 hodd hOv
    clear hodd hOv
    have k0 : ∀ wx, Below W9.heap.size W9 wx → wx.cell? ⟨w.heap.size, 0, none⟩ = some (.slice M.ext.a M.ext.n M.ext.c) := fun wx h => (MB9.out.on h).c0
    have k1 : ∀ wx, Below W9.heap.size W9 wx → wx.cell? ⟨w.heap.size, 1, none⟩ = some (.slice M.glo.a M.glo.n M.glo.c) := fun wx h => (MB9.out.on h).c1
    have k2 : ∀ wx, Below W9.heap.size W9 wx → wx.cell? ⟨w.heap.size, 2, none⟩ = some (.slice M.tab.a M.tab.n M.tab.c) := fun wx h => (MB9.out.on h).c2
    have k3 : ∀ wx, Below W9.heap.size W9 wx → wx.cell? ⟨w.heap.size, 3, none⟩ = some (.slice M.fns.a M.fns.n M.fns.c) := fun wx h => (MB9.out.on h).c3
    have k4 : ∀ wx, Below W9.heap.size W9 wx → wx.cell? ⟨nb, 0, none⟩ = some (.slice N.ext.a N.ext.n N.ext.c) := fun wx h => (NB9.out.on h).c0
    have k5 : ∀ wx, Below W9.heap.size W9 wx → wx.cell? ⟨nb, 1, none⟩ = some (.slice N.glo.a N.glo.n N.glo.c) := fun wx h => (NB9.out.on h).c1
    have k6 : ∀ wx, Below W9.heap.size W9 wx → wx.cell? ⟨nb, 2, none⟩ = some (.slice N.tab.a N.tab.n N.tab.c) := fun wx h => (NB9.out.on h).c2
    have k7 : ∀ wx, Below W9.heap.size W9 wx → wx.cell? ⟨nb, 3, none⟩ = some (.slice N.fns.a N.fns.n N.fns.c) := fun wx h => (NB9.out.on h).c3
    have st0 : Below W9.heap.size W9 W9.drew := Below.drew (same _)
    have IM9 := hid (HM.out.on B9.out)
    go_region_held3 (fun wx => Below W9.heap.size W9 wx) (first | exact st0 | exact st1 | exact st2 | exact st3 | exact st4)
      (first
        | (go_at_call 13; refine (C1 _ st0).mono ?_; rintro e wa ⟨rfl, hba⟩; have st1 : Below W9.heap.size W9 wa := View.more st0 hba; clear hba C1)
        | (go_at_call 13; refine (C2 _ st1).mono ?_; rintro e wb ⟨rfl, hbb⟩; have st2 : Below W9.heap.size W9 wb := View.more st1 hbb; clear hbb C2)
        | (go_at_call 12; refine (copy_ref M _ (IM9.out.on st2) FT.out.1).mono ?_; rintro e wc ⟨N2, rfl, hN2, hE2, hS2, hbc⟩; have st3 : Below W9.heap.size W9 wc := View.more st2 hbc; have C4 := same_true (IM9.out.on st3) hN2 FT.out.1 (eqM_symm hE2); clear hbc hN2 hE2 hS2)
        | (go_at_call 13; refine (C4 _ (same _)).mono ?_; rintro e wd ⟨rfl, hbd⟩; have st4 : Below W9.heap.size W9 wd := View.more st3 hbd; clear hbd C4))
    clear k0 k1 k2 k3 k4 k5 k6 k7
    go_wp2_with fail
    go_ret
    exact ⟨rfl, View.more B9.out st4⟩
  · clear h8
    have zat : g < WD.heap.size := World.block_lt_of_cell? _ _ c0'
    go_wp2_with fail
    obtain ⟨O, hOv, hodd⟩ := odd_row SPD.out IND.out EN.out.2 EN.out.1 IX.out.1 HGG.out.1 (c := 1) (by decide) (FAt.set1 FATD.out (!(N.F x).out)) rfl rfl rfl rfl rfl rfl rfl (by show (N.F x).name.size ≤ 40; have := NML.out; omega) (.inr (by show (!(N.F x).out) ≠ (N.F x).out; cases (N.F x).out <;> decide))
    obtain ⟨W9, hW9⟩ : ∃ W9, WD.setCell ⟨g, x * 5 + 1, none⟩ (.bool (!(N.F x).out)) = W9 := ⟨_, rfl⟩
    simp only [hW9] at hodd ⊢
    have B9 := hid (show Below w.heap.size w W9 by rw [← hW9]; exact BWD.out.setCell (by show _ ≤ g; have := HX.out; have := hgX; omega) _)
    have MB9 := hid (show MBox W9 w.heap.size M by rw [← hW9]; exact MWD.out.at_block (Below.heap_setCell _ _ _ _ (by show w.heap.size ≠ g; have := HX.out; have := hgX; omega)))
    have NB9 := hid (show MBox W9 nb N by rw [← hW9]; exact NWD.out.at_block (Below.heap_setCell _ _ _ _ (by show nb ≠ g; have := HGN.out; omega)))
    clear hW9 c0' c1' c2' c3' c4' s0 s1 s2 s3 s4 s5 s6 fz1 gz hw8 zat
    have C1 := odd_calls (HM.out.on B9.out) FT.out.1 hodd hOv
    have C2 := odd_calls' (HM.out.on B9.out) FT.out.1 hodd hOv
    clear hodd hOv
    have k0 : ∀ wx, Below W9.heap.size W9 wx → wx.cell? ⟨w.heap.size, 0, none⟩ = some (.slice M.ext.a M.ext.n M.ext.c) := fun wx h => (MB9.out.on h).c0
    have k1 : ∀ wx, Below W9.heap.size W9 wx → wx.cell? ⟨w.heap.size, 1, none⟩ = some (.slice M.glo.a M.glo.n M.glo.c) := fun wx h => (MB9.out.on h).c1
    have k2 : ∀ wx, Below W9.heap.size W9 wx → wx.cell? ⟨w.heap.size, 2, none⟩ = some (.slice M.tab.a M.tab.n M.tab.c) := fun wx h => (MB9.out.on h).c2
    have k3 : ∀ wx, Below W9.heap.size W9 wx → wx.cell? ⟨w.heap.size, 3, none⟩ = some (.slice M.fns.a M.fns.n M.fns.c) := fun wx h => (MB9.out.on h).c3
    have k4 : ∀ wx, Below W9.heap.size W9 wx → wx.cell? ⟨nb, 0, none⟩ = some (.slice N.ext.a N.ext.n N.ext.c) := fun wx h => (NB9.out.on h).c0
    have k5 : ∀ wx, Below W9.heap.size W9 wx → wx.cell? ⟨nb, 1, none⟩ = some (.slice N.glo.a N.glo.n N.glo.c) := fun wx h => (NB9.out.on h).c1
    have k6 : ∀ wx, Below W9.heap.size W9 wx → wx.cell? ⟨nb, 2, none⟩ = some (.slice N.tab.a N.tab.n N.tab.c) := fun wx h => (NB9.out.on h).c2
    have k7 : ∀ wx, Below W9.heap.size W9 wx → wx.cell? ⟨nb, 3, none⟩ = some (.slice N.fns.a N.fns.n N.fns.c) := fun wx h => (NB9.out.on h).c3
    have st0 : Below W9.heap.size W9 W9.drew := Below.drew (same _)
    have IM9 := hid (HM.out.on B9.out)
    go_region_held3 (fun wx => Below W9.heap.size W9 wx) (first | exact st0 | exact st1 | exact st2 | exact st3 | exact st4)
      (first
        | (go_at_call 13; refine (C1 _ st0).mono ?_; rintro e wa ⟨rfl, hba⟩; have st1 : Below W9.heap.size W9 wa := View.more st0 hba; clear hba C1)
        | (go_at_call 13; refine (C2 _ st1).mono ?_; rintro e wb ⟨rfl, hbb⟩; have st2 : Below W9.heap.size W9 wb := View.more st1 hbb; clear hbb C2)
        | (go_at_call 12; refine (copy_ref M _ (IM9.out.on st2) FT.out.1).mono ?_; rintro e wc ⟨N2, rfl, hN2, hE2, hS2, hbc⟩; have st3 : Below W9.heap.size W9 wc := View.more st2 hbc; have C4 := same_true (IM9.out.on st3) hN2 FT.out.1 (eqM_symm hE2); clear hbc hN2 hE2 hS2)
        | (go_at_call 13; refine (C4 _ (same _)).mono ?_; rintro e wd ⟨rfl, hbd⟩; have st4 : Below W9.heap.size W9 wd := View.more st3 hbd; clear hbd C4))
    clear k0 k1 k2 k3 k4 k5 k6 k7
    go_wp2_with fail
    go_ret
    exact ⟨rfl, View.more B9.out st4⟩
  · clear h8
    have hnl : ((N.F x).name).size ≤ 12 := NML.out
    have zat : g < WD.heap.size := World.block_lt_of_cell? _ _ c0'
    go_wp2_with fail
    obtain ⟨O, hOv, hodd⟩ := odd_row SPD.out IND.out EN.out.2 EN.out.1 IX.out.1 HGG.out.1 (c := 0) (by decide) (FAt.set0 FATD.out ((N.F x).name ++ ⟨#[120]⟩)) rfl rfl rfl rfl rfl rfl rfl (by show ((N.F x).name ++ ⟨#[120]⟩ : ByteArray).size ≤ 40; have := NML.out; rw [ByteArray.size_append]; show (N.F x).name.size + 1 ≤ 40; omega) (.inl (fun e => by
      have h3 := congrArg List.length e
      rw [Go.ByteArray.toList_eq, Go.ByteArray.toList_eq] at h3
      simp at h3))
    simp only [Nat.add_zero] at hodd
    obtain ⟨W9, hW9⟩ : ∃ W9, WD.setCell ⟨g, x * 5, none⟩ (.string ((N.F x).name ++ ⟨#[120]⟩)) = W9 := ⟨_, rfl⟩
    simp only [hW9] at hodd ⊢
    have B9 := hid (show Below w.heap.size w W9 by rw [← hW9]; exact BWD.out.setCell (by show _ ≤ g; have := HX.out; have := hgX; omega) _)
    have MB9 := hid (show MBox W9 w.heap.size M by rw [← hW9]; exact MWD.out.at_block (Below.heap_setCell _ _ _ _ (by show w.heap.size ≠ g; have := HX.out; have := hgX; omega)))
    have NB9 := hid (show MBox W9 nb N by rw [← hW9]; exact NWD.out.at_block (Below.heap_setCell _ _ _ _ (by show nb ≠ g; have := HGN.out; omega)))
    clear hW9 c0' c1' c2' c3' c4' s0 s1 s2 s3 s4 s5 s6 fz1 gz hw8 zat
    have C1 := odd_calls (HM.out.on B9.out) FT.out.1 hodd hOv
    have C2 := odd_calls' (HM.out.on B9.out) FT.out.1 hodd hOv
    clear hodd hOv
    have k0 : ∀ wx, Below W9.heap.size W9 wx → wx.cell? ⟨w.heap.size, 0, none⟩ = some (.slice M.ext.a M.ext.n M.ext.c) := fun wx h => (MB9.out.on h).c0
    have k1 : ∀ wx, Below W9.heap.size W9 wx → wx.cell? ⟨w.heap.size, 1, none⟩ = some (.slice M.glo.a M.glo.n M.glo.c) := fun wx h => (MB9.out.on h).c1
    have k2 : ∀ wx, Below W9.heap.size W9 wx → wx.cell? ⟨w.heap.size, 2, none⟩ = some (.slice M.tab.a M.tab.n M.tab.c) := fun wx h => (MB9.out.on h).c2
    have k3 : ∀ wx, Below W9.heap.size W9 wx → wx.cell? ⟨w.heap.size, 3, none⟩ = some (.slice M.fns.a M.fns.n M.fns.c) := fun wx h => (MB9.out.on h).c3
    have k4 : ∀ wx, Below W9.heap.size W9 wx → wx.cell? ⟨nb, 0, none⟩ = some (.slice N.ext.a N.ext.n N.ext.c) := fun wx h => (NB9.out.on h).c0
    have k5 : ∀ wx, Below W9.heap.size W9 wx → wx.cell? ⟨nb, 1, none⟩ = some (.slice N.glo.a N.glo.n N.glo.c) := fun wx h => (NB9.out.on h).c1
    have k6 : ∀ wx, Below W9.heap.size W9 wx → wx.cell? ⟨nb, 2, none⟩ = some (.slice N.tab.a N.tab.n N.tab.c) := fun wx h => (NB9.out.on h).c2
    have k7 : ∀ wx, Below W9.heap.size W9 wx → wx.cell? ⟨nb, 3, none⟩ = some (.slice N.fns.a N.fns.n N.fns.c) := fun wx h => (NB9.out.on h).c3
    have st0 : Below W9.heap.size W9 W9.drew := Below.drew (same _)
    have IM9 := hid (HM.out.on B9.out)
    go_region_held3 (fun wx => Below W9.heap.size W9 wx) (first | exact st0 | exact st1 | exact st2 | exact st3 | exact st4)
      (first
        | (go_at_call 13; refine (C1 _ st0).mono ?_; rintro e wa ⟨rfl, hba⟩; have st1 : Below W9.heap.size W9 wa := View.more st0 hba; clear hba C1)
        | (go_at_call 13; refine (C2 _ st1).mono ?_; rintro e wb ⟨rfl, hbb⟩; have st2 : Below W9.heap.size W9 wb := View.more st1 hbb; clear hbb C2)
        | (go_at_call 12; refine (copy_ref M _ (IM9.out.on st2) FT.out.1).mono ?_; rintro e wc ⟨N2, rfl, hN2, hE2, hS2, hbc⟩; have st3 : Below W9.heap.size W9 wc := View.more st2 hbc; have C4 := same_true (IM9.out.on st3) hN2 FT.out.1 (eqM_symm hE2); clear hbc hN2 hE2 hS2)
        | (go_at_call 13; refine (C4 _ (same _)).mono ?_; rintro e wd ⟨rfl, hbd⟩; have st4 : Below W9.heap.size W9 wd := View.more st3 hbd; clear hbd C4))
    clear k0 k1 k2 k3 k4 k5 k6 k7
    go_wp2_with fail
    go_ret
    exact ⟨rfl, View.more B9.out st4⟩

end Go.Proofs.Ytclioagemjpnoaa.Trn
