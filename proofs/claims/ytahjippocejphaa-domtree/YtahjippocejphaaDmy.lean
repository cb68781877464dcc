/-
  plnlaw5.DomTree answers true.
-/
import Derived.Test.YtahjippocejphaaDmw
import Derived.Test.YtahjippocejphaaDmv
import Derived.Test.YtahjippocejphaaLow
import Derived.Test.YtahjippocejphaaDmj
import Derived.Deep.RegionHeld3
import Derived.BigQuiet
import Derived.Deep.QuietTactic
namespace Go.Proofs.Ytahjippocejphaa.Dm
open Go.RowKit View Rd Copy Num Ty Srt Go.Proofs.Ytahjippocejphaa.Flo Go.Proofs.Ytahjippocejphaa.Lt

set_option linter.unusedVariables false

set_option maxRecDepth 10000 in
set_option maxHeartbeats 4000000 in
theorem domTree_eq (F : FV) (a b c : Int) (w : World) (hF : In w F) (hj : Jng F) (hab : red a F.blk.n = red b F.blk.n) :
    Calls Try.prog 7 #[F.val, .int .i64 a, .int .i64 b, .int .i64 c] w fun e w' => e = .returned (.bool true) ∧ Below w.heap.size w w' := by
  have HF := hid hF
  have HJ := hid hj
  have HAB := hid hab
  clear hF hj hab
  go_enter Try.func7, Try.ntmps7
  go_wp2_with fail
  refine (first_any _).mono ?_
  rintro e w1 ⟨rfl, hb1⟩
  have f1 : FuncAt w1 w.heap.size F := (FuncAt.alloc w F).on hb1
  have hb1' := View.more (new (same w) _) hb1
  have B1 := hid hb1'
  have F1 := hid f1
  obtain ⟨c0, c1, c2, c3, c4⟩ := f1
  clear hb1 hb1'
  go_wp2_with fail
  refine (light_any F _ (HF.out.on B1.out)).mono ?_
  rintro e w2 ⟨r, rfl, hr, hb2⟩
  have B2 := hid (View.more B1.out hb2)
  have F2 := hid (F1.out.on hb2)
  clear c0 c1 c2 c3 c4 hb2 B1 F1
  cases r with
  | false =>
    obtain ⟨c0, c1, c2, c3, c4⟩ := F2.out
    go_wp2_with fail
    refine (first_any _).mono ?_
    rintro e w3 ⟨rfl, hb3⟩
    go_wp2_with fail
    go_ret
    exact ⟨rfl, View.more B2.out hb3⟩
  | true =>
    have hl := hr rfl
    have HL := hid hl
    have gb := hl.blk
    clear hl hr
    obtain ⟨c0, c1, c2, c3, c4⟩ := F2.out
    by_cases h0 : F.blk.n = 0
    · have t0 : ((F.blk.n : Int) == 0) = true := by simp [h0]
      have H0 := hid h0
      clear h0
      go_wp2_with fail
      refine (first_any _).mono ?_
      rintro e w3 ⟨rfl, hb3⟩
      go_wp2_with fail
      go_ret
      exact ⟨rfl, View.more B2.out hb3⟩
    have t0 : ((F.blk.n : Int) == 0) = false := by simp [h0]
    obtain ⟨x, rx, hx, a0, ha0, hx0⟩ := red16e a (show 0 < F.blk.n by omega)
    obtain ⟨y, ry, hy, b0, hb0, hy0⟩ := red16e b (show 0 < F.blk.n by omega)
    obtain ⟨z, rz, hz, c0', hc0, hz0⟩ := red16e c (show 0 < F.blk.n by omega)
    have hn0 : ((F.blk.n : Int) = 0) = False := by simp; omega
    go_wp2_with fail
    go_region
    obtain ⟨W, hW⟩ : ∃ W, w2.drew = W := ⟨_, rfl⟩
    have BW := hid (show Below w.heap.size w W by rw [← hW]; exact Below.drew B2.out)
    have FW := hid (show FuncAt W w.heap.size F by rw [← hW]; exact F2.out.on (Below.drew (same _)))
    rw [hW]
    clear hW c0 c1 c2 c3 c4 F2 B2 ha0 hx0 hb0 hy0 hc0 hz0 t0 hn0
    have n0 : 0 < F.blk.n := by omega
    have hxy : x = y := by rw [← rx, ← ry]; exact HAB.out
    have HXY := hid hxy
    clear h0 rx ry rz hxy HAB
    have IW := hid (HF.out.on BW.out)
    obtain ⟨L, par, hgr⟩ := gro_ex HL.out n0
    have GR := hid hgr
    clear hgr
    have A0 : ∀ wx, Below W.heap.size W wx → wx.cell? ⟨w.heap.size, 0, none⟩ = some (.string F.name) := fun wx h => cell_on h FW.out.c0
    have A1 : ∀ wx, Below W.heap.size W wx → wx.cell? ⟨w.heap.size, 1, none⟩ = some (.bool F.out) := fun wx h => cell_on h FW.out.c1
    have A2 : ∀ wx, Below W.heap.size W wx → wx.cell? ⟨w.heap.size, 2, none⟩ = some (.slice F.par.a F.par.n F.par.c) := fun wx h => cell_on h FW.out.c2
    have A3 : ∀ wx, Below W.heap.size W wx → wx.cell? ⟨w.heap.size, 3, none⟩ = some (.int .i64 F.res) := fun wx h => cell_on h FW.out.c3
    have A4 : ∀ wx, Below W.heap.size W wx → wx.cell? ⟨w.heap.size, 4, none⟩ = some (.slice F.blk.a F.blk.n F.blk.c) := fun wx h => cell_on h FW.out.c4
    have st0 : Below W.heap.size W W.drew := Below.drew (same _)
    go_wp2_with fail
    go_region_held3 (fun wx => Below W.heap.size W wx) (first | exact st0 | exact st1 | exact st2)
      (first
        | (go_at_call 28; refine (over_any F _ (IW.out.on st0) HL.out HJ.out n0).mono ?_; rintro e wa ⟨go, co, ov, rfl, hro, hov, hgo, hba⟩; have st1 : Below W.heap.size W wa := View.more st0 hba; have RO := hid hro; have OV := hid hov; clear hro hov hgo hba)
        | (go_at_call 31; refine (under_any F _ (IW.out.on st1) HL.out HJ.out n0).mono ?_; rintro e wb ⟨M, R, ov', rfl, hpv, hov', hM, hbb⟩; have st2 : Below W.heap.size W wb := View.more st1 hbb; have PV := hid hpv; have RO2 := hid (RO.out.on hbb); have OU := hid (overIs_unique HL.out OV.out hov' y hy); clear hpv hov' hM hbb))
    have FB := hid (FW.out.on st2)
    have IB := hid (IW.out.on st2)
    have BB := hid (View.more BW.out st2)
    clear A0 A1 A2 A3 A4 st0 st1 st2 FW IW BW RO
    have A0 : ∀ wx, Below wb.heap.size wb wx → wx.cell? ⟨w.heap.size, 0, none⟩ = some (.string F.name) := fun wx h => cell_on h FB.out.c0
    have A1 : ∀ wx, Below wb.heap.size wb wx → wx.cell? ⟨w.heap.size, 1, none⟩ = some (.bool F.out) := fun wx h => cell_on h FB.out.c1
    have A2 : ∀ wx, Below wb.heap.size wb wx → wx.cell? ⟨w.heap.size, 2, none⟩ = some (.slice F.par.a F.par.n F.par.c) := fun wx h => cell_on h FB.out.c2
    have A3 : ∀ wx, Below wb.heap.size wb wx → wx.cell? ⟨w.heap.size, 3, none⟩ = some (.int .i64 F.res) := fun wx h => cell_on h FB.out.c3
    have A4 : ∀ wx, Below wb.heap.size wb wx → wx.cell? ⟨w.heap.size, 4, none⟩ = some (.slice F.blk.a F.blk.n F.blk.c) := fun wx h => cell_on h FB.out.c4
    have D0 : ∀ wx, Below wb.heap.size wb wx → wx.cell? ⟨go, y, none⟩ = some (.int .i64 (ov y)) := fun wx h => cell_on h (RO2.out.cell y hy)
    have D1 : ∀ wx, Below wb.heap.size wb wx → wx.cell? ⟨M, x, none⟩ = some (.slice (R x).a (R x).n (R x).c) := fun wx h => cell_on h (PV.out.row.cell hx)
    have i1 := int_at (g := go) (c := co) hy
    have i2 := row_at (M := M) hx
    have hul := undL_le ov' F.blk.n x
    obtain ⟨p, hp⟩ : ∃ p, (ov y == (x : Int)) = p := ⟨_, rfl⟩
    have hpp : (p != p) = false := by simp
    obtain ⟨si, sn⟩ := Pv.ints PV.out hx (by omega)
    have SI := hid si
    have SN := hid sn
    have HP := hid (show y ∈ undL ov' F.blk.n x ↔ p = true by rw [← hp, mem_undL, ← OU.out]; simp [hy])
    have sn16 : (R x).n ≤ 1000 := by omega
    have st0 : Below wb.heap.size wb wb.drew := Below.drew (same _)
    clear si sn hul
    go_wp2_with fail
    go_region_held3 (fun wx => Below wb.heap.size wb wx) (first | exact st0 | exact st1)
      (first
        | (go_at_call 36; refine (in_any (R x) _ y _ (SI.out.on st0) sn16).mono ?_; rintro e wc ⟨r1, rfl, hr1, hbc⟩; obtain rfl : r1 = p := (bool_iff (hr1.trans ((ex_mem SN.out y).trans HP.out))); have st1 : Below wb.heap.size wb wc := View.more st0 hbc; clear hr1 hbc))
    have CC := hid st1
    clear st0 st1 hpp
    have st0 : Below wb.heap.size wb wc.drew := Below.drew CC.out
    go_wp2_with fail
    go_region_held3 (fun wx => Below wb.heap.size wb wx) (first | exact st0 | exact st1 | exact st2 | exact st3)
      (first
        | (go_at_call 25; have hq := st2; refine (dom_any F x z _ (IB.out.on st2) HL.out HJ.out).mono ?_; rintro e wf ⟨pz, rfl, hpz, hbf⟩; have PZ := hid (ans_dom hx hz hpz); have st3 : Below wb.heap.size wb wf := View.more st2 hbf; clear hpz hbf hq)
        | (go_at_call 25; have hq := st1; refine (dom_any F y z _ (IB.out.on st1) HL.out HJ.out).mono ?_; rintro e we ⟨py, rfl, hpy, hbe⟩; have PY := hid (ans_dom hy hz hpy); have st2 : Below wb.heap.size wb we := View.more st1 hbe; clear hpy hbe hq)
        | (go_at_call 25; refine (dom_any F x y _ (IB.out.on st0) HL.out HJ.out).mono ?_; rintro e wd ⟨px, rfl, hpx, hbd⟩; have PX := hid (ans_dom hx hy hpx); have st1 : Below wb.heap.size wb wd := View.more st0 hbd; clear hpx hbd))
    have CF := hid st3
    clear st0 st1 st2 st3 CC i2 hp D1 SI SN HP PV sn16
    rcases overIs_cases OV.out hy with hm | ⟨a', ha', hoa⟩
    · rw [hm] at D0
      have HM := hid hm
      clear hm
      have t1 : ((x : Int) != (y : Int)) = false := by simp [HXY.out]
      have t5 : ((x : Int) == (y : Int)) = true := by simp [HXY.out]
      cases px with
      | false =>
        cases py with
        | false =>
          cases pz with
          | false =>
            have QX := hid (show ¬ DomR F x y from fun h => absurd (PX.out.2 h) (by simp))
            have QY := hid (show ¬ DomR F y z from fun h => absurd (PY.out.2 h) (by simp))
            have QZ := hid (show ¬ DomR F x z from fun h => absurd (PZ.out.2 h) (by simp))
            clear PX PY PZ
            obtain ⟨c0, c1, c2, c3, c4⟩ := FB.out.on CF.out
            have e1 := D0 _ CF.out
            by_cases hy0 : y = 0
            · have t2 : ((y : Int) == 0) = true := by simp [hy0]
              have Y0 := hid hy0
              clear hy0
              go_wp2_with fail
              go_ret
              exact ⟨rfl, View.more BB.out CF.out⟩
            have t2 : ((y : Int) == 0) = false := by simp; omega
            go_wp2_with fail
            refine (dom_any F y y _ (IB.out.on CF.out) HL.out HJ.out).mono ?_
            rintro e wk ⟨pr, rfl, hpr, hbk⟩
            obtain rfl : pr = false := by
              cases pr with
              | false => rfl
              | true =>
                obtain ⟨a2, _, ha2, _⟩ := OV.out.some y hy hy0 ((ans_dom hy hy hpr).1 rfl).1
                have := HM.out
                omega
            have CK := hid (View.more CF.out hbk)
            clear hpr hbk c0 c1 c2 c3 c4
            go_wp2_with fail
            go_ret
            exact ⟨rfl, View.more BB.out CK.out⟩
          | true =>
            have QX := hid (show ¬ DomR F x y from fun h => absurd (PX.out.2 h) (by simp))
            have QY := hid (show ¬ DomR F y z from fun h => absurd (PY.out.2 h) (by simp))
            have QZ := hid (PZ.out.1 rfl)
            clear PX PY PZ
            obtain ⟨c0, c1, c2, c3, c4⟩ := FB.out.on CF.out
            have e1 := D0 _ CF.out
            by_cases hy0 : y = 0
            · have t2 : ((y : Int) == 0) = true := by simp [hy0]
              have Y0 := hid hy0
              clear hy0
              go_wp2_with fail
              go_ret
              exact ⟨rfl, View.more BB.out CF.out⟩
            have t2 : ((y : Int) == 0) = false := by simp; omega
            go_wp2_with fail
            refine (dom_any F y y _ (IB.out.on CF.out) HL.out HJ.out).mono ?_
            rintro e wk ⟨pr, rfl, hpr, hbk⟩
            obtain rfl : pr = false := by
              cases pr with
              | false => rfl
              | true =>
                obtain ⟨a2, _, ha2, _⟩ := OV.out.some y hy hy0 ((ans_dom hy hy hpr).1 rfl).1
                have := HM.out
                omega
            have CK := hid (View.more CF.out hbk)
            clear hpr hbk c0 c1 c2 c3 c4
            go_wp2_with fail
            go_ret
            exact ⟨rfl, View.more BB.out CK.out⟩
        | true =>
          cases pz with
          | false =>
            have QX := hid (show ¬ DomR F x y from fun h => absurd (PX.out.2 h) (by simp))
            have QY := hid (PY.out.1 rfl)
            have QZ := hid (show ¬ DomR F x z from fun h => absurd (PZ.out.2 h) (by simp))
            clear PX PY PZ
            obtain ⟨c0, c1, c2, c3, c4⟩ := FB.out.on CF.out
            have e1 := D0 _ CF.out
            by_cases hy0 : y = 0
            · have t2 : ((y : Int) == 0) = true := by simp [hy0]
              have Y0 := hid hy0
              clear hy0
              go_wp2_with fail
              go_ret
              exact ⟨rfl, View.more BB.out CF.out⟩
            have t2 : ((y : Int) == 0) = false := by simp; omega
            go_wp2_with fail
            refine (dom_any F y y _ (IB.out.on CF.out) HL.out HJ.out).mono ?_
            rintro e wk ⟨pr, rfl, hpr, hbk⟩
            obtain rfl : pr = false := by
              cases pr with
              | false => rfl
              | true =>
                obtain ⟨a2, _, ha2, _⟩ := OV.out.some y hy hy0 ((ans_dom hy hy hpr).1 rfl).1
                have := HM.out
                omega
            have CK := hid (View.more CF.out hbk)
            clear hpr hbk c0 c1 c2 c3 c4
            go_wp2_with fail
            go_ret
            exact ⟨rfl, View.more BB.out CK.out⟩
          | true =>
            have QX := hid (show ¬ DomR F x y from fun h => absurd (PX.out.2 h) (by simp))
            have QY := hid (PY.out.1 rfl)
            have QZ := hid (PZ.out.1 rfl)
            clear PX PY PZ
            obtain ⟨c0, c1, c2, c3, c4⟩ := FB.out.on CF.out
            have e1 := D0 _ CF.out
            go_wp2_with fail
            refine (dom_any F y x _ (IB.out.on CF.out) HL.out HJ.out).mono ?_
            rintro e wg ⟨pr, rfl, hpr, hbg⟩
            obtain rfl : pr = true := (ans_dom hy hx hpr).2 (by
              rcases dom_chain QZ.out QY.out GR.out with q | q
              · exact absurd q QX.out
              · exact q)
            have CG := hid (View.more CF.out hbg)
            clear hpr hbg c0 c1 c2 c3 c4 e1
            obtain ⟨c0, c1, c2, c3, c4⟩ := FB.out.on CG.out
            have e1 := D0 _ CG.out
            by_cases hy0 : y = 0
            · have t2 : ((y : Int) == 0) = true := by simp [hy0]
              have Y0 := hid hy0
              clear hy0
              go_wp2_with fail
              go_ret
              exact ⟨rfl, View.more BB.out CG.out⟩
            have t2 : ((y : Int) == 0) = false := by simp; omega
            go_wp2_with fail
            refine (dom_any F y y _ (IB.out.on CG.out) HL.out HJ.out).mono ?_
            rintro e wk ⟨pr, rfl, hpr, hbk⟩
            obtain rfl : pr = false := by
              cases pr with
              | false => rfl
              | true =>
                obtain ⟨a2, _, ha2, _⟩ := OV.out.some y hy hy0 ((ans_dom hy hy hpr).1 rfl).1
                have := HM.out
                omega
            have CK := hid (View.more CG.out hbk)
            clear hpr hbk c0 c1 c2 c3 c4
            go_wp2_with fail
            go_ret
            exact ⟨rfl, View.more BB.out CK.out⟩
      | true =>
        cases py with
        | false =>
          cases pz with
          | false =>
            have QX := hid (PX.out.1 rfl)
            have QY := hid (show ¬ DomR F y z from fun h => absurd (PY.out.2 h) (by simp))
            have QZ := hid (show ¬ DomR F x z from fun h => absurd (PZ.out.2 h) (by simp))
            clear PX PY PZ
            obtain ⟨c0, c1, c2, c3, c4⟩ := FB.out.on CF.out
            have e1 := D0 _ CF.out
            by_cases hy0 : y = 0
            · have t2 : ((y : Int) == 0) = true := by simp [hy0]
              have Y0 := hid hy0
              clear hy0
              go_wp2_with fail
              go_ret
              exact ⟨rfl, View.more BB.out CF.out⟩
            have t2 : ((y : Int) == 0) = false := by simp; omega
            go_wp2_with fail
            refine (dom_any F y y _ (IB.out.on CF.out) HL.out HJ.out).mono ?_
            rintro e wk ⟨pr, rfl, hpr, hbk⟩
            obtain rfl : pr = false := by
              cases pr with
              | false => rfl
              | true =>
                obtain ⟨a2, _, ha2, _⟩ := OV.out.some y hy hy0 ((ans_dom hy hy hpr).1 rfl).1
                have := HM.out
                omega
            have CK := hid (View.more CF.out hbk)
            clear hpr hbk c0 c1 c2 c3 c4
            go_wp2_with fail
            go_ret
            exact ⟨rfl, View.more BB.out CK.out⟩
          | true =>
            have QX := hid (PX.out.1 rfl)
            have QY := hid (show ¬ DomR F y z from fun h => absurd (PY.out.2 h) (by simp))
            have QZ := hid (PZ.out.1 rfl)
            clear PX PY PZ
            obtain ⟨c0, c1, c2, c3, c4⟩ := FB.out.on CF.out
            have e1 := D0 _ CF.out
            by_cases hy0 : y = 0
            · have t2 : ((y : Int) == 0) = true := by simp [hy0]
              have Y0 := hid hy0
              clear hy0
              go_wp2_with fail
              go_ret
              exact ⟨rfl, View.more BB.out CF.out⟩
            have t2 : ((y : Int) == 0) = false := by simp; omega
            go_wp2_with fail
            refine (dom_any F y y _ (IB.out.on CF.out) HL.out HJ.out).mono ?_
            rintro e wk ⟨pr, rfl, hpr, hbk⟩
            obtain rfl : pr = false := by
              cases pr with
              | false => rfl
              | true =>
                obtain ⟨a2, _, ha2, _⟩ := OV.out.some y hy hy0 ((ans_dom hy hy hpr).1 rfl).1
                have := HM.out
                omega
            have CK := hid (View.more CF.out hbk)
            clear hpr hbk c0 c1 c2 c3 c4
            go_wp2_with fail
            go_ret
            exact ⟨rfl, View.more BB.out CK.out⟩
        | true =>
          cases pz with
          | false =>
            have QX := hid (PX.out.1 rfl)
            have QY := hid (PY.out.1 rfl)
            have QZ := hid (show ¬ DomR F x z from fun h => absurd (PZ.out.2 h) (by simp))
            clear PX PY PZ
            exact absurd (dom_trans QX.out QY.out GR.out) QZ.out
          | true =>
            have QX := hid (PX.out.1 rfl)
            have QY := hid (PY.out.1 rfl)
            have QZ := hid (PZ.out.1 rfl)
            clear PX PY PZ
            obtain ⟨c0, c1, c2, c3, c4⟩ := FB.out.on CF.out
            have e1 := D0 _ CF.out
            by_cases hy0 : y = 0
            · have t2 : ((y : Int) == 0) = true := by simp [hy0]
              have Y0 := hid hy0
              clear hy0
              go_wp2_with fail
              go_ret
              exact ⟨rfl, View.more BB.out CF.out⟩
            have t2 : ((y : Int) == 0) = false := by simp; omega
            go_wp2_with fail
            refine (dom_any F y y _ (IB.out.on CF.out) HL.out HJ.out).mono ?_
            rintro e wk ⟨pr, rfl, hpr, hbk⟩
            obtain rfl : pr = false := by
              cases pr with
              | false => rfl
              | true =>
                obtain ⟨a2, _, ha2, _⟩ := OV.out.some y hy hy0 ((ans_dom hy hy hpr).1 rfl).1
                have := HM.out
                omega
            have CK := hid (View.more CF.out hbk)
            clear hpr hbk c0 c1 c2 c3 c4
            go_wp2_with fail
            go_ret
            exact ⟨rfl, View.more BB.out CK.out⟩
    · rw [hoa] at D0
      have HA := hid hoa
      have hy0 : y ≠ 0 := fun e => by have := OV.out.none y hy (.inl e); omega
      have NB := hid (show NearB F y a' from by
        by_cases q : Go.Proofs.Ytahjippocejphaa.Flo.Way (su F) 0 y
        · obtain ⟨a2, _, h2, hn2⟩ := OV.out.some y hy hy0 q
          have e : a2 = a' := by omega
          rw [← e]; exact hn2
        · have := OV.out.none y hy (.inr q); omega)
      have t3 : ((a' : Int) != (y : Int)) = true := by simp; have := NB.out.ne; omega
      have t4 : decide ((a' : Int) < F.blk.n) = true := by simp; omega
      clear hoa hy0
      have t1 : ((x : Int) != (y : Int)) = false := by simp [HXY.out]
      have t5 : ((x : Int) == (y : Int)) = true := by simp [HXY.out]
      cases px with
      | false =>
        cases py with
        | false =>
          cases pz with
          | false =>
            have QX := hid (show ¬ DomR F x y from fun h => absurd (PX.out.2 h) (by simp))
            have QY := hid (show ¬ DomR F y z from fun h => absurd (PY.out.2 h) (by simp))
            have QZ := hid (show ¬ DomR F x z from fun h => absurd (PZ.out.2 h) (by simp))
            clear PX PY PZ
            obtain ⟨c0, c1, c2, c3, c4⟩ := FB.out.on CF.out
            have e1 := D0 _ CF.out
            go_wp2_with fail
            have st0 : Below wb.heap.size wb wf.drew := Below.drew CF.out
            clear c0 c1 c2 c3 c4 e1
            refine wp_region_noPanic ?_
            refine wp_region_held_drew (S := fun wx => Below wb.heap.size wb wx) (by kernel_rfl) st0 (fun hS => ?_)
            refine takeAt (i := 0) (d := some 136) (v := ?v01_0) rfl (by rfl) (by kernel_rfl) (by kernel_rfl) (by kernel_rfl) (fun _ _ _ h => h) (Or.inl ⟨by rfl, ?y01_0⟩) hS ?_
            case y01_0 => intro wx hSw; (go_simp) <;> with_reducible rfl
            simp only [Act.put, List.setIfInBounds_toArray, List.set_cons_zero, List.set_cons_succ]
            refine takeAt (i := 1) (d := some 137) (v := ?v01_1) rfl (by rfl) (by kernel_rfl) (by kernel_rfl) (by kernel_rfl) (fun _ _ _ h => h) (Or.inl ⟨by rfl, ?y01_1⟩) hS ?_
            case y01_1 => intro wx hSw; (go_simp) <;> with_reducible rfl
            simp only [Act.put, List.setIfInBounds_toArray, List.set_cons_zero, List.set_cons_succ]
            refine takeAt (i := 2) (d := some 138) (v := ?v01_2) rfl (by rfl) (by kernel_rfl) (by kernel_rfl) (by kernel_rfl) (fun _ _ _ h => h) (Or.inl ⟨by rfl, ?y01_2⟩) hS ?_
            case y01_2 => intro wx hSw; (go_simp) <;> with_reducible rfl
            simp only [Act.put, List.setIfInBounds_toArray, List.set_cons_zero, List.set_cons_succ]
            refine takeAt (i := 3) (d := some 139) (v := ?v01_3) rfl (by rfl) (by kernel_rfl) (by kernel_rfl) (by kernel_rfl) (fun _ _ _ h => h) (Or.inl ⟨by rfl, ?y01_3⟩) hS ?_
            case y01_3 => intro wx hSw; (go_simp) <;> with_reducible rfl
            simp only [Act.put, List.setIfInBounds_toArray, List.set_cons_zero, List.set_cons_succ]
            refine takeAt (i := 4) (d := some 140) (v := ?v01_4) rfl (by rfl) (by kernel_rfl) (by kernel_rfl) (by kernel_rfl) (fun _ _ _ h => h) (Or.inl ⟨by rfl, ?y01_4⟩) hS ?_
            case y01_4 => intro wx hSw; (go_simp) <;> with_reducible rfl
            simp only [Act.put, List.setIfInBounds_toArray, List.set_cons_zero, List.set_cons_succ]
            refine takeAt (i := 5) (d := some 141) (v := ?v01_5) rfl (by rfl) (by kernel_rfl) (by kernel_rfl) (by kernel_rfl) (fun _ _ _ h => h) (Or.inl ⟨by rfl, ?y01_5⟩) hS ?_
            case y01_5 => intro wx hSw; (go_simp) <;> with_reducible rfl
            simp only [Act.put, List.setIfInBounds_toArray, List.set_cons_zero, List.set_cons_succ]
            refine takeAt (i := 6) (d := some 142) (v := ?v01_6) rfl (by rfl) (by kernel_rfl) (by kernel_rfl) (by kernel_rfl) (fun _ _ _ h => h) (Or.inl ⟨by rfl, ?y01_6⟩) hS ?_
            case y01_6 => intro wx hSw; (go_simp) <;> with_reducible rfl
            simp only [Act.put, List.setIfInBounds_toArray, List.set_cons_zero, List.set_cons_succ]
            refine takeAt (i := 7) (d := some 143) (v := ?v01_7) rfl (by rfl) (by kernel_rfl) (by kernel_rfl) (by kernel_rfl) (fun _ _ _ h => h) (Or.inl ⟨by rfl, ?y01_7⟩) hS ?_
            case y01_7 => intro wx hSw; (go_simp) <;> with_reducible rfl
            simp only [Act.put, List.setIfInBounds_toArray, List.set_cons_zero, List.set_cons_succ]
            refine takeAt (i := 8) (d := some 144) (v := ?v01_8) rfl (by rfl) (by kernel_rfl) (by kernel_rfl) (by kernel_rfl) (fun _ _ _ h => h) (Or.inl ⟨by rfl, ?y01_8⟩) hS ?_
            case y01_8 => intro wx hSw; (go_simp) <;> with_reducible rfl
            simp only [Act.put, List.setIfInBounds_toArray, List.set_cons_zero, List.set_cons_succ]
            refine takeAt (i := 9) (d := some 145) (v := ?v01_9) rfl (by rfl) (by kernel_rfl) (by kernel_rfl) (by kernel_rfl) (fun _ _ _ h => h) (Or.inl ⟨by rfl, ?y01_9⟩) hS ?_
            case y01_9 => intro wx hSw; (go_simp) <;> with_reducible rfl
            simp only [Act.put, List.setIfInBounds_toArray, List.set_cons_zero, List.set_cons_succ]
            refine takeAt (i := 10) (d := some 146) (v := ?v01_10) rfl (by rfl) (by kernel_rfl) (by kernel_rfl) (by kernel_rfl) (fun _ _ _ h => h) (Or.inl ⟨by rfl, ?y01_10⟩) hS ?_
            case y01_10 => intro wx hSw; (go_simp) <;> with_reducible rfl
            simp only [Act.put, List.setIfInBounds_toArray, List.set_cons_zero, List.set_cons_succ]
            refine takeAt (i := 11) (d := some 147) (v := ?v01_11) rfl (by rfl) (by kernel_rfl) (by kernel_rfl) (by kernel_rfl) (fun _ _ _ h => h) (Or.inl ⟨by rfl, ?y01_11⟩) hS ?_
            case y01_11 => intro wx hSw; (go_simp) <;> with_reducible rfl
            simp only [Act.put, List.setIfInBounds_toArray, List.set_cons_zero, List.set_cons_succ]
            refine takeAt (i := 12) (d := some 148) (v := ?v01_12) rfl (by rfl) (by kernel_rfl) (by kernel_rfl) (by kernel_rfl) (fun _ _ _ h => h) (Or.inl ⟨by rfl, ?y01_12⟩) hS ?_
            case y01_12 => intro wx hSw; (go_simp) <;> with_reducible rfl
            simp only [Act.put, List.setIfInBounds_toArray, List.set_cons_zero, List.set_cons_succ]
            refine takeAt (i := 13) (d := some 149) (v := ?v01_13) rfl (by rfl) (by kernel_rfl) (by kernel_rfl) (by kernel_rfl) (fun _ _ _ h => h) (Or.inl ⟨by rfl, ?y01_13⟩) hS ?_
            case y01_13 => intro wx hSw; (go_simp) <;> with_reducible rfl
            simp only [Act.put, List.setIfInBounds_toArray, List.set_cons_zero, List.set_cons_succ]
            refine takeAt (i := 14) (d := some 150) (v := ?v01_14) rfl (by rfl) (by kernel_rfl) (by kernel_rfl) (by kernel_rfl) (fun _ _ _ h => h) (Or.inl ⟨by rfl, ?y01_14⟩) hS ?_
            case y01_14 => intro wx hSw; (go_simp) <;> with_reducible rfl
            simp only [Act.put, List.setIfInBounds_toArray, List.set_cons_zero, List.set_cons_succ]
            refine takeAt (i := 15) (d := some 151) (v := ?v01_15) rfl (by rfl) (by kernel_rfl) (by kernel_rfl) (by kernel_rfl) (fun _ _ _ h => h) (Or.inl ⟨by rfl, ?y01_15⟩) hS ?_
            case y01_15 => intro wx hSw; (go_simp) <;> with_reducible rfl
            simp only [Act.put, List.setIfInBounds_toArray, List.set_cons_zero, List.set_cons_succ]
            refine takeAt (i := 16) (d := some 152) (v := ?v01_16) rfl (by rfl) (by kernel_rfl) (by kernel_rfl) (by kernel_rfl) (fun _ _ _ h => h) (Or.inl ⟨by rfl, ?y01_16⟩) hS ?_
            case y01_16 => intro wx hSw; (go_simp) <;> with_reducible rfl
            simp only [Act.put, List.setIfInBounds_toArray, List.set_cons_zero, List.set_cons_succ]
            refine takeAt (i := 17) (d := some 153) (v := ?v01_17) rfl (by rfl) (by kernel_rfl) (by kernel_rfl) (by kernel_rfl) (fun _ _ _ h => h) (Or.inl ⟨by rfl, ?y01_17⟩) hS ?_
            case y01_17 => intro wx hSw; (go_simp) <;> with_reducible rfl
            simp only [Act.put, List.setIfInBounds_toArray, List.set_cons_zero, List.set_cons_succ]
            refine takeAt (i := 18) (d := some 154) (v := ?v01_18) rfl (by rfl) (by kernel_rfl) (by kernel_rfl) (by kernel_rfl) (fun _ _ _ h => h) (Or.inl ⟨by rfl, ?y01_18⟩) hS ?_
            case y01_18 => intro wx hSw; (go_simp) <;> with_reducible rfl
            simp only [Act.put, List.setIfInBounds_toArray, List.set_cons_zero, List.set_cons_succ]
            refine takeAt (i := 19) (d := some 155) (v := ?v01_19) rfl (by rfl) (by kernel_rfl) (by kernel_rfl) (by kernel_rfl) (fun _ _ _ h => h) (Or.inl ⟨by rfl, ?y01_19⟩) hS ?_
            case y01_19 => intro wx hSw; (go_simp) <;> with_reducible rfl
            simp only [Act.put, List.setIfInBounds_toArray, List.set_cons_zero, List.set_cons_succ]
            refine takeAt (i := 20) (d := some 156) (v := ?v01_20) rfl (by rfl) (by kernel_rfl) (by kernel_rfl) (by kernel_rfl) (fun _ _ _ h => h) (Or.inl ⟨by rfl, ?y01_20⟩) hS ?_
            case y01_20 => intro wx hSw; (go_simp) <;> with_reducible rfl
            simp only [Act.put, List.setIfInBounds_toArray, List.set_cons_zero, List.set_cons_succ]
            refine wpAnyH_ready (rs := [21]) (by kernel_rfl) (by simp) ?_
            refine AllReadyH.cons rfl (fun K hK => ?_) AllReadyH.nil
            go_simp
            refine (dom_any F a' y _ (IB.out.on st0) HL.out HJ.out).mono ?_
            rintro e wh ⟨pr, rfl, hpr, hbh⟩
            obtain rfl : pr = true := (ans_dom ha' hy hpr).2 NB.out.dom
            have st1 : Below wb.heap.size wb wh := View.more st0 hbh
            clear hpr hbh
            go_wp2_with fail
            refine hK.out _ _ st1 (fun _ => ?_)
            clear hK K
            replace hS := st1
            try simp only [Act.put, List.setIfInBounds_toArray, List.set_cons_zero, List.set_cons_succ]
            refine takeAt (i := 22) (d := some 158) (v := ?v01_22) rfl (by rfl) (by kernel_rfl) (by kernel_rfl) (by kernel_rfl) (fun _ _ _ h => h) (Or.inl ⟨by rfl, ?y01_22⟩) hS ?_
            case y01_22 => intro wx hSw; (go_simp) <;> with_reducible rfl
            simp only [Act.put, List.setIfInBounds_toArray, List.set_cons_zero, List.set_cons_succ]
            refine takeAt (i := 23) (d := some 159) (v := ?v01_23) rfl (by rfl) (by kernel_rfl) (by kernel_rfl) (by kernel_rfl) (fun _ _ _ h => h) (Or.inl ⟨by rfl, ?y01_23⟩) hS ?_
            case y01_23 => intro wx hSw; (go_simp) <;> with_reducible rfl
            simp only [Act.put, List.setIfInBounds_toArray, List.set_cons_zero, List.set_cons_succ]
            refine takeAt (i := 24) (d := some 160) (v := ?v01_24) rfl (by rfl) (by kernel_rfl) (by kernel_rfl) (by kernel_rfl) (fun _ _ _ h => h) (Or.inl ⟨by rfl, ?y01_24⟩) hS ?_
            case y01_24 => intro wx hSw; (go_simp) <;> with_reducible rfl
            simp only [Act.put, List.setIfInBounds_toArray, List.set_cons_zero, List.set_cons_succ]
            refine takeAt (i := 25) (d := some 161) (v := ?v01_25) rfl (by rfl) (by kernel_rfl) (by kernel_rfl) (by kernel_rfl) (fun _ _ _ h => h) (Or.inl ⟨by rfl, ?y01_25⟩) hS ?_
            case y01_25 => intro wx hSw; (go_simp) <;> with_reducible rfl
            simp only [Act.put, List.setIfInBounds_toArray, List.set_cons_zero, List.set_cons_succ]
            refine takeAt (i := 26) (d := some 162) (v := ?v01_26) rfl (by rfl) (by kernel_rfl) (by kernel_rfl) (by kernel_rfl) (fun _ _ _ h => h) (Or.inl ⟨by rfl, ?y01_26⟩) hS ?_
            case y01_26 => intro wx hSw; (go_simp) <;> with_reducible rfl
            simp only [Act.put, List.setIfInBounds_toArray, List.set_cons_zero, List.set_cons_succ]
            refine takeAt (i := 27) (d := some 163) (v := undef) rfl (by rfl) (by kernel_rfl) (by kernel_rfl) (by kernel_rfl) (fun _ _ _ h => h) (Or.inr ⟨by rfl, rfl⟩) hS ?_
            simp only [Act.put, List.setIfInBounds_toArray, List.set_cons_zero, List.set_cons_succ]
            refine takeAt (i := 28) (d := some 164) (v := undef) rfl (by rfl) (by kernel_rfl) (by kernel_rfl) (by kernel_rfl) (fun _ _ _ h => h) (Or.inr ⟨by rfl, rfl⟩) hS ?_
            simp only [Act.put, List.setIfInBounds_toArray, List.set_cons_zero, List.set_cons_succ]
            refine takeAt (i := 29) (d := some 165) (v := undef) rfl (by rfl) (by kernel_rfl) (by kernel_rfl) (by kernel_rfl) (fun _ _ _ h => h) (Or.inr ⟨by rfl, rfl⟩) hS ?_
            simp only [Act.put, List.setIfInBounds_toArray, List.set_cons_zero, List.set_cons_succ]
            refine takeAt (i := 30) (d := some 166) (v := ?v01_30) rfl (by rfl) (by kernel_rfl) (by kernel_rfl) (by kernel_rfl) (fun _ _ _ h => h) (Or.inl ⟨by rfl, ?y01_30⟩) hS ?_
            case y01_30 => intro wx hSw; (go_simp) <;> with_reducible rfl
            simp only [Act.put, List.setIfInBounds_toArray, List.set_cons_zero, List.set_cons_succ]
            refine takeAt (i := 31) (d := some 167) (v := ?v01_31) rfl (by rfl) (by kernel_rfl) (by kernel_rfl) (by kernel_rfl) (fun _ _ _ h => h) (Or.inl ⟨by rfl, ?y01_31⟩) hS ?_
            case y01_31 => intro wx hSw; (go_simp) <;> with_reducible rfl
            simp only [Act.put, List.setIfInBounds_toArray, List.set_cons_zero, List.set_cons_succ]
            refine takeAt (i := 32) (d := some 168) (v := undef) rfl (by rfl) (by kernel_rfl) (by kernel_rfl) (by kernel_rfl) (fun _ _ _ h => h) (Or.inr ⟨by rfl, rfl⟩) hS ?_
            simp only [Act.put, List.setIfInBounds_toArray, List.set_cons_zero, List.set_cons_succ]
            refine takeAt (i := 33) (d := some 169) (v := undef) rfl (by rfl) (by kernel_rfl) (by kernel_rfl) (by kernel_rfl) (fun _ _ _ h => h) (Or.inr ⟨by rfl, rfl⟩) hS ?_
            simp only [Act.put, List.setIfInBounds_toArray, List.set_cons_zero, List.set_cons_succ]
            refine takeAt (i := 34) (d := some 170) (v := undef) rfl (by rfl) (by kernel_rfl) (by kernel_rfl) (by kernel_rfl) (fun _ _ _ h => h) (Or.inr ⟨by rfl, rfl⟩) hS ?_
            simp only [Act.put, List.setIfInBounds_toArray, List.set_cons_zero, List.set_cons_succ]
            refine takeAt (i := 35) (d := some 171) (v := undef) rfl (by rfl) (by kernel_rfl) (by kernel_rfl) (by kernel_rfl) (fun _ _ _ h => h) (Or.inr ⟨by rfl, rfl⟩) hS ?_
            simp only [Act.put, List.setIfInBounds_toArray, List.set_cons_zero, List.set_cons_succ]
            refine takeAt (i := 36) (d := some 172) (v := undef) rfl (by rfl) (by kernel_rfl) (by kernel_rfl) (by kernel_rfl) (fun _ _ _ h => h) (Or.inr ⟨by rfl, rfl⟩) hS ?_
            simp only [Act.put, List.setIfInBounds_toArray, List.set_cons_zero, List.set_cons_succ]
            refine takeAt (i := 37) (d := some 173) (v := undef) rfl (by rfl) (by kernel_rfl) (by kernel_rfl) (by kernel_rfl) (fun _ _ _ h => h) (Or.inr ⟨by rfl, rfl⟩) hS ?_
            simp only [Act.put, List.setIfInBounds_toArray, List.set_cons_zero, List.set_cons_succ]
            refine takeAt (i := 38) (d := some 174) (v := undef) rfl (by rfl) (by kernel_rfl) (by kernel_rfl) (by kernel_rfl) (fun _ _ _ h => h) (Or.inr ⟨by rfl, rfl⟩) hS ?_
            simp only [Act.put, List.setIfInBounds_toArray, List.set_cons_zero, List.set_cons_succ]
            refine takeAt (i := 39) (d := some 175) (v := ?v01_39) rfl (by rfl) (by kernel_rfl) (by kernel_rfl) (by kernel_rfl) (fun _ _ _ h => h) (Or.inl ⟨by rfl, ?y01_39⟩) hS ?_
            case y01_39 => intro wx hSw; (go_simp) <;> with_reducible rfl
            simp only [Act.put, List.setIfInBounds_toArray, List.set_cons_zero, List.set_cons_succ]
            refine takeAt (i := 40) (d := some 176) (v := ?v01_40) rfl (by rfl) (by kernel_rfl) (by kernel_rfl) (by kernel_rfl) (fun _ _ _ h => h) (Or.inl ⟨by rfl, ?y01_40⟩) hS ?_
            case y01_40 => intro wx hSw; (go_simp) <;> with_reducible rfl
            simp only [Act.put, List.setIfInBounds_toArray, List.set_cons_zero, List.set_cons_succ]
            refine takeAt (i := 41) (d := some 8) (v := ?v01_41) rfl (by rfl) (by kernel_rfl) (by kernel_rfl) (by kernel_rfl) (fun _ _ _ h => h) (Or.inl ⟨by rfl, ?y01_41⟩) hS ?_
            case y01_41 => intro wx hSw; (go_simp) <;> with_reducible rfl
            simp only [Act.put, List.setIfInBounds_toArray, List.set_cons_zero, List.set_cons_succ]
            refine wpAnyH_done (by kernel_rfl) ?_ _
            refine NoPanic.normal ?_
            go_wp2_with fail
            go_ret
            exact ⟨rfl, View.more BB.out st1⟩
          | true =>
            have QX := hid (show ¬ DomR F x y from fun h => absurd (PX.out.2 h) (by simp))
            have QY := hid (show ¬ DomR F y z from fun h => absurd (PY.out.2 h) (by simp))
            have QZ := hid (PZ.out.1 rfl)
            clear PX PY PZ
            obtain ⟨c0, c1, c2, c3, c4⟩ := FB.out.on CF.out
            have e1 := D0 _ CF.out
            go_wp2_with fail
            have st0 : Below wb.heap.size wb wf.drew := Below.drew CF.out
            clear c0 c1 c2 c3 c4 e1
            refine wp_region_noPanic ?_
            refine wp_region_held_drew (S := fun wx => Below wb.heap.size wb wx) (by kernel_rfl) st0 (fun hS => ?_)
            refine takeAt (i := 0) (d := some 136) (v := ?v01_0) rfl (by rfl) (by kernel_rfl) (by kernel_rfl) (by kernel_rfl) (fun _ _ _ h => h) (Or.inl ⟨by rfl, ?y01_0⟩) hS ?_
            case y01_0 => intro wx hSw; (go_simp) <;> with_reducible rfl
            simp only [Act.put, List.setIfInBounds_toArray, List.set_cons_zero, List.set_cons_succ]
            refine takeAt (i := 1) (d := some 137) (v := ?v01_1) rfl (by rfl) (by kernel_rfl) (by kernel_rfl) (by kernel_rfl) (fun _ _ _ h => h) (Or.inl ⟨by rfl, ?y01_1⟩) hS ?_
            case y01_1 => intro wx hSw; (go_simp) <;> with_reducible rfl
            simp only [Act.put, List.setIfInBounds_toArray, List.set_cons_zero, List.set_cons_succ]
            refine takeAt (i := 2) (d := some 138) (v := ?v01_2) rfl (by rfl) (by kernel_rfl) (by kernel_rfl) (by kernel_rfl) (fun _ _ _ h => h) (Or.inl ⟨by rfl, ?y01_2⟩) hS ?_
            case y01_2 => intro wx hSw; (go_simp) <;> with_reducible rfl
            simp only [Act.put, List.setIfInBounds_toArray, List.set_cons_zero, List.set_cons_succ]
            refine takeAt (i := 3) (d := some 139) (v := ?v01_3) rfl (by rfl) (by kernel_rfl) (by kernel_rfl) (by kernel_rfl) (fun _ _ _ h => h) (Or.inl ⟨by rfl, ?y01_3⟩) hS ?_
            case y01_3 => intro wx hSw; (go_simp) <;> with_reducible rfl
            simp only [Act.put, List.setIfInBounds_toArray, List.set_cons_zero, List.set_cons_succ]
            refine takeAt (i := 4) (d := some 140) (v := ?v01_4) rfl (by rfl) (by kernel_rfl) (by kernel_rfl) (by kernel_rfl) (fun _ _ _ h => h) (Or.inl ⟨by rfl, ?y01_4⟩) hS ?_
            case y01_4 => intro wx hSw; (go_simp) <;> with_reducible rfl
            simp only [Act.put, List.setIfInBounds_toArray, List.set_cons_zero, List.set_cons_succ]
            refine takeAt (i := 5) (d := some 141) (v := ?v01_5) rfl (by rfl) (by kernel_rfl) (by kernel_rfl) (by kernel_rfl) (fun _ _ _ h => h) (Or.inl ⟨by rfl, ?y01_5⟩) hS ?_
            case y01_5 => intro wx hSw; (go_simp) <;> with_reducible rfl
            simp only [Act.put, List.setIfInBounds_toArray, List.set_cons_zero, List.set_cons_succ]
            refine takeAt (i := 6) (d := some 142) (v := ?v01_6) rfl (by rfl) (by kernel_rfl) (by kernel_rfl) (by kernel_rfl) (fun _ _ _ h => h) (Or.inl ⟨by rfl, ?y01_6⟩) hS ?_
            case y01_6 => intro wx hSw; (go_simp) <;> with_reducible rfl
            simp only [Act.put, List.setIfInBounds_toArray, List.set_cons_zero, List.set_cons_succ]
            refine takeAt (i := 7) (d := some 143) (v := ?v01_7) rfl (by rfl) (by kernel_rfl) (by kernel_rfl) (by kernel_rfl) (fun _ _ _ h => h) (Or.inl ⟨by rfl, ?y01_7⟩) hS ?_
            case y01_7 => intro wx hSw; (go_simp) <;> with_reducible rfl
            simp only [Act.put, List.setIfInBounds_toArray, List.set_cons_zero, List.set_cons_succ]
            refine takeAt (i := 8) (d := some 144) (v := ?v01_8) rfl (by rfl) (by kernel_rfl) (by kernel_rfl) (by kernel_rfl) (fun _ _ _ h => h) (Or.inl ⟨by rfl, ?y01_8⟩) hS ?_
            case y01_8 => intro wx hSw; (go_simp) <;> with_reducible rfl
            simp only [Act.put, List.setIfInBounds_toArray, List.set_cons_zero, List.set_cons_succ]
            refine takeAt (i := 9) (d := some 145) (v := ?v01_9) rfl (by rfl) (by kernel_rfl) (by kernel_rfl) (by kernel_rfl) (fun _ _ _ h => h) (Or.inl ⟨by rfl, ?y01_9⟩) hS ?_
            case y01_9 => intro wx hSw; (go_simp) <;> with_reducible rfl
            simp only [Act.put, List.setIfInBounds_toArray, List.set_cons_zero, List.set_cons_succ]
            refine takeAt (i := 10) (d := some 146) (v := ?v01_10) rfl (by rfl) (by kernel_rfl) (by kernel_rfl) (by kernel_rfl) (fun _ _ _ h => h) (Or.inl ⟨by rfl, ?y01_10⟩) hS ?_
            case y01_10 => intro wx hSw; (go_simp) <;> with_reducible rfl
            simp only [Act.put, List.setIfInBounds_toArray, List.set_cons_zero, List.set_cons_succ]
            refine takeAt (i := 11) (d := some 147) (v := ?v01_11) rfl (by rfl) (by kernel_rfl) (by kernel_rfl) (by kernel_rfl) (fun _ _ _ h => h) (Or.inl ⟨by rfl, ?y01_11⟩) hS ?_
            case y01_11 => intro wx hSw; (go_simp) <;> with_reducible rfl
            simp only [Act.put, List.setIfInBounds_toArray, List.set_cons_zero, List.set_cons_succ]
            refine takeAt (i := 12) (d := some 148) (v := ?v01_12) rfl (by rfl) (by kernel_rfl) (by kernel_rfl) (by kernel_rfl) (fun _ _ _ h => h) (Or.inl ⟨by rfl, ?y01_12⟩) hS ?_
            case y01_12 => intro wx hSw; (go_simp) <;> with_reducible rfl
            simp only [Act.put, List.setIfInBounds_toArray, List.set_cons_zero, List.set_cons_succ]
            refine takeAt (i := 13) (d := some 149) (v := ?v01_13) rfl (by rfl) (by kernel_rfl) (by kernel_rfl) (by kernel_rfl) (fun _ _ _ h => h) (Or.inl ⟨by rfl, ?y01_13⟩) hS ?_
            case y01_13 => intro wx hSw; (go_simp) <;> with_reducible rfl
            simp only [Act.put, List.setIfInBounds_toArray, List.set_cons_zero, List.set_cons_succ]
            refine takeAt (i := 14) (d := some 150) (v := ?v01_14) rfl (by rfl) (by kernel_rfl) (by kernel_rfl) (by kernel_rfl) (fun _ _ _ h => h) (Or.inl ⟨by rfl, ?y01_14⟩) hS ?_
            case y01_14 => intro wx hSw; (go_simp) <;> with_reducible rfl
            simp only [Act.put, List.setIfInBounds_toArray, List.set_cons_zero, List.set_cons_succ]
            refine takeAt (i := 15) (d := some 151) (v := ?v01_15) rfl (by rfl) (by kernel_rfl) (by kernel_rfl) (by kernel_rfl) (fun _ _ _ h => h) (Or.inl ⟨by rfl, ?y01_15⟩) hS ?_
            case y01_15 => intro wx hSw; (go_simp) <;> with_reducible rfl
            simp only [Act.put, List.setIfInBounds_toArray, List.set_cons_zero, List.set_cons_succ]
            refine takeAt (i := 16) (d := some 152) (v := ?v01_16) rfl (by rfl) (by kernel_rfl) (by kernel_rfl) (by kernel_rfl) (fun _ _ _ h => h) (Or.inl ⟨by rfl, ?y01_16⟩) hS ?_
            case y01_16 => intro wx hSw; (go_simp) <;> with_reducible rfl
            simp only [Act.put, List.setIfInBounds_toArray, List.set_cons_zero, List.set_cons_succ]
            refine takeAt (i := 17) (d := some 153) (v := ?v01_17) rfl (by rfl) (by kernel_rfl) (by kernel_rfl) (by kernel_rfl) (fun _ _ _ h => h) (Or.inl ⟨by rfl, ?y01_17⟩) hS ?_
            case y01_17 => intro wx hSw; (go_simp) <;> with_reducible rfl
            simp only [Act.put, List.setIfInBounds_toArray, List.set_cons_zero, List.set_cons_succ]
            refine takeAt (i := 18) (d := some 154) (v := ?v01_18) rfl (by rfl) (by kernel_rfl) (by kernel_rfl) (by kernel_rfl) (fun _ _ _ h => h) (Or.inl ⟨by rfl, ?y01_18⟩) hS ?_
            case y01_18 => intro wx hSw; (go_simp) <;> with_reducible rfl
            simp only [Act.put, List.setIfInBounds_toArray, List.set_cons_zero, List.set_cons_succ]
            refine takeAt (i := 19) (d := some 155) (v := ?v01_19) rfl (by rfl) (by kernel_rfl) (by kernel_rfl) (by kernel_rfl) (fun _ _ _ h => h) (Or.inl ⟨by rfl, ?y01_19⟩) hS ?_
            case y01_19 => intro wx hSw; (go_simp) <;> with_reducible rfl
            simp only [Act.put, List.setIfInBounds_toArray, List.set_cons_zero, List.set_cons_succ]
            refine takeAt (i := 20) (d := some 156) (v := ?v01_20) rfl (by rfl) (by kernel_rfl) (by kernel_rfl) (by kernel_rfl) (fun _ _ _ h => h) (Or.inl ⟨by rfl, ?y01_20⟩) hS ?_
            case y01_20 => intro wx hSw; (go_simp) <;> with_reducible rfl
            simp only [Act.put, List.setIfInBounds_toArray, List.set_cons_zero, List.set_cons_succ]
            refine wpAnyH_ready (rs := [21]) (by kernel_rfl) (by simp) ?_
            refine AllReadyH.cons rfl (fun K hK => ?_) AllReadyH.nil
            go_simp
            refine (dom_any F a' y _ (IB.out.on st0) HL.out HJ.out).mono ?_
            rintro e wh ⟨pr, rfl, hpr, hbh⟩
            obtain rfl : pr = true := (ans_dom ha' hy hpr).2 NB.out.dom
            have st1 : Below wb.heap.size wb wh := View.more st0 hbh
            clear hpr hbh
            go_wp2_with fail
            refine hK.out _ _ st1 (fun _ => ?_)
            clear hK K
            replace hS := st1
            try simp only [Act.put, List.setIfInBounds_toArray, List.set_cons_zero, List.set_cons_succ]
            refine takeAt (i := 22) (d := some 158) (v := ?v01_22) rfl (by rfl) (by kernel_rfl) (by kernel_rfl) (by kernel_rfl) (fun _ _ _ h => h) (Or.inl ⟨by rfl, ?y01_22⟩) hS ?_
            case y01_22 => intro wx hSw; (go_simp) <;> with_reducible rfl
            simp only [Act.put, List.setIfInBounds_toArray, List.set_cons_zero, List.set_cons_succ]
            refine takeAt (i := 23) (d := some 159) (v := ?v01_23) rfl (by rfl) (by kernel_rfl) (by kernel_rfl) (by kernel_rfl) (fun _ _ _ h => h) (Or.inl ⟨by rfl, ?y01_23⟩) hS ?_
            case y01_23 => intro wx hSw; (go_simp) <;> with_reducible rfl
            simp only [Act.put, List.setIfInBounds_toArray, List.set_cons_zero, List.set_cons_succ]
            refine takeAt (i := 24) (d := some 160) (v := ?v01_24) rfl (by rfl) (by kernel_rfl) (by kernel_rfl) (by kernel_rfl) (fun _ _ _ h => h) (Or.inl ⟨by rfl, ?y01_24⟩) hS ?_
            case y01_24 => intro wx hSw; (go_simp) <;> with_reducible rfl
            simp only [Act.put, List.setIfInBounds_toArray, List.set_cons_zero, List.set_cons_succ]
            refine takeAt (i := 25) (d := some 161) (v := ?v01_25) rfl (by rfl) (by kernel_rfl) (by kernel_rfl) (by kernel_rfl) (fun _ _ _ h => h) (Or.inl ⟨by rfl, ?y01_25⟩) hS ?_
            case y01_25 => intro wx hSw; (go_simp) <;> with_reducible rfl
            simp only [Act.put, List.setIfInBounds_toArray, List.set_cons_zero, List.set_cons_succ]
            refine takeAt (i := 26) (d := some 162) (v := ?v01_26) rfl (by rfl) (by kernel_rfl) (by kernel_rfl) (by kernel_rfl) (fun _ _ _ h => h) (Or.inl ⟨by rfl, ?y01_26⟩) hS ?_
            case y01_26 => intro wx hSw; (go_simp) <;> with_reducible rfl
            simp only [Act.put, List.setIfInBounds_toArray, List.set_cons_zero, List.set_cons_succ]
            refine takeAt (i := 27) (d := some 163) (v := undef) rfl (by rfl) (by kernel_rfl) (by kernel_rfl) (by kernel_rfl) (fun _ _ _ h => h) (Or.inr ⟨by rfl, rfl⟩) hS ?_
            simp only [Act.put, List.setIfInBounds_toArray, List.set_cons_zero, List.set_cons_succ]
            refine takeAt (i := 28) (d := some 164) (v := undef) rfl (by rfl) (by kernel_rfl) (by kernel_rfl) (by kernel_rfl) (fun _ _ _ h => h) (Or.inr ⟨by rfl, rfl⟩) hS ?_
            simp only [Act.put, List.setIfInBounds_toArray, List.set_cons_zero, List.set_cons_succ]
            refine takeAt (i := 29) (d := some 165) (v := undef) rfl (by rfl) (by kernel_rfl) (by kernel_rfl) (by kernel_rfl) (fun _ _ _ h => h) (Or.inr ⟨by rfl, rfl⟩) hS ?_
            simp only [Act.put, List.setIfInBounds_toArray, List.set_cons_zero, List.set_cons_succ]
            refine takeAt (i := 30) (d := some 166) (v := ?v01_30) rfl (by rfl) (by kernel_rfl) (by kernel_rfl) (by kernel_rfl) (fun _ _ _ h => h) (Or.inl ⟨by rfl, ?y01_30⟩) hS ?_
            case y01_30 => intro wx hSw; (go_simp) <;> with_reducible rfl
            simp only [Act.put, List.setIfInBounds_toArray, List.set_cons_zero, List.set_cons_succ]
            refine takeAt (i := 31) (d := some 167) (v := ?v01_31) rfl (by rfl) (by kernel_rfl) (by kernel_rfl) (by kernel_rfl) (fun _ _ _ h => h) (Or.inl ⟨by rfl, ?y01_31⟩) hS ?_
            case y01_31 => intro wx hSw; (go_simp) <;> with_reducible rfl
            simp only [Act.put, List.setIfInBounds_toArray, List.set_cons_zero, List.set_cons_succ]
            refine takeAt (i := 32) (d := some 168) (v := undef) rfl (by rfl) (by kernel_rfl) (by kernel_rfl) (by kernel_rfl) (fun _ _ _ h => h) (Or.inr ⟨by rfl, rfl⟩) hS ?_
            simp only [Act.put, List.setIfInBounds_toArray, List.set_cons_zero, List.set_cons_succ]
            refine takeAt (i := 33) (d := some 169) (v := undef) rfl (by rfl) (by kernel_rfl) (by kernel_rfl) (by kernel_rfl) (fun _ _ _ h => h) (Or.inr ⟨by rfl, rfl⟩) hS ?_
            simp only [Act.put, List.setIfInBounds_toArray, List.set_cons_zero, List.set_cons_succ]
            refine takeAt (i := 34) (d := some 170) (v := undef) rfl (by rfl) (by kernel_rfl) (by kernel_rfl) (by kernel_rfl) (fun _ _ _ h => h) (Or.inr ⟨by rfl, rfl⟩) hS ?_
            simp only [Act.put, List.setIfInBounds_toArray, List.set_cons_zero, List.set_cons_succ]
            refine takeAt (i := 35) (d := some 171) (v := undef) rfl (by rfl) (by kernel_rfl) (by kernel_rfl) (by kernel_rfl) (fun _ _ _ h => h) (Or.inr ⟨by rfl, rfl⟩) hS ?_
            simp only [Act.put, List.setIfInBounds_toArray, List.set_cons_zero, List.set_cons_succ]
            refine takeAt (i := 36) (d := some 172) (v := undef) rfl (by rfl) (by kernel_rfl) (by kernel_rfl) (by kernel_rfl) (fun _ _ _ h => h) (Or.inr ⟨by rfl, rfl⟩) hS ?_
            simp only [Act.put, List.setIfInBounds_toArray, List.set_cons_zero, List.set_cons_succ]
            refine takeAt (i := 37) (d := some 173) (v := undef) rfl (by rfl) (by kernel_rfl) (by kernel_rfl) (by kernel_rfl) (fun _ _ _ h => h) (Or.inr ⟨by rfl, rfl⟩) hS ?_
            simp only [Act.put, List.setIfInBounds_toArray, List.set_cons_zero, List.set_cons_succ]
            refine takeAt (i := 38) (d := some 174) (v := undef) rfl (by rfl) (by kernel_rfl) (by kernel_rfl) (by kernel_rfl) (fun _ _ _ h => h) (Or.inr ⟨by rfl, rfl⟩) hS ?_
            simp only [Act.put, List.setIfInBounds_toArray, List.set_cons_zero, List.set_cons_succ]
            refine takeAt (i := 39) (d := some 175) (v := ?v01_39) rfl (by rfl) (by kernel_rfl) (by kernel_rfl) (by kernel_rfl) (fun _ _ _ h => h) (Or.inl ⟨by rfl, ?y01_39⟩) hS ?_
            case y01_39 => intro wx hSw; (go_simp) <;> with_reducible rfl
            simp only [Act.put, List.setIfInBounds_toArray, List.set_cons_zero, List.set_cons_succ]
            refine takeAt (i := 40) (d := some 176) (v := ?v01_40) rfl (by rfl) (by kernel_rfl) (by kernel_rfl) (by kernel_rfl) (fun _ _ _ h => h) (Or.inl ⟨by rfl, ?y01_40⟩) hS ?_
            case y01_40 => intro wx hSw; (go_simp) <;> with_reducible rfl
            simp only [Act.put, List.setIfInBounds_toArray, List.set_cons_zero, List.set_cons_succ]
            refine takeAt (i := 41) (d := some 8) (v := ?v01_41) rfl (by rfl) (by kernel_rfl) (by kernel_rfl) (by kernel_rfl) (fun _ _ _ h => h) (Or.inl ⟨by rfl, ?y01_41⟩) hS ?_
            case y01_41 => intro wx hSw; (go_simp) <;> with_reducible rfl
            simp only [Act.put, List.setIfInBounds_toArray, List.set_cons_zero, List.set_cons_succ]
            refine wpAnyH_done (by kernel_rfl) ?_ _
            refine NoPanic.normal ?_
            go_wp2_with fail
            go_ret
            exact ⟨rfl, View.more BB.out st1⟩
        | true =>
          cases pz with
          | false =>
            have QX := hid (show ¬ DomR F x y from fun h => absurd (PX.out.2 h) (by simp))
            have QY := hid (PY.out.1 rfl)
            have QZ := hid (show ¬ DomR F x z from fun h => absurd (PZ.out.2 h) (by simp))
            clear PX PY PZ
            obtain ⟨c0, c1, c2, c3, c4⟩ := FB.out.on CF.out
            have e1 := D0 _ CF.out
            go_wp2_with fail
            have st0 : Below wb.heap.size wb wf.drew := Below.drew CF.out
            clear c0 c1 c2 c3 c4 e1
            refine wp_region_noPanic ?_
            refine wp_region_held_drew (S := fun wx => Below wb.heap.size wb wx) (by kernel_rfl) st0 (fun hS => ?_)
            refine takeAt (i := 0) (d := some 136) (v := ?v01_0) rfl (by rfl) (by kernel_rfl) (by kernel_rfl) (by kernel_rfl) (fun _ _ _ h => h) (Or.inl ⟨by rfl, ?y01_0⟩) hS ?_
            case y01_0 => intro wx hSw; (go_simp) <;> with_reducible rfl
            simp only [Act.put, List.setIfInBounds_toArray, List.set_cons_zero, List.set_cons_succ]
            refine takeAt (i := 1) (d := some 137) (v := ?v01_1) rfl (by rfl) (by kernel_rfl) (by kernel_rfl) (by kernel_rfl) (fun _ _ _ h => h) (Or.inl ⟨by rfl, ?y01_1⟩) hS ?_
            case y01_1 => intro wx hSw; (go_simp) <;> with_reducible rfl
            simp only [Act.put, List.setIfInBounds_toArray, List.set_cons_zero, List.set_cons_succ]
            refine takeAt (i := 2) (d := some 138) (v := ?v01_2) rfl (by rfl) (by kernel_rfl) (by kernel_rfl) (by kernel_rfl) (fun _ _ _ h => h) (Or.inl ⟨by rfl, ?y01_2⟩) hS ?_
            case y01_2 => intro wx hSw; (go_simp) <;> with_reducible rfl
            simp only [Act.put, List.setIfInBounds_toArray, List.set_cons_zero, List.set_cons_succ]
            refine takeAt (i := 3) (d := some 139) (v := ?v01_3) rfl (by rfl) (by kernel_rfl) (by kernel_rfl) (by kernel_rfl) (fun _ _ _ h => h) (Or.inl ⟨by rfl, ?y01_3⟩) hS ?_
            case y01_3 => intro wx hSw; (go_simp) <;> with_reducible rfl
            simp only [Act.put, List.setIfInBounds_toArray, List.set_cons_zero, List.set_cons_succ]
            refine takeAt (i := 4) (d := some 140) (v := ?v01_4) rfl (by rfl) (by kernel_rfl) (by kernel_rfl) (by kernel_rfl) (fun _ _ _ h => h) (Or.inl ⟨by rfl, ?y01_4⟩) hS ?_
            case y01_4 => intro wx hSw; (go_simp) <;> with_reducible rfl
            simp only [Act.put, List.setIfInBounds_toArray, List.set_cons_zero, List.set_cons_succ]
            refine takeAt (i := 5) (d := some 141) (v := ?v01_5) rfl (by rfl) (by kernel_rfl) (by kernel_rfl) (by kernel_rfl) (fun _ _ _ h => h) (Or.inl ⟨by rfl, ?y01_5⟩) hS ?_
            case y01_5 => intro wx hSw; (go_simp) <;> with_reducible rfl
            simp only [Act.put, List.setIfInBounds_toArray, List.set_cons_zero, List.set_cons_succ]
            refine takeAt (i := 6) (d := some 142) (v := ?v01_6) rfl (by rfl) (by kernel_rfl) (by kernel_rfl) (by kernel_rfl) (fun _ _ _ h => h) (Or.inl ⟨by rfl, ?y01_6⟩) hS ?_
            case y01_6 => intro wx hSw; (go_simp) <;> with_reducible rfl
            simp only [Act.put, List.setIfInBounds_toArray, List.set_cons_zero, List.set_cons_succ]
            refine takeAt (i := 7) (d := some 143) (v := ?v01_7) rfl (by rfl) (by kernel_rfl) (by kernel_rfl) (by kernel_rfl) (fun _ _ _ h => h) (Or.inl ⟨by rfl, ?y01_7⟩) hS ?_
            case y01_7 => intro wx hSw; (go_simp) <;> with_reducible rfl
            simp only [Act.put, List.setIfInBounds_toArray, List.set_cons_zero, List.set_cons_succ]
            refine takeAt (i := 8) (d := some 144) (v := ?v01_8) rfl (by rfl) (by kernel_rfl) (by kernel_rfl) (by kernel_rfl) (fun _ _ _ h => h) (Or.inl ⟨by rfl, ?y01_8⟩) hS ?_
            case y01_8 => intro wx hSw; (go_simp) <;> with_reducible rfl
            simp only [Act.put, List.setIfInBounds_toArray, List.set_cons_zero, List.set_cons_succ]
            refine takeAt (i := 9) (d := some 145) (v := ?v01_9) rfl (by rfl) (by kernel_rfl) (by kernel_rfl) (by kernel_rfl) (fun _ _ _ h => h) (Or.inl ⟨by rfl, ?y01_9⟩) hS ?_
            case y01_9 => intro wx hSw; (go_simp) <;> with_reducible rfl
            simp only [Act.put, List.setIfInBounds_toArray, List.set_cons_zero, List.set_cons_succ]
            refine takeAt (i := 10) (d := some 146) (v := ?v01_10) rfl (by rfl) (by kernel_rfl) (by kernel_rfl) (by kernel_rfl) (fun _ _ _ h => h) (Or.inl ⟨by rfl, ?y01_10⟩) hS ?_
            case y01_10 => intro wx hSw; (go_simp) <;> with_reducible rfl
            simp only [Act.put, List.setIfInBounds_toArray, List.set_cons_zero, List.set_cons_succ]
            refine takeAt (i := 11) (d := some 147) (v := ?v01_11) rfl (by rfl) (by kernel_rfl) (by kernel_rfl) (by kernel_rfl) (fun _ _ _ h => h) (Or.inl ⟨by rfl, ?y01_11⟩) hS ?_
            case y01_11 => intro wx hSw; (go_simp) <;> with_reducible rfl
            simp only [Act.put, List.setIfInBounds_toArray, List.set_cons_zero, List.set_cons_succ]
            refine takeAt (i := 12) (d := some 148) (v := ?v01_12) rfl (by rfl) (by kernel_rfl) (by kernel_rfl) (by kernel_rfl) (fun _ _ _ h => h) (Or.inl ⟨by rfl, ?y01_12⟩) hS ?_
            case y01_12 => intro wx hSw; (go_simp) <;> with_reducible rfl
            simp only [Act.put, List.setIfInBounds_toArray, List.set_cons_zero, List.set_cons_succ]
            refine takeAt (i := 13) (d := some 149) (v := ?v01_13) rfl (by rfl) (by kernel_rfl) (by kernel_rfl) (by kernel_rfl) (fun _ _ _ h => h) (Or.inl ⟨by rfl, ?y01_13⟩) hS ?_
            case y01_13 => intro wx hSw; (go_simp) <;> with_reducible rfl
            simp only [Act.put, List.setIfInBounds_toArray, List.set_cons_zero, List.set_cons_succ]
            refine takeAt (i := 14) (d := some 150) (v := ?v01_14) rfl (by rfl) (by kernel_rfl) (by kernel_rfl) (by kernel_rfl) (fun _ _ _ h => h) (Or.inl ⟨by rfl, ?y01_14⟩) hS ?_
            case y01_14 => intro wx hSw; (go_simp) <;> with_reducible rfl
            simp only [Act.put, List.setIfInBounds_toArray, List.set_cons_zero, List.set_cons_succ]
            refine takeAt (i := 15) (d := some 151) (v := ?v01_15) rfl (by rfl) (by kernel_rfl) (by kernel_rfl) (by kernel_rfl) (fun _ _ _ h => h) (Or.inl ⟨by rfl, ?y01_15⟩) hS ?_
            case y01_15 => intro wx hSw; (go_simp) <;> with_reducible rfl
            simp only [Act.put, List.setIfInBounds_toArray, List.set_cons_zero, List.set_cons_succ]
            refine takeAt (i := 16) (d := some 152) (v := ?v01_16) rfl (by rfl) (by kernel_rfl) (by kernel_rfl) (by kernel_rfl) (fun _ _ _ h => h) (Or.inl ⟨by rfl, ?y01_16⟩) hS ?_
            case y01_16 => intro wx hSw; (go_simp) <;> with_reducible rfl
            simp only [Act.put, List.setIfInBounds_toArray, List.set_cons_zero, List.set_cons_succ]
            refine takeAt (i := 17) (d := some 153) (v := ?v01_17) rfl (by rfl) (by kernel_rfl) (by kernel_rfl) (by kernel_rfl) (fun _ _ _ h => h) (Or.inl ⟨by rfl, ?y01_17⟩) hS ?_
            case y01_17 => intro wx hSw; (go_simp) <;> with_reducible rfl
            simp only [Act.put, List.setIfInBounds_toArray, List.set_cons_zero, List.set_cons_succ]
            refine takeAt (i := 18) (d := some 154) (v := ?v01_18) rfl (by rfl) (by kernel_rfl) (by kernel_rfl) (by kernel_rfl) (fun _ _ _ h => h) (Or.inl ⟨by rfl, ?y01_18⟩) hS ?_
            case y01_18 => intro wx hSw; (go_simp) <;> with_reducible rfl
            simp only [Act.put, List.setIfInBounds_toArray, List.set_cons_zero, List.set_cons_succ]
            refine takeAt (i := 19) (d := some 155) (v := ?v01_19) rfl (by rfl) (by kernel_rfl) (by kernel_rfl) (by kernel_rfl) (fun _ _ _ h => h) (Or.inl ⟨by rfl, ?y01_19⟩) hS ?_
            case y01_19 => intro wx hSw; (go_simp) <;> with_reducible rfl
            simp only [Act.put, List.setIfInBounds_toArray, List.set_cons_zero, List.set_cons_succ]
            refine takeAt (i := 20) (d := some 156) (v := ?v01_20) rfl (by rfl) (by kernel_rfl) (by kernel_rfl) (by kernel_rfl) (fun _ _ _ h => h) (Or.inl ⟨by rfl, ?y01_20⟩) hS ?_
            case y01_20 => intro wx hSw; (go_simp) <;> with_reducible rfl
            simp only [Act.put, List.setIfInBounds_toArray, List.set_cons_zero, List.set_cons_succ]
            refine wpAnyH_ready (rs := [21]) (by kernel_rfl) (by simp) ?_
            refine AllReadyH.cons rfl (fun K hK => ?_) AllReadyH.nil
            go_simp
            refine (dom_any F a' y _ (IB.out.on st0) HL.out HJ.out).mono ?_
            rintro e wh ⟨pr, rfl, hpr, hbh⟩
            obtain rfl : pr = true := (ans_dom ha' hy hpr).2 NB.out.dom
            have st1 : Below wb.heap.size wb wh := View.more st0 hbh
            clear hpr hbh
            go_wp2_with fail
            refine hK.out _ _ st1 (fun _ => ?_)
            clear hK K
            replace hS := st1
            try simp only [Act.put, List.setIfInBounds_toArray, List.set_cons_zero, List.set_cons_succ]
            refine takeAt (i := 22) (d := some 158) (v := ?v01_22) rfl (by rfl) (by kernel_rfl) (by kernel_rfl) (by kernel_rfl) (fun _ _ _ h => h) (Or.inl ⟨by rfl, ?y01_22⟩) hS ?_
            case y01_22 => intro wx hSw; (go_simp) <;> with_reducible rfl
            simp only [Act.put, List.setIfInBounds_toArray, List.set_cons_zero, List.set_cons_succ]
            refine takeAt (i := 23) (d := some 159) (v := ?v01_23) rfl (by rfl) (by kernel_rfl) (by kernel_rfl) (by kernel_rfl) (fun _ _ _ h => h) (Or.inl ⟨by rfl, ?y01_23⟩) hS ?_
            case y01_23 => intro wx hSw; (go_simp) <;> with_reducible rfl
            simp only [Act.put, List.setIfInBounds_toArray, List.set_cons_zero, List.set_cons_succ]
            refine takeAt (i := 24) (d := some 160) (v := ?v01_24) rfl (by rfl) (by kernel_rfl) (by kernel_rfl) (by kernel_rfl) (fun _ _ _ h => h) (Or.inl ⟨by rfl, ?y01_24⟩) hS ?_
            case y01_24 => intro wx hSw; (go_simp) <;> with_reducible rfl
            simp only [Act.put, List.setIfInBounds_toArray, List.set_cons_zero, List.set_cons_succ]
            refine takeAt (i := 25) (d := some 161) (v := ?v01_25) rfl (by rfl) (by kernel_rfl) (by kernel_rfl) (by kernel_rfl) (fun _ _ _ h => h) (Or.inl ⟨by rfl, ?y01_25⟩) hS ?_
            case y01_25 => intro wx hSw; (go_simp) <;> with_reducible rfl
            simp only [Act.put, List.setIfInBounds_toArray, List.set_cons_zero, List.set_cons_succ]
            refine takeAt (i := 26) (d := some 162) (v := ?v01_26) rfl (by rfl) (by kernel_rfl) (by kernel_rfl) (by kernel_rfl) (fun _ _ _ h => h) (Or.inl ⟨by rfl, ?y01_26⟩) hS ?_
            case y01_26 => intro wx hSw; (go_simp) <;> with_reducible rfl
            simp only [Act.put, List.setIfInBounds_toArray, List.set_cons_zero, List.set_cons_succ]
            refine takeAt (i := 27) (d := some 163) (v := undef) rfl (by rfl) (by kernel_rfl) (by kernel_rfl) (by kernel_rfl) (fun _ _ _ h => h) (Or.inr ⟨by rfl, rfl⟩) hS ?_
            simp only [Act.put, List.setIfInBounds_toArray, List.set_cons_zero, List.set_cons_succ]
            refine takeAt (i := 28) (d := some 164) (v := undef) rfl (by rfl) (by kernel_rfl) (by kernel_rfl) (by kernel_rfl) (fun _ _ _ h => h) (Or.inr ⟨by rfl, rfl⟩) hS ?_
            simp only [Act.put, List.setIfInBounds_toArray, List.set_cons_zero, List.set_cons_succ]
            refine takeAt (i := 29) (d := some 165) (v := undef) rfl (by rfl) (by kernel_rfl) (by kernel_rfl) (by kernel_rfl) (fun _ _ _ h => h) (Or.inr ⟨by rfl, rfl⟩) hS ?_
            simp only [Act.put, List.setIfInBounds_toArray, List.set_cons_zero, List.set_cons_succ]
            refine takeAt (i := 30) (d := some 166) (v := ?v01_30) rfl (by rfl) (by kernel_rfl) (by kernel_rfl) (by kernel_rfl) (fun _ _ _ h => h) (Or.inl ⟨by rfl, ?y01_30⟩) hS ?_
            case y01_30 => intro wx hSw; (go_simp) <;> with_reducible rfl
            simp only [Act.put, List.setIfInBounds_toArray, List.set_cons_zero, List.set_cons_succ]
            refine takeAt (i := 31) (d := some 167) (v := ?v01_31) rfl (by rfl) (by kernel_rfl) (by kernel_rfl) (by kernel_rfl) (fun _ _ _ h => h) (Or.inl ⟨by rfl, ?y01_31⟩) hS ?_
            case y01_31 => intro wx hSw; (go_simp) <;> with_reducible rfl
            simp only [Act.put, List.setIfInBounds_toArray, List.set_cons_zero, List.set_cons_succ]
            refine takeAt (i := 32) (d := some 168) (v := undef) rfl (by rfl) (by kernel_rfl) (by kernel_rfl) (by kernel_rfl) (fun _ _ _ h => h) (Or.inr ⟨by rfl, rfl⟩) hS ?_
            simp only [Act.put, List.setIfInBounds_toArray, List.set_cons_zero, List.set_cons_succ]
            refine takeAt (i := 33) (d := some 169) (v := undef) rfl (by rfl) (by kernel_rfl) (by kernel_rfl) (by kernel_rfl) (fun _ _ _ h => h) (Or.inr ⟨by rfl, rfl⟩) hS ?_
            simp only [Act.put, List.setIfInBounds_toArray, List.set_cons_zero, List.set_cons_succ]
            refine takeAt (i := 34) (d := some 170) (v := undef) rfl (by rfl) (by kernel_rfl) (by kernel_rfl) (by kernel_rfl) (fun _ _ _ h => h) (Or.inr ⟨by rfl, rfl⟩) hS ?_
            simp only [Act.put, List.setIfInBounds_toArray, List.set_cons_zero, List.set_cons_succ]
            refine takeAt (i := 35) (d := some 171) (v := undef) rfl (by rfl) (by kernel_rfl) (by kernel_rfl) (by kernel_rfl) (fun _ _ _ h => h) (Or.inr ⟨by rfl, rfl⟩) hS ?_
            simp only [Act.put, List.setIfInBounds_toArray, List.set_cons_zero, List.set_cons_succ]
            refine takeAt (i := 36) (d := some 172) (v := undef) rfl (by rfl) (by kernel_rfl) (by kernel_rfl) (by kernel_rfl) (fun _ _ _ h => h) (Or.inr ⟨by rfl, rfl⟩) hS ?_
            simp only [Act.put, List.setIfInBounds_toArray, List.set_cons_zero, List.set_cons_succ]
            refine takeAt (i := 37) (d := some 173) (v := undef) rfl (by rfl) (by kernel_rfl) (by kernel_rfl) (by kernel_rfl) (fun _ _ _ h => h) (Or.inr ⟨by rfl, rfl⟩) hS ?_
            simp only [Act.put, List.setIfInBounds_toArray, List.set_cons_zero, List.set_cons_succ]
            refine takeAt (i := 38) (d := some 174) (v := undef) rfl (by rfl) (by kernel_rfl) (by kernel_rfl) (by kernel_rfl) (fun _ _ _ h => h) (Or.inr ⟨by rfl, rfl⟩) hS ?_
            simp only [Act.put, List.setIfInBounds_toArray, List.set_cons_zero, List.set_cons_succ]
            refine takeAt (i := 39) (d := some 175) (v := ?v01_39) rfl (by rfl) (by kernel_rfl) (by kernel_rfl) (by kernel_rfl) (fun _ _ _ h => h) (Or.inl ⟨by rfl, ?y01_39⟩) hS ?_
            case y01_39 => intro wx hSw; (go_simp) <;> with_reducible rfl
            simp only [Act.put, List.setIfInBounds_toArray, List.set_cons_zero, List.set_cons_succ]
            refine takeAt (i := 40) (d := some 176) (v := ?v01_40) rfl (by rfl) (by kernel_rfl) (by kernel_rfl) (by kernel_rfl) (fun _ _ _ h => h) (Or.inl ⟨by rfl, ?y01_40⟩) hS ?_
            case y01_40 => intro wx hSw; (go_simp) <;> with_reducible rfl
            simp only [Act.put, List.setIfInBounds_toArray, List.set_cons_zero, List.set_cons_succ]
            refine takeAt (i := 41) (d := some 8) (v := ?v01_41) rfl (by rfl) (by kernel_rfl) (by kernel_rfl) (by kernel_rfl) (fun _ _ _ h => h) (Or.inl ⟨by rfl, ?y01_41⟩) hS ?_
            case y01_41 => intro wx hSw; (go_simp) <;> with_reducible rfl
            simp only [Act.put, List.setIfInBounds_toArray, List.set_cons_zero, List.set_cons_succ]
            refine wpAnyH_done (by kernel_rfl) ?_ _
            refine NoPanic.normal ?_
            go_wp2_with fail
            go_ret
            exact ⟨rfl, View.more BB.out st1⟩
          | true =>
            have QX := hid (show ¬ DomR F x y from fun h => absurd (PX.out.2 h) (by simp))
            have QY := hid (PY.out.1 rfl)
            have QZ := hid (PZ.out.1 rfl)
            clear PX PY PZ
            obtain ⟨c0, c1, c2, c3, c4⟩ := FB.out.on CF.out
            have e1 := D0 _ CF.out
            go_wp2_with fail
            refine (dom_any F y x _ (IB.out.on CF.out) HL.out HJ.out).mono ?_
            rintro e wg ⟨pr, rfl, hpr, hbg⟩
            obtain rfl : pr = true := (ans_dom hy hx hpr).2 (by
              rcases dom_chain QZ.out QY.out GR.out with q | q
              · exact absurd q QX.out
              · exact q)
            have CG := hid (View.more CF.out hbg)
            clear hpr hbg c0 c1 c2 c3 c4 e1
            obtain ⟨c0, c1, c2, c3, c4⟩ := FB.out.on CG.out
            have e1 := D0 _ CG.out
            go_wp2_with fail
            have st0 : Below wb.heap.size wb wg.drew := Below.drew CG.out
            clear c0 c1 c2 c3 c4 e1
            refine wp_region_noPanic ?_
            refine wp_region_held_drew (S := fun wx => Below wb.heap.size wb wx) (by kernel_rfl) st0 (fun hS => ?_)
            refine takeAt (i := 0) (d := some 136) (v := ?v01_0) rfl (by rfl) (by kernel_rfl) (by kernel_rfl) (by kernel_rfl) (fun _ _ _ h => h) (Or.inl ⟨by rfl, ?y01_0⟩) hS ?_
            case y01_0 => intro wx hSw; (go_simp) <;> with_reducible rfl
            simp only [Act.put, List.setIfInBounds_toArray, List.set_cons_zero, List.set_cons_succ]
            refine takeAt (i := 1) (d := some 137) (v := ?v01_1) rfl (by rfl) (by kernel_rfl) (by kernel_rfl) (by kernel_rfl) (fun _ _ _ h => h) (Or.inl ⟨by rfl, ?y01_1⟩) hS ?_
            case y01_1 => intro wx hSw; (go_simp) <;> with_reducible rfl
            simp only [Act.put, List.setIfInBounds_toArray, List.set_cons_zero, List.set_cons_succ]
            refine takeAt (i := 2) (d := some 138) (v := ?v01_2) rfl (by rfl) (by kernel_rfl) (by kernel_rfl) (by kernel_rfl) (fun _ _ _ h => h) (Or.inl ⟨by rfl, ?y01_2⟩) hS ?_
            case y01_2 => intro wx hSw; (go_simp) <;> with_reducible rfl
            simp only [Act.put, List.setIfInBounds_toArray, List.set_cons_zero, List.set_cons_succ]
            refine takeAt (i := 3) (d := some 139) (v := ?v01_3) rfl (by rfl) (by kernel_rfl) (by kernel_rfl) (by kernel_rfl) (fun _ _ _ h => h) (Or.inl ⟨by rfl, ?y01_3⟩) hS ?_
            case y01_3 => intro wx hSw; (go_simp) <;> with_reducible rfl
            simp only [Act.put, List.setIfInBounds_toArray, List.set_cons_zero, List.set_cons_succ]
            refine takeAt (i := 4) (d := some 140) (v := ?v01_4) rfl (by rfl) (by kernel_rfl) (by kernel_rfl) (by kernel_rfl) (fun _ _ _ h => h) (Or.inl ⟨by rfl, ?y01_4⟩) hS ?_
            case y01_4 => intro wx hSw; (go_simp) <;> with_reducible rfl
            simp only [Act.put, List.setIfInBounds_toArray, List.set_cons_zero, List.set_cons_succ]
            refine takeAt (i := 5) (d := some 141) (v := ?v01_5) rfl (by rfl) (by kernel_rfl) (by kernel_rfl) (by kernel_rfl) (fun _ _ _ h => h) (Or.inl ⟨by rfl, ?y01_5⟩) hS ?_
            case y01_5 => intro wx hSw; (go_simp) <;> with_reducible rfl
            simp only [Act.put, List.setIfInBounds_toArray, List.set_cons_zero, List.set_cons_succ]
            refine takeAt (i := 6) (d := some 142) (v := ?v01_6) rfl (by rfl) (by kernel_rfl) (by kernel_rfl) (by kernel_rfl) (fun _ _ _ h => h) (Or.inl ⟨by rfl, ?y01_6⟩) hS ?_
            case y01_6 => intro wx hSw; (go_simp) <;> with_reducible rfl
            simp only [Act.put, List.setIfInBounds_toArray, List.set_cons_zero, List.set_cons_succ]
            refine takeAt (i := 7) (d := some 143) (v := ?v01_7) rfl (by rfl) (by kernel_rfl) (by kernel_rfl) (by kernel_rfl) (fun _ _ _ h => h) (Or.inl ⟨by rfl, ?y01_7⟩) hS ?_
            case y01_7 => intro wx hSw; (go_simp) <;> with_reducible rfl
            simp only [Act.put, List.setIfInBounds_toArray, List.set_cons_zero, List.set_cons_succ]
            refine takeAt (i := 8) (d := some 144) (v := ?v01_8) rfl (by rfl) (by kernel_rfl) (by kernel_rfl) (by kernel_rfl) (fun _ _ _ h => h) (Or.inl ⟨by rfl, ?y01_8⟩) hS ?_
            case y01_8 => intro wx hSw; (go_simp) <;> with_reducible rfl
            simp only [Act.put, List.setIfInBounds_toArray, List.set_cons_zero, List.set_cons_succ]
            refine takeAt (i := 9) (d := some 145) (v := ?v01_9) rfl (by rfl) (by kernel_rfl) (by kernel_rfl) (by kernel_rfl) (fun _ _ _ h => h) (Or.inl ⟨by rfl, ?y01_9⟩) hS ?_
            case y01_9 => intro wx hSw; (go_simp) <;> with_reducible rfl
            simp only [Act.put, List.setIfInBounds_toArray, List.set_cons_zero, List.set_cons_succ]
            refine takeAt (i := 10) (d := some 146) (v := ?v01_10) rfl (by rfl) (by kernel_rfl) (by kernel_rfl) (by kernel_rfl) (fun _ _ _ h => h) (Or.inl ⟨by rfl, ?y01_10⟩) hS ?_
            case y01_10 => intro wx hSw; (go_simp) <;> with_reducible rfl
            simp only [Act.put, List.setIfInBounds_toArray, List.set_cons_zero, List.set_cons_succ]
            refine takeAt (i := 11) (d := some 147) (v := ?v01_11) rfl (by rfl) (by kernel_rfl) (by kernel_rfl) (by kernel_rfl) (fun _ _ _ h => h) (Or.inl ⟨by rfl, ?y01_11⟩) hS ?_
            case y01_11 => intro wx hSw; (go_simp) <;> with_reducible rfl
            simp only [Act.put, List.setIfInBounds_toArray, List.set_cons_zero, List.set_cons_succ]
            refine takeAt (i := 12) (d := some 148) (v := ?v01_12) rfl (by rfl) (by kernel_rfl) (by kernel_rfl) (by kernel_rfl) (fun _ _ _ h => h) (Or.inl ⟨by rfl, ?y01_12⟩) hS ?_
            case y01_12 => intro wx hSw; (go_simp) <;> with_reducible rfl
            simp only [Act.put, List.setIfInBounds_toArray, List.set_cons_zero, List.set_cons_succ]
            refine takeAt (i := 13) (d := some 149) (v := ?v01_13) rfl (by rfl) (by kernel_rfl) (by kernel_rfl) (by kernel_rfl) (fun _ _ _ h => h) (Or.inl ⟨by rfl, ?y01_13⟩) hS ?_
            case y01_13 => intro wx hSw; (go_simp) <;> with_reducible rfl
            simp only [Act.put, List.setIfInBounds_toArray, List.set_cons_zero, List.set_cons_succ]
            refine takeAt (i := 14) (d := some 150) (v := ?v01_14) rfl (by rfl) (by kernel_rfl) (by kernel_rfl) (by kernel_rfl) (fun _ _ _ h => h) (Or.inl ⟨by rfl, ?y01_14⟩) hS ?_
            case y01_14 => intro wx hSw; (go_simp) <;> with_reducible rfl
            simp only [Act.put, List.setIfInBounds_toArray, List.set_cons_zero, List.set_cons_succ]
            refine takeAt (i := 15) (d := some 151) (v := ?v01_15) rfl (by rfl) (by kernel_rfl) (by kernel_rfl) (by kernel_rfl) (fun _ _ _ h => h) (Or.inl ⟨by rfl, ?y01_15⟩) hS ?_
            case y01_15 => intro wx hSw; (go_simp) <;> with_reducible rfl
            simp only [Act.put, List.setIfInBounds_toArray, List.set_cons_zero, List.set_cons_succ]
            refine takeAt (i := 16) (d := some 152) (v := ?v01_16) rfl (by rfl) (by kernel_rfl) (by kernel_rfl) (by kernel_rfl) (fun _ _ _ h => h) (Or.inl ⟨by rfl, ?y01_16⟩) hS ?_
            case y01_16 => intro wx hSw; (go_simp) <;> with_reducible rfl
            simp only [Act.put, List.setIfInBounds_toArray, List.set_cons_zero, List.set_cons_succ]
            refine takeAt (i := 17) (d := some 153) (v := ?v01_17) rfl (by rfl) (by kernel_rfl) (by kernel_rfl) (by kernel_rfl) (fun _ _ _ h => h) (Or.inl ⟨by rfl, ?y01_17⟩) hS ?_
            case y01_17 => intro wx hSw; (go_simp) <;> with_reducible rfl
            simp only [Act.put, List.setIfInBounds_toArray, List.set_cons_zero, List.set_cons_succ]
            refine takeAt (i := 18) (d := some 154) (v := ?v01_18) rfl (by rfl) (by kernel_rfl) (by kernel_rfl) (by kernel_rfl) (fun _ _ _ h => h) (Or.inl ⟨by rfl, ?y01_18⟩) hS ?_
            case y01_18 => intro wx hSw; (go_simp) <;> with_reducible rfl
            simp only [Act.put, List.setIfInBounds_toArray, List.set_cons_zero, List.set_cons_succ]
            refine takeAt (i := 19) (d := some 155) (v := ?v01_19) rfl (by rfl) (by kernel_rfl) (by kernel_rfl) (by kernel_rfl) (fun _ _ _ h => h) (Or.inl ⟨by rfl, ?y01_19⟩) hS ?_
            case y01_19 => intro wx hSw; (go_simp) <;> with_reducible rfl
            simp only [Act.put, List.setIfInBounds_toArray, List.set_cons_zero, List.set_cons_succ]
            refine takeAt (i := 20) (d := some 156) (v := ?v01_20) rfl (by rfl) (by kernel_rfl) (by kernel_rfl) (by kernel_rfl) (fun _ _ _ h => h) (Or.inl ⟨by rfl, ?y01_20⟩) hS ?_
            case y01_20 => intro wx hSw; (go_simp) <;> with_reducible rfl
            simp only [Act.put, List.setIfInBounds_toArray, List.set_cons_zero, List.set_cons_succ]
            refine wpAnyH_ready (rs := [21]) (by kernel_rfl) (by simp) ?_
            refine AllReadyH.cons rfl (fun K hK => ?_) AllReadyH.nil
            go_simp
            refine (dom_any F a' y _ (IB.out.on st0) HL.out HJ.out).mono ?_
            rintro e wh ⟨pr, rfl, hpr, hbh⟩
            obtain rfl : pr = true := (ans_dom ha' hy hpr).2 NB.out.dom
            have st1 : Below wb.heap.size wb wh := View.more st0 hbh
            clear hpr hbh
            go_wp2_with fail
            refine hK.out _ _ st1 (fun _ => ?_)
            clear hK K
            replace hS := st1
            try simp only [Act.put, List.setIfInBounds_toArray, List.set_cons_zero, List.set_cons_succ]
            refine takeAt (i := 22) (d := some 158) (v := ?v01_22) rfl (by rfl) (by kernel_rfl) (by kernel_rfl) (by kernel_rfl) (fun _ _ _ h => h) (Or.inl ⟨by rfl, ?y01_22⟩) hS ?_
            case y01_22 => intro wx hSw; (go_simp) <;> with_reducible rfl
            simp only [Act.put, List.setIfInBounds_toArray, List.set_cons_zero, List.set_cons_succ]
            refine takeAt (i := 23) (d := some 159) (v := ?v01_23) rfl (by rfl) (by kernel_rfl) (by kernel_rfl) (by kernel_rfl) (fun _ _ _ h => h) (Or.inl ⟨by rfl, ?y01_23⟩) hS ?_
            case y01_23 => intro wx hSw; (go_simp) <;> with_reducible rfl
            simp only [Act.put, List.setIfInBounds_toArray, List.set_cons_zero, List.set_cons_succ]
            refine takeAt (i := 24) (d := some 160) (v := ?v01_24) rfl (by rfl) (by kernel_rfl) (by kernel_rfl) (by kernel_rfl) (fun _ _ _ h => h) (Or.inl ⟨by rfl, ?y01_24⟩) hS ?_
            case y01_24 => intro wx hSw; (go_simp) <;> with_reducible rfl
            simp only [Act.put, List.setIfInBounds_toArray, List.set_cons_zero, List.set_cons_succ]
            refine takeAt (i := 25) (d := some 161) (v := ?v01_25) rfl (by rfl) (by kernel_rfl) (by kernel_rfl) (by kernel_rfl) (fun _ _ _ h => h) (Or.inl ⟨by rfl, ?y01_25⟩) hS ?_
            case y01_25 => intro wx hSw; (go_simp) <;> with_reducible rfl
            simp only [Act.put, List.setIfInBounds_toArray, List.set_cons_zero, List.set_cons_succ]
            refine takeAt (i := 26) (d := some 162) (v := ?v01_26) rfl (by rfl) (by kernel_rfl) (by kernel_rfl) (by kernel_rfl) (fun _ _ _ h => h) (Or.inl ⟨by rfl, ?y01_26⟩) hS ?_
            case y01_26 => intro wx hSw; (go_simp) <;> with_reducible rfl
            simp only [Act.put, List.setIfInBounds_toArray, List.set_cons_zero, List.set_cons_succ]
            refine takeAt (i := 27) (d := some 163) (v := undef) rfl (by rfl) (by kernel_rfl) (by kernel_rfl) (by kernel_rfl) (fun _ _ _ h => h) (Or.inr ⟨by rfl, rfl⟩) hS ?_
            simp only [Act.put, List.setIfInBounds_toArray, List.set_cons_zero, List.set_cons_succ]
            refine takeAt (i := 28) (d := some 164) (v := undef) rfl (by rfl) (by kernel_rfl) (by kernel_rfl) (by kernel_rfl) (fun _ _ _ h => h) (Or.inr ⟨by rfl, rfl⟩) hS ?_
            simp only [Act.put, List.setIfInBounds_toArray, List.set_cons_zero, List.set_cons_succ]
            refine takeAt (i := 29) (d := some 165) (v := undef) rfl (by rfl) (by kernel_rfl) (by kernel_rfl) (by kernel_rfl) (fun _ _ _ h => h) (Or.inr ⟨by rfl, rfl⟩) hS ?_
            simp only [Act.put, List.setIfInBounds_toArray, List.set_cons_zero, List.set_cons_succ]
            refine takeAt (i := 30) (d := some 166) (v := ?v01_30) rfl (by rfl) (by kernel_rfl) (by kernel_rfl) (by kernel_rfl) (fun _ _ _ h => h) (Or.inl ⟨by rfl, ?y01_30⟩) hS ?_
            case y01_30 => intro wx hSw; (go_simp) <;> with_reducible rfl
            simp only [Act.put, List.setIfInBounds_toArray, List.set_cons_zero, List.set_cons_succ]
            refine takeAt (i := 31) (d := some 167) (v := ?v01_31) rfl (by rfl) (by kernel_rfl) (by kernel_rfl) (by kernel_rfl) (fun _ _ _ h => h) (Or.inl ⟨by rfl, ?y01_31⟩) hS ?_
            case y01_31 => intro wx hSw; (go_simp) <;> with_reducible rfl
            simp only [Act.put, List.setIfInBounds_toArray, List.set_cons_zero, List.set_cons_succ]
            refine takeAt (i := 32) (d := some 168) (v := undef) rfl (by rfl) (by kernel_rfl) (by kernel_rfl) (by kernel_rfl) (fun _ _ _ h => h) (Or.inr ⟨by rfl, rfl⟩) hS ?_
            simp only [Act.put, List.setIfInBounds_toArray, List.set_cons_zero, List.set_cons_succ]
            refine takeAt (i := 33) (d := some 169) (v := undef) rfl (by rfl) (by kernel_rfl) (by kernel_rfl) (by kernel_rfl) (fun _ _ _ h => h) (Or.inr ⟨by rfl, rfl⟩) hS ?_
            simp only [Act.put, List.setIfInBounds_toArray, List.set_cons_zero, List.set_cons_succ]
            refine takeAt (i := 34) (d := some 170) (v := undef) rfl (by rfl) (by kernel_rfl) (by kernel_rfl) (by kernel_rfl) (fun _ _ _ h => h) (Or.inr ⟨by rfl, rfl⟩) hS ?_
            simp only [Act.put, List.setIfInBounds_toArray, List.set_cons_zero, List.set_cons_succ]
            refine takeAt (i := 35) (d := some 171) (v := undef) rfl (by rfl) (by kernel_rfl) (by kernel_rfl) (by kernel_rfl) (fun _ _ _ h => h) (Or.inr ⟨by rfl, rfl⟩) hS ?_
            simp only [Act.put, List.setIfInBounds_toArray, List.set_cons_zero, List.set_cons_succ]
            refine takeAt (i := 36) (d := some 172) (v := undef) rfl (by rfl) (by kernel_rfl) (by kernel_rfl) (by kernel_rfl) (fun _ _ _ h => h) (Or.inr ⟨by rfl, rfl⟩) hS ?_
            simp only [Act.put, List.setIfInBounds_toArray, List.set_cons_zero, List.set_cons_succ]
            refine takeAt (i := 37) (d := some 173) (v := undef) rfl (by rfl) (by kernel_rfl) (by kernel_rfl) (by kernel_rfl) (fun _ _ _ h => h) (Or.inr ⟨by rfl, rfl⟩) hS ?_
            simp only [Act.put, List.setIfInBounds_toArray, List.set_cons_zero, List.set_cons_succ]
            refine takeAt (i := 38) (d := some 174) (v := undef) rfl (by rfl) (by kernel_rfl) (by kernel_rfl) (by kernel_rfl) (fun _ _ _ h => h) (Or.inr ⟨by rfl, rfl⟩) hS ?_
            simp only [Act.put, List.setIfInBounds_toArray, List.set_cons_zero, List.set_cons_succ]
            refine takeAt (i := 39) (d := some 175) (v := ?v01_39) rfl (by rfl) (by kernel_rfl) (by kernel_rfl) (by kernel_rfl) (fun _ _ _ h => h) (Or.inl ⟨by rfl, ?y01_39⟩) hS ?_
            case y01_39 => intro wx hSw; (go_simp) <;> with_reducible rfl
            simp only [Act.put, List.setIfInBounds_toArray, List.set_cons_zero, List.set_cons_succ]
            refine takeAt (i := 40) (d := some 176) (v := ?v01_40) rfl (by rfl) (by kernel_rfl) (by kernel_rfl) (by kernel_rfl) (fun _ _ _ h => h) (Or.inl ⟨by rfl, ?y01_40⟩) hS ?_
            case y01_40 => intro wx hSw; (go_simp) <;> with_reducible rfl
            simp only [Act.put, List.setIfInBounds_toArray, List.set_cons_zero, List.set_cons_succ]
            refine takeAt (i := 41) (d := some 8) (v := ?v01_41) rfl (by rfl) (by kernel_rfl) (by kernel_rfl) (by kernel_rfl) (fun _ _ _ h => h) (Or.inl ⟨by rfl, ?y01_41⟩) hS ?_
            case y01_41 => intro wx hSw; (go_simp) <;> with_reducible rfl
            simp only [Act.put, List.setIfInBounds_toArray, List.set_cons_zero, List.set_cons_succ]
            refine wpAnyH_done (by kernel_rfl) ?_ _
            refine NoPanic.normal ?_
            go_wp2_with fail
            go_ret
            exact ⟨rfl, View.more BB.out st1⟩
      | true =>
        cases py with
        | false =>
          cases pz with
          | false =>
            have QX := hid (PX.out.1 rfl)
            have QY := hid (show ¬ DomR F y z from fun h => absurd (PY.out.2 h) (by simp))
            have QZ := hid (show ¬ DomR F x z from fun h => absurd (PZ.out.2 h) (by simp))
            clear PX PY PZ
            obtain ⟨c0, c1, c2, c3, c4⟩ := FB.out.on CF.out
            have e1 := D0 _ CF.out
            go_wp2_with fail
            have st0 : Below wb.heap.size wb wf.drew := Below.drew CF.out
            clear c0 c1 c2 c3 c4 e1
            refine wp_region_noPanic ?_
            refine wp_region_held_drew (S := fun wx => Below wb.heap.size wb wx) (by kernel_rfl) st0 (fun hS => ?_)
            refine takeAt (i := 0) (d := some 136) (v := ?v11_0) rfl (by rfl) (by kernel_rfl) (by kernel_rfl) (by kernel_rfl) (fun _ _ _ h => h) (Or.inl ⟨by rfl, ?y11_0⟩) hS ?_
            case y11_0 => intro wx hSw; (go_simp) <;> with_reducible rfl
            simp only [Act.put, List.setIfInBounds_toArray, List.set_cons_zero, List.set_cons_succ]
            refine takeAt (i := 1) (d := some 137) (v := ?v11_1) rfl (by rfl) (by kernel_rfl) (by kernel_rfl) (by kernel_rfl) (fun _ _ _ h => h) (Or.inl ⟨by rfl, ?y11_1⟩) hS ?_
            case y11_1 => intro wx hSw; (go_simp) <;> with_reducible rfl
            simp only [Act.put, List.setIfInBounds_toArray, List.set_cons_zero, List.set_cons_succ]
            refine takeAt (i := 2) (d := some 138) (v := ?v11_2) rfl (by rfl) (by kernel_rfl) (by kernel_rfl) (by kernel_rfl) (fun _ _ _ h => h) (Or.inl ⟨by rfl, ?y11_2⟩) hS ?_
            case y11_2 => intro wx hSw; (go_simp) <;> with_reducible rfl
            simp only [Act.put, List.setIfInBounds_toArray, List.set_cons_zero, List.set_cons_succ]
            refine takeAt (i := 3) (d := some 139) (v := ?v11_3) rfl (by rfl) (by kernel_rfl) (by kernel_rfl) (by kernel_rfl) (fun _ _ _ h => h) (Or.inl ⟨by rfl, ?y11_3⟩) hS ?_
            case y11_3 => intro wx hSw; (go_simp) <;> with_reducible rfl
            simp only [Act.put, List.setIfInBounds_toArray, List.set_cons_zero, List.set_cons_succ]
            refine takeAt (i := 4) (d := some 140) (v := ?v11_4) rfl (by rfl) (by kernel_rfl) (by kernel_rfl) (by kernel_rfl) (fun _ _ _ h => h) (Or.inl ⟨by rfl, ?y11_4⟩) hS ?_
            case y11_4 => intro wx hSw; (go_simp) <;> with_reducible rfl
            simp only [Act.put, List.setIfInBounds_toArray, List.set_cons_zero, List.set_cons_succ]
            refine takeAt (i := 5) (d := some 141) (v := ?v11_5) rfl (by rfl) (by kernel_rfl) (by kernel_rfl) (by kernel_rfl) (fun _ _ _ h => h) (Or.inl ⟨by rfl, ?y11_5⟩) hS ?_
            case y11_5 => intro wx hSw; (go_simp) <;> with_reducible rfl
            simp only [Act.put, List.setIfInBounds_toArray, List.set_cons_zero, List.set_cons_succ]
            refine takeAt (i := 6) (d := some 142) (v := ?v11_6) rfl (by rfl) (by kernel_rfl) (by kernel_rfl) (by kernel_rfl) (fun _ _ _ h => h) (Or.inl ⟨by rfl, ?y11_6⟩) hS ?_
            case y11_6 => intro wx hSw; (go_simp) <;> with_reducible rfl
            simp only [Act.put, List.setIfInBounds_toArray, List.set_cons_zero, List.set_cons_succ]
            refine takeAt (i := 7) (d := some 143) (v := ?v11_7) rfl (by rfl) (by kernel_rfl) (by kernel_rfl) (by kernel_rfl) (fun _ _ _ h => h) (Or.inl ⟨by rfl, ?y11_7⟩) hS ?_
            case y11_7 => intro wx hSw; (go_simp) <;> with_reducible rfl
            simp only [Act.put, List.setIfInBounds_toArray, List.set_cons_zero, List.set_cons_succ]
            refine takeAt (i := 8) (d := some 144) (v := ?v11_8) rfl (by rfl) (by kernel_rfl) (by kernel_rfl) (by kernel_rfl) (fun _ _ _ h => h) (Or.inl ⟨by rfl, ?y11_8⟩) hS ?_
            case y11_8 => intro wx hSw; (go_simp) <;> with_reducible rfl
            simp only [Act.put, List.setIfInBounds_toArray, List.set_cons_zero, List.set_cons_succ]
            refine takeAt (i := 9) (d := some 145) (v := ?v11_9) rfl (by rfl) (by kernel_rfl) (by kernel_rfl) (by kernel_rfl) (fun _ _ _ h => h) (Or.inl ⟨by rfl, ?y11_9⟩) hS ?_
            case y11_9 => intro wx hSw; (go_simp) <;> with_reducible rfl
            simp only [Act.put, List.setIfInBounds_toArray, List.set_cons_zero, List.set_cons_succ]
            refine takeAt (i := 10) (d := some 146) (v := ?v11_10) rfl (by rfl) (by kernel_rfl) (by kernel_rfl) (by kernel_rfl) (fun _ _ _ h => h) (Or.inl ⟨by rfl, ?y11_10⟩) hS ?_
            case y11_10 => intro wx hSw; (go_simp) <;> with_reducible rfl
            simp only [Act.put, List.setIfInBounds_toArray, List.set_cons_zero, List.set_cons_succ]
            refine takeAt (i := 11) (d := some 147) (v := ?v11_11) rfl (by rfl) (by kernel_rfl) (by kernel_rfl) (by kernel_rfl) (fun _ _ _ h => h) (Or.inl ⟨by rfl, ?y11_11⟩) hS ?_
            case y11_11 => intro wx hSw; (go_simp) <;> with_reducible rfl
            simp only [Act.put, List.setIfInBounds_toArray, List.set_cons_zero, List.set_cons_succ]
            refine takeAt (i := 12) (d := some 148) (v := ?v11_12) rfl (by rfl) (by kernel_rfl) (by kernel_rfl) (by kernel_rfl) (fun _ _ _ h => h) (Or.inl ⟨by rfl, ?y11_12⟩) hS ?_
            case y11_12 => intro wx hSw; (go_simp) <;> with_reducible rfl
            simp only [Act.put, List.setIfInBounds_toArray, List.set_cons_zero, List.set_cons_succ]
            refine takeAt (i := 13) (d := some 149) (v := ?v11_13) rfl (by rfl) (by kernel_rfl) (by kernel_rfl) (by kernel_rfl) (fun _ _ _ h => h) (Or.inl ⟨by rfl, ?y11_13⟩) hS ?_
            case y11_13 => intro wx hSw; (go_simp) <;> with_reducible rfl
            simp only [Act.put, List.setIfInBounds_toArray, List.set_cons_zero, List.set_cons_succ]
            refine takeAt (i := 14) (d := some 150) (v := ?v11_14) rfl (by rfl) (by kernel_rfl) (by kernel_rfl) (by kernel_rfl) (fun _ _ _ h => h) (Or.inl ⟨by rfl, ?y11_14⟩) hS ?_
            case y11_14 => intro wx hSw; (go_simp) <;> with_reducible rfl
            simp only [Act.put, List.setIfInBounds_toArray, List.set_cons_zero, List.set_cons_succ]
            refine takeAt (i := 15) (d := some 151) (v := ?v11_15) rfl (by rfl) (by kernel_rfl) (by kernel_rfl) (by kernel_rfl) (fun _ _ _ h => h) (Or.inl ⟨by rfl, ?y11_15⟩) hS ?_
            case y11_15 => intro wx hSw; (go_simp) <;> with_reducible rfl
            simp only [Act.put, List.setIfInBounds_toArray, List.set_cons_zero, List.set_cons_succ]
            refine takeAt (i := 16) (d := some 152) (v := ?v11_16) rfl (by rfl) (by kernel_rfl) (by kernel_rfl) (by kernel_rfl) (fun _ _ _ h => h) (Or.inl ⟨by rfl, ?y11_16⟩) hS ?_
            case y11_16 => intro wx hSw; (go_simp) <;> with_reducible rfl
            simp only [Act.put, List.setIfInBounds_toArray, List.set_cons_zero, List.set_cons_succ]
            refine takeAt (i := 17) (d := some 153) (v := ?v11_17) rfl (by rfl) (by kernel_rfl) (by kernel_rfl) (by kernel_rfl) (fun _ _ _ h => h) (Or.inl ⟨by rfl, ?y11_17⟩) hS ?_
            case y11_17 => intro wx hSw; (go_simp) <;> with_reducible rfl
            simp only [Act.put, List.setIfInBounds_toArray, List.set_cons_zero, List.set_cons_succ]
            refine takeAt (i := 18) (d := some 154) (v := ?v11_18) rfl (by rfl) (by kernel_rfl) (by kernel_rfl) (by kernel_rfl) (fun _ _ _ h => h) (Or.inl ⟨by rfl, ?y11_18⟩) hS ?_
            case y11_18 => intro wx hSw; (go_simp) <;> with_reducible rfl
            simp only [Act.put, List.setIfInBounds_toArray, List.set_cons_zero, List.set_cons_succ]
            refine takeAt (i := 19) (d := some 155) (v := ?v11_19) rfl (by rfl) (by kernel_rfl) (by kernel_rfl) (by kernel_rfl) (fun _ _ _ h => h) (Or.inl ⟨by rfl, ?y11_19⟩) hS ?_
            case y11_19 => intro wx hSw; (go_simp) <;> with_reducible rfl
            simp only [Act.put, List.setIfInBounds_toArray, List.set_cons_zero, List.set_cons_succ]
            refine takeAt (i := 20) (d := some 156) (v := ?v11_20) rfl (by rfl) (by kernel_rfl) (by kernel_rfl) (by kernel_rfl) (fun _ _ _ h => h) (Or.inl ⟨by rfl, ?y11_20⟩) hS ?_
            case y11_20 => intro wx hSw; (go_simp) <;> with_reducible rfl
            simp only [Act.put, List.setIfInBounds_toArray, List.set_cons_zero, List.set_cons_succ]
            refine wpAnyH_ready (rs := [21]) (by kernel_rfl) (by simp) ?_
            refine AllReadyH.cons rfl (fun K hK => ?_) AllReadyH.nil
            go_simp
            refine (dom_any F a' y _ (IB.out.on st0) HL.out HJ.out).mono ?_
            rintro e wh ⟨pr, rfl, hpr, hbh⟩
            obtain rfl : pr = true := (ans_dom ha' hy hpr).2 NB.out.dom
            have st1 : Below wb.heap.size wb wh := View.more st0 hbh
            clear hpr hbh
            go_wp2_with fail
            refine hK.out _ _ st1 (fun _ => ?_)
            clear hK K
            replace hS := st1
            try simp only [Act.put, List.setIfInBounds_toArray, List.set_cons_zero, List.set_cons_succ]
            refine takeAt (i := 22) (d := some 158) (v := ?v11_22) rfl (by rfl) (by kernel_rfl) (by kernel_rfl) (by kernel_rfl) (fun _ _ _ h => h) (Or.inl ⟨by rfl, ?y11_22⟩) hS ?_
            case y11_22 => intro wx hSw; (go_simp) <;> with_reducible rfl
            simp only [Act.put, List.setIfInBounds_toArray, List.set_cons_zero, List.set_cons_succ]
            refine takeAt (i := 23) (d := some 159) (v := ?v11_23) rfl (by rfl) (by kernel_rfl) (by kernel_rfl) (by kernel_rfl) (fun _ _ _ h => h) (Or.inl ⟨by rfl, ?y11_23⟩) hS ?_
            case y11_23 => intro wx hSw; (go_simp) <;> with_reducible rfl
            simp only [Act.put, List.setIfInBounds_toArray, List.set_cons_zero, List.set_cons_succ]
            refine takeAt (i := 24) (d := some 160) (v := ?v11_24) rfl (by rfl) (by kernel_rfl) (by kernel_rfl) (by kernel_rfl) (fun _ _ _ h => h) (Or.inl ⟨by rfl, ?y11_24⟩) hS ?_
            case y11_24 => intro wx hSw; (go_simp) <;> with_reducible rfl
            simp only [Act.put, List.setIfInBounds_toArray, List.set_cons_zero, List.set_cons_succ]
            refine takeAt (i := 25) (d := some 161) (v := ?v11_25) rfl (by rfl) (by kernel_rfl) (by kernel_rfl) (by kernel_rfl) (fun _ _ _ h => h) (Or.inl ⟨by rfl, ?y11_25⟩) hS ?_
            case y11_25 => intro wx hSw; (go_simp) <;> with_reducible rfl
            simp only [Act.put, List.setIfInBounds_toArray, List.set_cons_zero, List.set_cons_succ]
            refine takeAt (i := 26) (d := some 162) (v := ?v11_26) rfl (by rfl) (by kernel_rfl) (by kernel_rfl) (by kernel_rfl) (fun _ _ _ h => h) (Or.inl ⟨by rfl, ?y11_26⟩) hS ?_
            case y11_26 => intro wx hSw; (go_simp) <;> with_reducible rfl
            simp only [Act.put, List.setIfInBounds_toArray, List.set_cons_zero, List.set_cons_succ]
            refine takeAt (i := 27) (d := some 163) (v := ?v11_27) rfl (by rfl) (by kernel_rfl) (by kernel_rfl) (by kernel_rfl) (fun _ _ _ h => h) (Or.inl ⟨by rfl, ?y11_27⟩) hS ?_
            case y11_27 => intro wx hSw; (go_simp) <;> with_reducible rfl
            simp only [Act.put, List.setIfInBounds_toArray, List.set_cons_zero, List.set_cons_succ]
            refine takeAt (i := 28) (d := some 164) (v := ?v11_28) rfl (by rfl) (by kernel_rfl) (by kernel_rfl) (by kernel_rfl) (fun _ _ _ h => h) (Or.inl ⟨by rfl, ?y11_28⟩) hS ?_
            case y11_28 => intro wx hSw; (go_simp) <;> with_reducible rfl
            simp only [Act.put, List.setIfInBounds_toArray, List.set_cons_zero, List.set_cons_succ]
            refine takeAt (i := 29) (d := some 165) (v := ?v11_29) rfl (by rfl) (by kernel_rfl) (by kernel_rfl) (by kernel_rfl) (fun _ _ _ h => h) (Or.inl ⟨by rfl, ?y11_29⟩) hS ?_
            case y11_29 => intro wx hSw; (go_simp) <;> with_reducible rfl
            simp only [Act.put, List.setIfInBounds_toArray, List.set_cons_zero, List.set_cons_succ]
            refine takeAt (i := 30) (d := some 166) (v := ?v11_30) rfl (by rfl) (by kernel_rfl) (by kernel_rfl) (by kernel_rfl) (fun _ _ _ h => h) (Or.inl ⟨by rfl, ?y11_30⟩) hS ?_
            case y11_30 => intro wx hSw; (go_simp) <;> with_reducible rfl
            simp only [Act.put, List.setIfInBounds_toArray, List.set_cons_zero, List.set_cons_succ]
            refine takeAt (i := 31) (d := some 167) (v := ?v11_31) rfl (by rfl) (by kernel_rfl) (by kernel_rfl) (by kernel_rfl) (fun _ _ _ h => h) (Or.inl ⟨by rfl, ?y11_31⟩) hS ?_
            case y11_31 => intro wx hSw; (go_simp) <;> with_reducible rfl
            simp only [Act.put, List.setIfInBounds_toArray, List.set_cons_zero, List.set_cons_succ]
            refine takeAt (i := 32) (d := some 168) (v := undef) rfl (by rfl) (by kernel_rfl) (by kernel_rfl) (by kernel_rfl) (fun _ _ _ h => h) (Or.inr ⟨by rfl, rfl⟩) hS ?_
            simp only [Act.put, List.setIfInBounds_toArray, List.set_cons_zero, List.set_cons_succ]
            refine takeAt (i := 33) (d := some 169) (v := undef) rfl (by rfl) (by kernel_rfl) (by kernel_rfl) (by kernel_rfl) (fun _ _ _ h => h) (Or.inr ⟨by rfl, rfl⟩) hS ?_
            simp only [Act.put, List.setIfInBounds_toArray, List.set_cons_zero, List.set_cons_succ]
            refine takeAt (i := 34) (d := some 170) (v := undef) rfl (by rfl) (by kernel_rfl) (by kernel_rfl) (by kernel_rfl) (fun _ _ _ h => h) (Or.inr ⟨by rfl, rfl⟩) hS ?_
            simp only [Act.put, List.setIfInBounds_toArray, List.set_cons_zero, List.set_cons_succ]
            refine takeAt (i := 35) (d := some 171) (v := undef) rfl (by rfl) (by kernel_rfl) (by kernel_rfl) (by kernel_rfl) (fun _ _ _ h => h) (Or.inr ⟨by rfl, rfl⟩) hS ?_
            simp only [Act.put, List.setIfInBounds_toArray, List.set_cons_zero, List.set_cons_succ]
            refine takeAt (i := 36) (d := some 172) (v := undef) rfl (by rfl) (by kernel_rfl) (by kernel_rfl) (by kernel_rfl) (fun _ _ _ h => h) (Or.inr ⟨by rfl, rfl⟩) hS ?_
            simp only [Act.put, List.setIfInBounds_toArray, List.set_cons_zero, List.set_cons_succ]
            refine takeAt (i := 37) (d := some 173) (v := undef) rfl (by rfl) (by kernel_rfl) (by kernel_rfl) (by kernel_rfl) (fun _ _ _ h => h) (Or.inr ⟨by rfl, rfl⟩) hS ?_
            simp only [Act.put, List.setIfInBounds_toArray, List.set_cons_zero, List.set_cons_succ]
            refine takeAt (i := 38) (d := some 174) (v := undef) rfl (by rfl) (by kernel_rfl) (by kernel_rfl) (by kernel_rfl) (fun _ _ _ h => h) (Or.inr ⟨by rfl, rfl⟩) hS ?_
            simp only [Act.put, List.setIfInBounds_toArray, List.set_cons_zero, List.set_cons_succ]
            refine takeAt (i := 39) (d := some 175) (v := ?v11_39) rfl (by rfl) (by kernel_rfl) (by kernel_rfl) (by kernel_rfl) (fun _ _ _ h => h) (Or.inl ⟨by rfl, ?y11_39⟩) hS ?_
            case y11_39 => intro wx hSw; (go_simp) <;> with_reducible rfl
            simp only [Act.put, List.setIfInBounds_toArray, List.set_cons_zero, List.set_cons_succ]
            refine takeAt (i := 40) (d := some 176) (v := ?v11_40) rfl (by rfl) (by kernel_rfl) (by kernel_rfl) (by kernel_rfl) (fun _ _ _ h => h) (Or.inl ⟨by rfl, ?y11_40⟩) hS ?_
            case y11_40 => intro wx hSw; (go_simp) <;> with_reducible rfl
            simp only [Act.put, List.setIfInBounds_toArray, List.set_cons_zero, List.set_cons_succ]
            refine takeAt (i := 41) (d := some 8) (v := ?v11_41) rfl (by rfl) (by kernel_rfl) (by kernel_rfl) (by kernel_rfl) (fun _ _ _ h => h) (Or.inl ⟨by rfl, ?y11_41⟩) hS ?_
            case y11_41 => intro wx hSw; (go_simp) <;> with_reducible rfl
            simp only [Act.put, List.setIfInBounds_toArray, List.set_cons_zero, List.set_cons_succ]
            refine wpAnyH_done (by kernel_rfl) ?_ _
            refine NoPanic.normal ?_
            go_wp2_with fail
            go_ret
            exact ⟨rfl, View.more BB.out st1⟩
          | true =>
            have QX := hid (PX.out.1 rfl)
            have QY := hid (show ¬ DomR F y z from fun h => absurd (PY.out.2 h) (by simp))
            have QZ := hid (PZ.out.1 rfl)
            clear PX PY PZ
            obtain ⟨c0, c1, c2, c3, c4⟩ := FB.out.on CF.out
            have e1 := D0 _ CF.out
            go_wp2_with fail
            have st0 : Below wb.heap.size wb wf.drew := Below.drew CF.out
            clear c0 c1 c2 c3 c4 e1
            refine wp_region_noPanic ?_
            refine wp_region_held_drew (S := fun wx => Below wb.heap.size wb wx) (by kernel_rfl) st0 (fun hS => ?_)
            refine takeAt (i := 0) (d := some 136) (v := ?v11_0) rfl (by rfl) (by kernel_rfl) (by kernel_rfl) (by kernel_rfl) (fun _ _ _ h => h) (Or.inl ⟨by rfl, ?y11_0⟩) hS ?_
            case y11_0 => intro wx hSw; (go_simp) <;> with_reducible rfl
            simp only [Act.put, List.setIfInBounds_toArray, List.set_cons_zero, List.set_cons_succ]
            refine takeAt (i := 1) (d := some 137) (v := ?v11_1) rfl (by rfl) (by kernel_rfl) (by kernel_rfl) (by kernel_rfl) (fun _ _ _ h => h) (Or.inl ⟨by rfl, ?y11_1⟩) hS ?_
            case y11_1 => intro wx hSw; (go_simp) <;> with_reducible rfl
            simp only [Act.put, List.setIfInBounds_toArray, List.set_cons_zero, List.set_cons_succ]
            refine takeAt (i := 2) (d := some 138) (v := ?v11_2) rfl (by rfl) (by kernel_rfl) (by kernel_rfl) (by kernel_rfl) (fun _ _ _ h => h) (Or.inl ⟨by rfl, ?y11_2⟩) hS ?_
            case y11_2 => intro wx hSw; (go_simp) <;> with_reducible rfl
            simp only [Act.put, List.setIfInBounds_toArray, List.set_cons_zero, List.set_cons_succ]
            refine takeAt (i := 3) (d := some 139) (v := ?v11_3) rfl (by rfl) (by kernel_rfl) (by kernel_rfl) (by kernel_rfl) (fun _ _ _ h => h) (Or.inl ⟨by rfl, ?y11_3⟩) hS ?_
            case y11_3 => intro wx hSw; (go_simp) <;> with_reducible rfl
            simp only [Act.put, List.setIfInBounds_toArray, List.set_cons_zero, List.set_cons_succ]
            refine takeAt (i := 4) (d := some 140) (v := ?v11_4) rfl (by rfl) (by kernel_rfl) (by kernel_rfl) (by kernel_rfl) (fun _ _ _ h => h) (Or.inl ⟨by rfl, ?y11_4⟩) hS ?_
            case y11_4 => intro wx hSw; (go_simp) <;> with_reducible rfl
            simp only [Act.put, List.setIfInBounds_toArray, List.set_cons_zero, List.set_cons_succ]
            refine takeAt (i := 5) (d := some 141) (v := ?v11_5) rfl (by rfl) (by kernel_rfl) (by kernel_rfl) (by kernel_rfl) (fun _ _ _ h => h) (Or.inl ⟨by rfl, ?y11_5⟩) hS ?_
            case y11_5 => intro wx hSw; (go_simp) <;> with_reducible rfl
            simp only [Act.put, List.setIfInBounds_toArray, List.set_cons_zero, List.set_cons_succ]
            refine takeAt (i := 6) (d := some 142) (v := ?v11_6) rfl (by rfl) (by kernel_rfl) (by kernel_rfl) (by kernel_rfl) (fun _ _ _ h => h) (Or.inl ⟨by rfl, ?y11_6⟩) hS ?_
            case y11_6 => intro wx hSw; (go_simp) <;> with_reducible rfl
            simp only [Act.put, List.setIfInBounds_toArray, List.set_cons_zero, List.set_cons_succ]
            refine takeAt (i := 7) (d := some 143) (v := ?v11_7) rfl (by rfl) (by kernel_rfl) (by kernel_rfl) (by kernel_rfl) (fun _ _ _ h => h) (Or.inl ⟨by rfl, ?y11_7⟩) hS ?_
            case y11_7 => intro wx hSw; (go_simp) <;> with_reducible rfl
            simp only [Act.put, List.setIfInBounds_toArray, List.set_cons_zero, List.set_cons_succ]
            refine takeAt (i := 8) (d := some 144) (v := ?v11_8) rfl (by rfl) (by kernel_rfl) (by kernel_rfl) (by kernel_rfl) (fun _ _ _ h => h) (Or.inl ⟨by rfl, ?y11_8⟩) hS ?_
            case y11_8 => intro wx hSw; (go_simp) <;> with_reducible rfl
            simp only [Act.put, List.setIfInBounds_toArray, List.set_cons_zero, List.set_cons_succ]
            refine takeAt (i := 9) (d := some 145) (v := ?v11_9) rfl (by rfl) (by kernel_rfl) (by kernel_rfl) (by kernel_rfl) (fun _ _ _ h => h) (Or.inl ⟨by rfl, ?y11_9⟩) hS ?_
            case y11_9 => intro wx hSw; (go_simp) <;> with_reducible rfl
            simp only [Act.put, List.setIfInBounds_toArray, List.set_cons_zero, List.set_cons_succ]
            refine takeAt (i := 10) (d := some 146) (v := ?v11_10) rfl (by rfl) (by kernel_rfl) (by kernel_rfl) (by kernel_rfl) (fun _ _ _ h => h) (Or.inl ⟨by rfl, ?y11_10⟩) hS ?_
            case y11_10 => intro wx hSw; (go_simp) <;> with_reducible rfl
            simp only [Act.put, List.setIfInBounds_toArray, List.set_cons_zero, List.set_cons_succ]
            refine takeAt (i := 11) (d := some 147) (v := ?v11_11) rfl (by rfl) (by kernel_rfl) (by kernel_rfl) (by kernel_rfl) (fun _ _ _ h => h) (Or.inl ⟨by rfl, ?y11_11⟩) hS ?_
            case y11_11 => intro wx hSw; (go_simp) <;> with_reducible rfl
            simp only [Act.put, List.setIfInBounds_toArray, List.set_cons_zero, List.set_cons_succ]
            refine takeAt (i := 12) (d := some 148) (v := ?v11_12) rfl (by rfl) (by kernel_rfl) (by kernel_rfl) (by kernel_rfl) (fun _ _ _ h => h) (Or.inl ⟨by rfl, ?y11_12⟩) hS ?_
            case y11_12 => intro wx hSw; (go_simp) <;> with_reducible rfl
            simp only [Act.put, List.setIfInBounds_toArray, List.set_cons_zero, List.set_cons_succ]
            refine takeAt (i := 13) (d := some 149) (v := ?v11_13) rfl (by rfl) (by kernel_rfl) (by kernel_rfl) (by kernel_rfl) (fun _ _ _ h => h) (Or.inl ⟨by rfl, ?y11_13⟩) hS ?_
            case y11_13 => intro wx hSw; (go_simp) <;> with_reducible rfl
            simp only [Act.put, List.setIfInBounds_toArray, List.set_cons_zero, List.set_cons_succ]
            refine takeAt (i := 14) (d := some 150) (v := ?v11_14) rfl (by rfl) (by kernel_rfl) (by kernel_rfl) (by kernel_rfl) (fun _ _ _ h => h) (Or.inl ⟨by rfl, ?y11_14⟩) hS ?_
            case y11_14 => intro wx hSw; (go_simp) <;> with_reducible rfl
            simp only [Act.put, List.setIfInBounds_toArray, List.set_cons_zero, List.set_cons_succ]
            refine takeAt (i := 15) (d := some 151) (v := ?v11_15) rfl (by rfl) (by kernel_rfl) (by kernel_rfl) (by kernel_rfl) (fun _ _ _ h => h) (Or.inl ⟨by rfl, ?y11_15⟩) hS ?_
            case y11_15 => intro wx hSw; (go_simp) <;> with_reducible rfl
            simp only [Act.put, List.setIfInBounds_toArray, List.set_cons_zero, List.set_cons_succ]
            refine takeAt (i := 16) (d := some 152) (v := ?v11_16) rfl (by rfl) (by kernel_rfl) (by kernel_rfl) (by kernel_rfl) (fun _ _ _ h => h) (Or.inl ⟨by rfl, ?y11_16⟩) hS ?_
            case y11_16 => intro wx hSw; (go_simp) <;> with_reducible rfl
            simp only [Act.put, List.setIfInBounds_toArray, List.set_cons_zero, List.set_cons_succ]
            refine takeAt (i := 17) (d := some 153) (v := ?v11_17) rfl (by rfl) (by kernel_rfl) (by kernel_rfl) (by kernel_rfl) (fun _ _ _ h => h) (Or.inl ⟨by rfl, ?y11_17⟩) hS ?_
            case y11_17 => intro wx hSw; (go_simp) <;> with_reducible rfl
            simp only [Act.put, List.setIfInBounds_toArray, List.set_cons_zero, List.set_cons_succ]
            refine takeAt (i := 18) (d := some 154) (v := ?v11_18) rfl (by rfl) (by kernel_rfl) (by kernel_rfl) (by kernel_rfl) (fun _ _ _ h => h) (Or.inl ⟨by rfl, ?y11_18⟩) hS ?_
            case y11_18 => intro wx hSw; (go_simp) <;> with_reducible rfl
            simp only [Act.put, List.setIfInBounds_toArray, List.set_cons_zero, List.set_cons_succ]
            refine takeAt (i := 19) (d := some 155) (v := ?v11_19) rfl (by rfl) (by kernel_rfl) (by kernel_rfl) (by kernel_rfl) (fun _ _ _ h => h) (Or.inl ⟨by rfl, ?y11_19⟩) hS ?_
            case y11_19 => intro wx hSw; (go_simp) <;> with_reducible rfl
            simp only [Act.put, List.setIfInBounds_toArray, List.set_cons_zero, List.set_cons_succ]
            refine takeAt (i := 20) (d := some 156) (v := ?v11_20) rfl (by rfl) (by kernel_rfl) (by kernel_rfl) (by kernel_rfl) (fun _ _ _ h => h) (Or.inl ⟨by rfl, ?y11_20⟩) hS ?_
            case y11_20 => intro wx hSw; (go_simp) <;> with_reducible rfl
            simp only [Act.put, List.setIfInBounds_toArray, List.set_cons_zero, List.set_cons_succ]
            refine wpAnyH_ready (rs := [21]) (by kernel_rfl) (by simp) ?_
            refine AllReadyH.cons rfl (fun K hK => ?_) AllReadyH.nil
            go_simp
            refine (dom_any F a' y _ (IB.out.on st0) HL.out HJ.out).mono ?_
            rintro e wh ⟨pr, rfl, hpr, hbh⟩
            obtain rfl : pr = true := (ans_dom ha' hy hpr).2 NB.out.dom
            have st1 : Below wb.heap.size wb wh := View.more st0 hbh
            clear hpr hbh
            go_wp2_with fail
            refine hK.out _ _ st1 (fun _ => ?_)
            clear hK K
            replace hS := st1
            try simp only [Act.put, List.setIfInBounds_toArray, List.set_cons_zero, List.set_cons_succ]
            refine takeAt (i := 22) (d := some 158) (v := ?v11_22) rfl (by rfl) (by kernel_rfl) (by kernel_rfl) (by kernel_rfl) (fun _ _ _ h => h) (Or.inl ⟨by rfl, ?y11_22⟩) hS ?_
            case y11_22 => intro wx hSw; (go_simp) <;> with_reducible rfl
            simp only [Act.put, List.setIfInBounds_toArray, List.set_cons_zero, List.set_cons_succ]
            refine takeAt (i := 23) (d := some 159) (v := ?v11_23) rfl (by rfl) (by kernel_rfl) (by kernel_rfl) (by kernel_rfl) (fun _ _ _ h => h) (Or.inl ⟨by rfl, ?y11_23⟩) hS ?_
            case y11_23 => intro wx hSw; (go_simp) <;> with_reducible rfl
            simp only [Act.put, List.setIfInBounds_toArray, List.set_cons_zero, List.set_cons_succ]
            refine takeAt (i := 24) (d := some 160) (v := ?v11_24) rfl (by rfl) (by kernel_rfl) (by kernel_rfl) (by kernel_rfl) (fun _ _ _ h => h) (Or.inl ⟨by rfl, ?y11_24⟩) hS ?_
            case y11_24 => intro wx hSw; (go_simp) <;> with_reducible rfl
            simp only [Act.put, List.setIfInBounds_toArray, List.set_cons_zero, List.set_cons_succ]
            refine takeAt (i := 25) (d := some 161) (v := ?v11_25) rfl (by rfl) (by kernel_rfl) (by kernel_rfl) (by kernel_rfl) (fun _ _ _ h => h) (Or.inl ⟨by rfl, ?y11_25⟩) hS ?_
            case y11_25 => intro wx hSw; (go_simp) <;> with_reducible rfl
            simp only [Act.put, List.setIfInBounds_toArray, List.set_cons_zero, List.set_cons_succ]
            refine takeAt (i := 26) (d := some 162) (v := ?v11_26) rfl (by rfl) (by kernel_rfl) (by kernel_rfl) (by kernel_rfl) (fun _ _ _ h => h) (Or.inl ⟨by rfl, ?y11_26⟩) hS ?_
            case y11_26 => intro wx hSw; (go_simp) <;> with_reducible rfl
            simp only [Act.put, List.setIfInBounds_toArray, List.set_cons_zero, List.set_cons_succ]
            refine takeAt (i := 27) (d := some 163) (v := ?v11_27) rfl (by rfl) (by kernel_rfl) (by kernel_rfl) (by kernel_rfl) (fun _ _ _ h => h) (Or.inl ⟨by rfl, ?y11_27⟩) hS ?_
            case y11_27 => intro wx hSw; (go_simp) <;> with_reducible rfl
            simp only [Act.put, List.setIfInBounds_toArray, List.set_cons_zero, List.set_cons_succ]
            refine takeAt (i := 28) (d := some 164) (v := ?v11_28) rfl (by rfl) (by kernel_rfl) (by kernel_rfl) (by kernel_rfl) (fun _ _ _ h => h) (Or.inl ⟨by rfl, ?y11_28⟩) hS ?_
            case y11_28 => intro wx hSw; (go_simp) <;> with_reducible rfl
            simp only [Act.put, List.setIfInBounds_toArray, List.set_cons_zero, List.set_cons_succ]
            refine takeAt (i := 29) (d := some 165) (v := ?v11_29) rfl (by rfl) (by kernel_rfl) (by kernel_rfl) (by kernel_rfl) (fun _ _ _ h => h) (Or.inl ⟨by rfl, ?y11_29⟩) hS ?_
            case y11_29 => intro wx hSw; (go_simp) <;> with_reducible rfl
            simp only [Act.put, List.setIfInBounds_toArray, List.set_cons_zero, List.set_cons_succ]
            refine takeAt (i := 30) (d := some 166) (v := ?v11_30) rfl (by rfl) (by kernel_rfl) (by kernel_rfl) (by kernel_rfl) (fun _ _ _ h => h) (Or.inl ⟨by rfl, ?y11_30⟩) hS ?_
            case y11_30 => intro wx hSw; (go_simp) <;> with_reducible rfl
            simp only [Act.put, List.setIfInBounds_toArray, List.set_cons_zero, List.set_cons_succ]
            refine takeAt (i := 31) (d := some 167) (v := ?v11_31) rfl (by rfl) (by kernel_rfl) (by kernel_rfl) (by kernel_rfl) (fun _ _ _ h => h) (Or.inl ⟨by rfl, ?y11_31⟩) hS ?_
            case y11_31 => intro wx hSw; (go_simp) <;> with_reducible rfl
            simp only [Act.put, List.setIfInBounds_toArray, List.set_cons_zero, List.set_cons_succ]
            refine takeAt (i := 32) (d := some 168) (v := undef) rfl (by rfl) (by kernel_rfl) (by kernel_rfl) (by kernel_rfl) (fun _ _ _ h => h) (Or.inr ⟨by rfl, rfl⟩) hS ?_
            simp only [Act.put, List.setIfInBounds_toArray, List.set_cons_zero, List.set_cons_succ]
            refine takeAt (i := 33) (d := some 169) (v := undef) rfl (by rfl) (by kernel_rfl) (by kernel_rfl) (by kernel_rfl) (fun _ _ _ h => h) (Or.inr ⟨by rfl, rfl⟩) hS ?_
            simp only [Act.put, List.setIfInBounds_toArray, List.set_cons_zero, List.set_cons_succ]
            refine takeAt (i := 34) (d := some 170) (v := undef) rfl (by rfl) (by kernel_rfl) (by kernel_rfl) (by kernel_rfl) (fun _ _ _ h => h) (Or.inr ⟨by rfl, rfl⟩) hS ?_
            simp only [Act.put, List.setIfInBounds_toArray, List.set_cons_zero, List.set_cons_succ]
            refine takeAt (i := 35) (d := some 171) (v := undef) rfl (by rfl) (by kernel_rfl) (by kernel_rfl) (by kernel_rfl) (fun _ _ _ h => h) (Or.inr ⟨by rfl, rfl⟩) hS ?_
            simp only [Act.put, List.setIfInBounds_toArray, List.set_cons_zero, List.set_cons_succ]
            refine takeAt (i := 36) (d := some 172) (v := undef) rfl (by rfl) (by kernel_rfl) (by kernel_rfl) (by kernel_rfl) (fun _ _ _ h => h) (Or.inr ⟨by rfl, rfl⟩) hS ?_
            simp only [Act.put, List.setIfInBounds_toArray, List.set_cons_zero, List.set_cons_succ]
            refine takeAt (i := 37) (d := some 173) (v := undef) rfl (by rfl) (by kernel_rfl) (by kernel_rfl) (by kernel_rfl) (fun _ _ _ h => h) (Or.inr ⟨by rfl, rfl⟩) hS ?_
            simp only [Act.put, List.setIfInBounds_toArray, List.set_cons_zero, List.set_cons_succ]
            refine takeAt (i := 38) (d := some 174) (v := undef) rfl (by rfl) (by kernel_rfl) (by kernel_rfl) (by kernel_rfl) (fun _ _ _ h => h) (Or.inr ⟨by rfl, rfl⟩) hS ?_
            simp only [Act.put, List.setIfInBounds_toArray, List.set_cons_zero, List.set_cons_succ]
            refine takeAt (i := 39) (d := some 175) (v := ?v11_39) rfl (by rfl) (by kernel_rfl) (by kernel_rfl) (by kernel_rfl) (fun _ _ _ h => h) (Or.inl ⟨by rfl, ?y11_39⟩) hS ?_
            case y11_39 => intro wx hSw; (go_simp) <;> with_reducible rfl
            simp only [Act.put, List.setIfInBounds_toArray, List.set_cons_zero, List.set_cons_succ]
            refine takeAt (i := 40) (d := some 176) (v := ?v11_40) rfl (by rfl) (by kernel_rfl) (by kernel_rfl) (by kernel_rfl) (fun _ _ _ h => h) (Or.inl ⟨by rfl, ?y11_40⟩) hS ?_
            case y11_40 => intro wx hSw; (go_simp) <;> with_reducible rfl
            simp only [Act.put, List.setIfInBounds_toArray, List.set_cons_zero, List.set_cons_succ]
            refine takeAt (i := 41) (d := some 8) (v := ?v11_41) rfl (by rfl) (by kernel_rfl) (by kernel_rfl) (by kernel_rfl) (fun _ _ _ h => h) (Or.inl ⟨by rfl, ?y11_41⟩) hS ?_
            case y11_41 => intro wx hSw; (go_simp) <;> with_reducible rfl
            simp only [Act.put, List.setIfInBounds_toArray, List.set_cons_zero, List.set_cons_succ]
            refine wpAnyH_done (by kernel_rfl) ?_ _
            refine NoPanic.normal ?_
            go_wp2_with fail
            go_ret
            exact ⟨rfl, View.more BB.out st1⟩
        | true =>
          cases pz with
          | false =>
            have QX := hid (PX.out.1 rfl)
            have QY := hid (PY.out.1 rfl)
            have QZ := hid (show ¬ DomR F x z from fun h => absurd (PZ.out.2 h) (by simp))
            clear PX PY PZ
            exact absurd (dom_trans QX.out QY.out GR.out) QZ.out
          | true =>
            have QX := hid (PX.out.1 rfl)
            have QY := hid (PY.out.1 rfl)
            have QZ := hid (PZ.out.1 rfl)
            clear PX PY PZ
            obtain ⟨c0, c1, c2, c3, c4⟩ := FB.out.on CF.out
            have e1 := D0 _ CF.out
            go_wp2_with fail
            have st0 : Below wb.heap.size wb wf.drew := Below.drew CF.out
            clear c0 c1 c2 c3 c4 e1
            refine wp_region_noPanic ?_
            refine wp_region_held_drew (S := fun wx => Below wb.heap.size wb wx) (by kernel_rfl) st0 (fun hS => ?_)
            refine takeAt (i := 0) (d := some 136) (v := ?v11_0) rfl (by rfl) (by kernel_rfl) (by kernel_rfl) (by kernel_rfl) (fun _ _ _ h => h) (Or.inl ⟨by rfl, ?y11_0⟩) hS ?_
            case y11_0 => intro wx hSw; (go_simp) <;> with_reducible rfl
            simp only [Act.put, List.setIfInBounds_toArray, List.set_cons_zero, List.set_cons_succ]
            refine takeAt (i := 1) (d := some 137) (v := ?v11_1) rfl (by rfl) (by kernel_rfl) (by kernel_rfl) (by kernel_rfl) (fun _ _ _ h => h) (Or.inl ⟨by rfl, ?y11_1⟩) hS ?_
            case y11_1 => intro wx hSw; (go_simp) <;> with_reducible rfl
            simp only [Act.put, List.setIfInBounds_toArray, List.set_cons_zero, List.set_cons_succ]
            refine takeAt (i := 2) (d := some 138) (v := ?v11_2) rfl (by rfl) (by kernel_rfl) (by kernel_rfl) (by kernel_rfl) (fun _ _ _ h => h) (Or.inl ⟨by rfl, ?y11_2⟩) hS ?_
            case y11_2 => intro wx hSw; (go_simp) <;> with_reducible rfl
            simp only [Act.put, List.setIfInBounds_toArray, List.set_cons_zero, List.set_cons_succ]
            refine takeAt (i := 3) (d := some 139) (v := ?v11_3) rfl (by rfl) (by kernel_rfl) (by kernel_rfl) (by kernel_rfl) (fun _ _ _ h => h) (Or.inl ⟨by rfl, ?y11_3⟩) hS ?_
            case y11_3 => intro wx hSw; (go_simp) <;> with_reducible rfl
            simp only [Act.put, List.setIfInBounds_toArray, List.set_cons_zero, List.set_cons_succ]
            refine takeAt (i := 4) (d := some 140) (v := ?v11_4) rfl (by rfl) (by kernel_rfl) (by kernel_rfl) (by kernel_rfl) (fun _ _ _ h => h) (Or.inl ⟨by rfl, ?y11_4⟩) hS ?_
            case y11_4 => intro wx hSw; (go_simp) <;> with_reducible rfl
            simp only [Act.put, List.setIfInBounds_toArray, List.set_cons_zero, List.set_cons_succ]
            refine takeAt (i := 5) (d := some 141) (v := ?v11_5) rfl (by rfl) (by kernel_rfl) (by kernel_rfl) (by kernel_rfl) (fun _ _ _ h => h) (Or.inl ⟨by rfl, ?y11_5⟩) hS ?_
            case y11_5 => intro wx hSw; (go_simp) <;> with_reducible rfl
            simp only [Act.put, List.setIfInBounds_toArray, List.set_cons_zero, List.set_cons_succ]
            refine takeAt (i := 6) (d := some 142) (v := ?v11_6) rfl (by rfl) (by kernel_rfl) (by kernel_rfl) (by kernel_rfl) (fun _ _ _ h => h) (Or.inl ⟨by rfl, ?y11_6⟩) hS ?_
            case y11_6 => intro wx hSw; (go_simp) <;> with_reducible rfl
            simp only [Act.put, List.setIfInBounds_toArray, List.set_cons_zero, List.set_cons_succ]
            refine takeAt (i := 7) (d := some 143) (v := ?v11_7) rfl (by rfl) (by kernel_rfl) (by kernel_rfl) (by kernel_rfl) (fun _ _ _ h => h) (Or.inl ⟨by rfl, ?y11_7⟩) hS ?_
            case y11_7 => intro wx hSw; (go_simp) <;> with_reducible rfl
            simp only [Act.put, List.setIfInBounds_toArray, List.set_cons_zero, List.set_cons_succ]
            refine takeAt (i := 8) (d := some 144) (v := ?v11_8) rfl (by rfl) (by kernel_rfl) (by kernel_rfl) (by kernel_rfl) (fun _ _ _ h => h) (Or.inl ⟨by rfl, ?y11_8⟩) hS ?_
            case y11_8 => intro wx hSw; (go_simp) <;> with_reducible rfl
            simp only [Act.put, List.setIfInBounds_toArray, List.set_cons_zero, List.set_cons_succ]
            refine takeAt (i := 9) (d := some 145) (v := ?v11_9) rfl (by rfl) (by kernel_rfl) (by kernel_rfl) (by kernel_rfl) (fun _ _ _ h => h) (Or.inl ⟨by rfl, ?y11_9⟩) hS ?_
            case y11_9 => intro wx hSw; (go_simp) <;> with_reducible rfl
            simp only [Act.put, List.setIfInBounds_toArray, List.set_cons_zero, List.set_cons_succ]
            refine takeAt (i := 10) (d := some 146) (v := ?v11_10) rfl (by rfl) (by kernel_rfl) (by kernel_rfl) (by kernel_rfl) (fun _ _ _ h => h) (Or.inl ⟨by rfl, ?y11_10⟩) hS ?_
            case y11_10 => intro wx hSw; (go_simp) <;> with_reducible rfl
            simp only [Act.put, List.setIfInBounds_toArray, List.set_cons_zero, List.set_cons_succ]
            refine takeAt (i := 11) (d := some 147) (v := ?v11_11) rfl (by rfl) (by kernel_rfl) (by kernel_rfl) (by kernel_rfl) (fun _ _ _ h => h) (Or.inl ⟨by rfl, ?y11_11⟩) hS ?_
            case y11_11 => intro wx hSw; (go_simp) <;> with_reducible rfl
            simp only [Act.put, List.setIfInBounds_toArray, List.set_cons_zero, List.set_cons_succ]
            refine takeAt (i := 12) (d := some 148) (v := ?v11_12) rfl (by rfl) (by kernel_rfl) (by kernel_rfl) (by kernel_rfl) (fun _ _ _ h => h) (Or.inl ⟨by rfl, ?y11_12⟩) hS ?_
            case y11_12 => intro wx hSw; (go_simp) <;> with_reducible rfl
            simp only [Act.put, List.setIfInBounds_toArray, List.set_cons_zero, List.set_cons_succ]
            refine takeAt (i := 13) (d := some 149) (v := ?v11_13) rfl (by rfl) (by kernel_rfl) (by kernel_rfl) (by kernel_rfl) (fun _ _ _ h => h) (Or.inl ⟨by rfl, ?y11_13⟩) hS ?_
            case y11_13 => intro wx hSw; (go_simp) <;> with_reducible rfl
            simp only [Act.put, List.setIfInBounds_toArray, List.set_cons_zero, List.set_cons_succ]
            refine takeAt (i := 14) (d := some 150) (v := ?v11_14) rfl (by rfl) (by kernel_rfl) (by kernel_rfl) (by kernel_rfl) (fun _ _ _ h => h) (Or.inl ⟨by rfl, ?y11_14⟩) hS ?_
            case y11_14 => intro wx hSw; (go_simp) <;> with_reducible rfl
            simp only [Act.put, List.setIfInBounds_toArray, List.set_cons_zero, List.set_cons_succ]
            refine takeAt (i := 15) (d := some 151) (v := ?v11_15) rfl (by rfl) (by kernel_rfl) (by kernel_rfl) (by kernel_rfl) (fun _ _ _ h => h) (Or.inl ⟨by rfl, ?y11_15⟩) hS ?_
            case y11_15 => intro wx hSw; (go_simp) <;> with_reducible rfl
            simp only [Act.put, List.setIfInBounds_toArray, List.set_cons_zero, List.set_cons_succ]
            refine takeAt (i := 16) (d := some 152) (v := ?v11_16) rfl (by rfl) (by kernel_rfl) (by kernel_rfl) (by kernel_rfl) (fun _ _ _ h => h) (Or.inl ⟨by rfl, ?y11_16⟩) hS ?_
            case y11_16 => intro wx hSw; (go_simp) <;> with_reducible rfl
            simp only [Act.put, List.setIfInBounds_toArray, List.set_cons_zero, List.set_cons_succ]
            refine takeAt (i := 17) (d := some 153) (v := ?v11_17) rfl (by rfl) (by kernel_rfl) (by kernel_rfl) (by kernel_rfl) (fun _ _ _ h => h) (Or.inl ⟨by rfl, ?y11_17⟩) hS ?_
            case y11_17 => intro wx hSw; (go_simp) <;> with_reducible rfl
            simp only [Act.put, List.setIfInBounds_toArray, List.set_cons_zero, List.set_cons_succ]
            refine takeAt (i := 18) (d := some 154) (v := ?v11_18) rfl (by rfl) (by kernel_rfl) (by kernel_rfl) (by kernel_rfl) (fun _ _ _ h => h) (Or.inl ⟨by rfl, ?y11_18⟩) hS ?_
            case y11_18 => intro wx hSw; (go_simp) <;> with_reducible rfl
            simp only [Act.put, List.setIfInBounds_toArray, List.set_cons_zero, List.set_cons_succ]
            refine takeAt (i := 19) (d := some 155) (v := ?v11_19) rfl (by rfl) (by kernel_rfl) (by kernel_rfl) (by kernel_rfl) (fun _ _ _ h => h) (Or.inl ⟨by rfl, ?y11_19⟩) hS ?_
            case y11_19 => intro wx hSw; (go_simp) <;> with_reducible rfl
            simp only [Act.put, List.setIfInBounds_toArray, List.set_cons_zero, List.set_cons_succ]
            refine takeAt (i := 20) (d := some 156) (v := ?v11_20) rfl (by rfl) (by kernel_rfl) (by kernel_rfl) (by kernel_rfl) (fun _ _ _ h => h) (Or.inl ⟨by rfl, ?y11_20⟩) hS ?_
            case y11_20 => intro wx hSw; (go_simp) <;> with_reducible rfl
            simp only [Act.put, List.setIfInBounds_toArray, List.set_cons_zero, List.set_cons_succ]
            refine wpAnyH_ready (rs := [21]) (by kernel_rfl) (by simp) ?_
            refine AllReadyH.cons rfl (fun K hK => ?_) AllReadyH.nil
            go_simp
            refine (dom_any F a' y _ (IB.out.on st0) HL.out HJ.out).mono ?_
            rintro e wh ⟨pr, rfl, hpr, hbh⟩
            obtain rfl : pr = true := (ans_dom ha' hy hpr).2 NB.out.dom
            have st1 : Below wb.heap.size wb wh := View.more st0 hbh
            clear hpr hbh
            go_wp2_with fail
            refine hK.out _ _ st1 (fun _ => ?_)
            clear hK K
            replace hS := st1
            try simp only [Act.put, List.setIfInBounds_toArray, List.set_cons_zero, List.set_cons_succ]
            refine takeAt (i := 22) (d := some 158) (v := ?v11_22) rfl (by rfl) (by kernel_rfl) (by kernel_rfl) (by kernel_rfl) (fun _ _ _ h => h) (Or.inl ⟨by rfl, ?y11_22⟩) hS ?_
            case y11_22 => intro wx hSw; (go_simp) <;> with_reducible rfl
            simp only [Act.put, List.setIfInBounds_toArray, List.set_cons_zero, List.set_cons_succ]
            refine takeAt (i := 23) (d := some 159) (v := ?v11_23) rfl (by rfl) (by kernel_rfl) (by kernel_rfl) (by kernel_rfl) (fun _ _ _ h => h) (Or.inl ⟨by rfl, ?y11_23⟩) hS ?_
            case y11_23 => intro wx hSw; (go_simp) <;> with_reducible rfl
            simp only [Act.put, List.setIfInBounds_toArray, List.set_cons_zero, List.set_cons_succ]
            refine takeAt (i := 24) (d := some 160) (v := ?v11_24) rfl (by rfl) (by kernel_rfl) (by kernel_rfl) (by kernel_rfl) (fun _ _ _ h => h) (Or.inl ⟨by rfl, ?y11_24⟩) hS ?_
            case y11_24 => intro wx hSw; (go_simp) <;> with_reducible rfl
            simp only [Act.put, List.setIfInBounds_toArray, List.set_cons_zero, List.set_cons_succ]
            refine takeAt (i := 25) (d := some 161) (v := ?v11_25) rfl (by rfl) (by kernel_rfl) (by kernel_rfl) (by kernel_rfl) (fun _ _ _ h => h) (Or.inl ⟨by rfl, ?y11_25⟩) hS ?_
            case y11_25 => intro wx hSw; (go_simp) <;> with_reducible rfl
            simp only [Act.put, List.setIfInBounds_toArray, List.set_cons_zero, List.set_cons_succ]
            refine takeAt (i := 26) (d := some 162) (v := ?v11_26) rfl (by rfl) (by kernel_rfl) (by kernel_rfl) (by kernel_rfl) (fun _ _ _ h => h) (Or.inl ⟨by rfl, ?y11_26⟩) hS ?_
            case y11_26 => intro wx hSw; (go_simp) <;> with_reducible rfl
            simp only [Act.put, List.setIfInBounds_toArray, List.set_cons_zero, List.set_cons_succ]
            refine takeAt (i := 27) (d := some 163) (v := ?v11_27) rfl (by rfl) (by kernel_rfl) (by kernel_rfl) (by kernel_rfl) (fun _ _ _ h => h) (Or.inl ⟨by rfl, ?y11_27⟩) hS ?_
            case y11_27 => intro wx hSw; (go_simp) <;> with_reducible rfl
            simp only [Act.put, List.setIfInBounds_toArray, List.set_cons_zero, List.set_cons_succ]
            refine takeAt (i := 28) (d := some 164) (v := ?v11_28) rfl (by rfl) (by kernel_rfl) (by kernel_rfl) (by kernel_rfl) (fun _ _ _ h => h) (Or.inl ⟨by rfl, ?y11_28⟩) hS ?_
            case y11_28 => intro wx hSw; (go_simp) <;> with_reducible rfl
            simp only [Act.put, List.setIfInBounds_toArray, List.set_cons_zero, List.set_cons_succ]
            refine takeAt (i := 29) (d := some 165) (v := ?v11_29) rfl (by rfl) (by kernel_rfl) (by kernel_rfl) (by kernel_rfl) (fun _ _ _ h => h) (Or.inl ⟨by rfl, ?y11_29⟩) hS ?_
            case y11_29 => intro wx hSw; (go_simp) <;> with_reducible rfl
            simp only [Act.put, List.setIfInBounds_toArray, List.set_cons_zero, List.set_cons_succ]
            refine takeAt (i := 30) (d := some 166) (v := ?v11_30) rfl (by rfl) (by kernel_rfl) (by kernel_rfl) (by kernel_rfl) (fun _ _ _ h => h) (Or.inl ⟨by rfl, ?y11_30⟩) hS ?_
            case y11_30 => intro wx hSw; (go_simp) <;> with_reducible rfl
            simp only [Act.put, List.setIfInBounds_toArray, List.set_cons_zero, List.set_cons_succ]
            refine takeAt (i := 31) (d := some 167) (v := ?v11_31) rfl (by rfl) (by kernel_rfl) (by kernel_rfl) (by kernel_rfl) (fun _ _ _ h => h) (Or.inl ⟨by rfl, ?y11_31⟩) hS ?_
            case y11_31 => intro wx hSw; (go_simp) <;> with_reducible rfl
            simp only [Act.put, List.setIfInBounds_toArray, List.set_cons_zero, List.set_cons_succ]
            refine takeAt (i := 32) (d := some 168) (v := undef) rfl (by rfl) (by kernel_rfl) (by kernel_rfl) (by kernel_rfl) (fun _ _ _ h => h) (Or.inr ⟨by rfl, rfl⟩) hS ?_
            simp only [Act.put, List.setIfInBounds_toArray, List.set_cons_zero, List.set_cons_succ]
            refine takeAt (i := 33) (d := some 169) (v := undef) rfl (by rfl) (by kernel_rfl) (by kernel_rfl) (by kernel_rfl) (fun _ _ _ h => h) (Or.inr ⟨by rfl, rfl⟩) hS ?_
            simp only [Act.put, List.setIfInBounds_toArray, List.set_cons_zero, List.set_cons_succ]
            refine takeAt (i := 34) (d := some 170) (v := undef) rfl (by rfl) (by kernel_rfl) (by kernel_rfl) (by kernel_rfl) (fun _ _ _ h => h) (Or.inr ⟨by rfl, rfl⟩) hS ?_
            simp only [Act.put, List.setIfInBounds_toArray, List.set_cons_zero, List.set_cons_succ]
            refine takeAt (i := 35) (d := some 171) (v := undef) rfl (by rfl) (by kernel_rfl) (by kernel_rfl) (by kernel_rfl) (fun _ _ _ h => h) (Or.inr ⟨by rfl, rfl⟩) hS ?_
            simp only [Act.put, List.setIfInBounds_toArray, List.set_cons_zero, List.set_cons_succ]
            refine takeAt (i := 36) (d := some 172) (v := undef) rfl (by rfl) (by kernel_rfl) (by kernel_rfl) (by kernel_rfl) (fun _ _ _ h => h) (Or.inr ⟨by rfl, rfl⟩) hS ?_
            simp only [Act.put, List.setIfInBounds_toArray, List.set_cons_zero, List.set_cons_succ]
            refine takeAt (i := 37) (d := some 173) (v := undef) rfl (by rfl) (by kernel_rfl) (by kernel_rfl) (by kernel_rfl) (fun _ _ _ h => h) (Or.inr ⟨by rfl, rfl⟩) hS ?_
            simp only [Act.put, List.setIfInBounds_toArray, List.set_cons_zero, List.set_cons_succ]
            refine takeAt (i := 38) (d := some 174) (v := undef) rfl (by rfl) (by kernel_rfl) (by kernel_rfl) (by kernel_rfl) (fun _ _ _ h => h) (Or.inr ⟨by rfl, rfl⟩) hS ?_
            simp only [Act.put, List.setIfInBounds_toArray, List.set_cons_zero, List.set_cons_succ]
            refine takeAt (i := 39) (d := some 175) (v := ?v11_39) rfl (by rfl) (by kernel_rfl) (by kernel_rfl) (by kernel_rfl) (fun _ _ _ h => h) (Or.inl ⟨by rfl, ?y11_39⟩) hS ?_
            case y11_39 => intro wx hSw; (go_simp) <;> with_reducible rfl
            simp only [Act.put, List.setIfInBounds_toArray, List.set_cons_zero, List.set_cons_succ]
            refine takeAt (i := 40) (d := some 176) (v := ?v11_40) rfl (by rfl) (by kernel_rfl) (by kernel_rfl) (by kernel_rfl) (fun _ _ _ h => h) (Or.inl ⟨by rfl, ?y11_40⟩) hS ?_
            case y11_40 => intro wx hSw; (go_simp) <;> with_reducible rfl
            simp only [Act.put, List.setIfInBounds_toArray, List.set_cons_zero, List.set_cons_succ]
            refine takeAt (i := 41) (d := some 8) (v := ?v11_41) rfl (by rfl) (by kernel_rfl) (by kernel_rfl) (by kernel_rfl) (fun _ _ _ h => h) (Or.inl ⟨by rfl, ?y11_41⟩) hS ?_
            case y11_41 => intro wx hSw; (go_simp) <;> with_reducible rfl
            simp only [Act.put, List.setIfInBounds_toArray, List.set_cons_zero, List.set_cons_succ]
            refine wpAnyH_done (by kernel_rfl) ?_ _
            refine NoPanic.normal ?_
            go_wp2_with fail
            go_ret
            exact ⟨rfl, View.more BB.out st1⟩

end Go.Proofs.Ytahjippocejphaa.Dm
