/-
  plnlaw5.DomTree answers true.
-/
import Derived.Test.YtahjippocejphaaDmw
import Derived.Test.YtahjippocejphaaDmv
import Derived.Test.YtahjippocejphaaLow
import Derived.Test.YtahjippocejphaaDmj
import Derived.Deep.RegionHeld3
import Derived.BigQuiet
import Derived.Deep.QuietTactic
namespace Go.Proofs.Ytahjippocejphaa.Dm
open Go.RowKit View Rd Copy Num Ty Srt Go.Proofs.Ytahjippocejphaa.Flo Go.Proofs.Ytahjippocejphaa.Lt

set_option linter.unusedVariables false

set_option maxRecDepth 10000 in
set_option maxHeartbeats 4000000 in
theorem domTree_ne (F : FV) (a b c : Int) (w : World) (hF : In w F) (hj : Jng F) (hab : red a F.blk.n ≠ red b F.blk.n) :
    Calls Try.prog 7 #[F.val, .int .i64 a, .int .i64 b, .int .i64 c] w fun e w' => e = .returned (.bool true) ∧ Below w.heap.size w w' := by
  have HF := hid hF
  have HJ := hid hj
  have HAB := hid hab
  clear hF hj hab
  go_enter Try.func7, Try.ntmps7
  go_wp2_with fail
  refine (first_any _).mono ?_
  rintro e w1 ⟨rfl, hb1⟩
  have f1 : FuncAt w1 w.heap.size F := (FuncAt.alloc w F).on hb1
  have hb1' := View.more (new (same w) _) hb1
  have B1 := hid hb1'
  have F1 := hid f1
  obtain ⟨c0, c1, c2, c3, c4⟩ := f1
  clear hb1 hb1'
  go_wp2_with fail
  refine (light_any F _ (HF.out.on B1.out)).mono ?_
  rintro e w2 ⟨r, rfl, hr, hb2⟩
  have B2 := hid (View.more B1.out hb2)
  have F2 := hid (F1.out.on hb2)
  clear c0 c1 c2 c3 c4 hb2 B1 F1
  cases r with
  | false =>
    obtain ⟨c0, c1, c2, c3, c4⟩ := F2.out
    go_wp2_with fail
    refine (first_any _).mono ?_
    rintro e w3 ⟨rfl, hb3⟩
    go_wp2_with fail
    go_ret
    exact ⟨rfl, View.more B2.out hb3⟩
  | true =>
    have hl := hr rfl
    have HL := hid hl
    have gb := hl.blk
    clear hl hr
    obtain ⟨c0, c1, c2, c3, c4⟩ := F2.out
    by_cases h0 : F.blk.n = 0
    · have t0 : ((F.blk.n : Int) == 0) = true := by simp [h0]
      have H0 := hid h0
      clear h0
      go_wp2_with fail
      refine (first_any _).mono ?_
      rintro e w3 ⟨rfl, hb3⟩
      go_wp2_with fail
      go_ret
      exact ⟨rfl, View.more B2.out hb3⟩
    have t0 : ((F.blk.n : Int) == 0) = false := by simp [h0]
    obtain ⟨x, rx, hx, a0, ha0, hx0⟩ := red16e a (show 0 < F.blk.n by omega)
    obtain ⟨y, ry, hy, b0, hb0, hy0⟩ := red16e b (show 0 < F.blk.n by omega)
    obtain ⟨z, rz, hz, c0', hc0, hz0⟩ := red16e c (show 0 < F.blk.n by omega)
    have hn0 : ((F.blk.n : Int) = 0) = False := by simp; omega
    go_wp2_with fail
    go_region
    obtain ⟨W, hW⟩ : ∃ W, w2.drew = W := ⟨_, rfl⟩
    have BW := hid (show Below w.heap.size w W by rw [← hW]; exact Below.drew B2.out)
    have FW := hid (show FuncAt W w.heap.size F by rw [← hW]; exact F2.out.on (Below.drew (same _)))
    rw [hW]
    clear hW c0 c1 c2 c3 c4 F2 B2 ha0 hx0 hb0 hy0 hc0 hz0 t0 hn0
    have n0 : 0 < F.blk.n := by omega
    have hxy : x ≠ y := by rw [← rx, ← ry]; exact HAB.out
    have HXY := hid hxy
    clear h0 rx ry rz hxy HAB
    have IW := hid (HF.out.on BW.out)
    obtain ⟨L, par, hgr⟩ := gro_ex HL.out n0
    have GR := hid hgr
    clear hgr
    have A0 : ∀ wx, Below W.heap.size W wx → wx.cell? ⟨w.heap.size, 0, none⟩ = some (.string F.name) := fun wx h => cell_on h FW.out.c0
    have A1 : ∀ wx, Below W.heap.size W wx → wx.cell? ⟨w.heap.size, 1, none⟩ = some (.bool F.out) := fun wx h => cell_on h FW.out.c1
    have A2 : ∀ wx, Below W.heap.size W wx → wx.cell? ⟨w.heap.size, 2, none⟩ = some (.slice F.par.a F.par.n F.par.c) := fun wx h => cell_on h FW.out.c2
    have A3 : ∀ wx, Below W.heap.size W wx → wx.cell? ⟨w.heap.size, 3, none⟩ = some (.int .i64 F.res) := fun wx h => cell_on h FW.out.c3
    have A4 : ∀ wx, Below W.heap.size W wx → wx.cell? ⟨w.heap.size, 4, none⟩ = some (.slice F.blk.a F.blk.n F.blk.c) := fun wx h => cell_on h FW.out.c4
    have st0 : Below W.heap.size W W.drew := Below.drew (same _)
    go_wp2_with fail
    go_region_held3 (fun wx => Below W.heap.size W wx) (first | exact st0 | exact st1 | exact st2)
      (first
        | (go_at_call 28; refine (over_any F _ (IW.out.on st0) HL.out HJ.out n0).mono ?_; rintro e wa ⟨go, co, ov, rfl, hro, hov, hgo, hba⟩; have st1 : Below W.heap.size W wa := View.more st0 hba; have RO := hid hro; have OV := hid hov; clear hro hov hgo hba)
        | (go_at_call 31; refine (under_any F _ (IW.out.on st1) HL.out HJ.out n0).mono ?_; rintro e wb ⟨M, R, ov', rfl, hpv, hov', hM, hbb⟩; have st2 : Below W.heap.size W wb := View.more st1 hbb; have PV := hid hpv; have RO2 := hid (RO.out.on hbb); have OU := hid (overIs_unique HL.out OV.out hov' y hy); clear hpv hov' hM hbb))
    have FB := hid (FW.out.on st2)
    have IB := hid (IW.out.on st2)
    have BB := hid (View.more BW.out st2)
    clear A0 A1 A2 A3 A4 st0 st1 st2 FW IW BW RO
    have A0 : ∀ wx, Below wb.heap.size wb wx → wx.cell? ⟨w.heap.size, 0, none⟩ = some (.string F.name) := fun wx h => cell_on h FB.out.c0
    have A1 : ∀ wx, Below wb.heap.size wb wx → wx.cell? ⟨w.heap.size, 1, none⟩ = some (.bool F.out) := fun wx h => cell_on h FB.out.c1
    have A2 : ∀ wx, Below wb.heap.size wb wx → wx.cell? ⟨w.heap.size, 2, none⟩ = some (.slice F.par.a F.par.n F.par.c) := fun wx h => cell_on h FB.out.c2
    have A3 : ∀ wx, Below wb.heap.size wb wx → wx.cell? ⟨w.heap.size, 3, none⟩ = some (.int .i64 F.res) := fun wx h => cell_on h FB.out.c3
    have A4 : ∀ wx, Below wb.heap.size wb wx → wx.cell? ⟨w.heap.size, 4, none⟩ = some (.slice F.blk.a F.blk.n F.blk.c) := fun wx h => cell_on h FB.out.c4
    have D0 : ∀ wx, Below wb.heap.size wb wx → wx.cell? ⟨go, y, none⟩ = some (.int .i64 (ov y)) := fun wx h => cell_on h (RO2.out.cell y hy)
    have D1 : ∀ wx, Below wb.heap.size wb wx → wx.cell? ⟨M, x, none⟩ = some (.slice (R x).a (R x).n (R x).c) := fun wx h => cell_on h (PV.out.row.cell hx)
    have i1 := int_at (g := go) (c := co) hy
    have i2 := row_at (M := M) hx
    have hul := undL_le ov' F.blk.n x
    obtain ⟨p, hp⟩ : ∃ p, (ov y == (x : Int)) = p := ⟨_, rfl⟩
    have hpp : (p != p) = false := by simp
    obtain ⟨si, sn⟩ := Pv.ints PV.out hx (by omega)
    have SI := hid si
    have SN := hid sn
    have HP := hid (show y ∈ undL ov' F.blk.n x ↔ p = true by rw [← hp, mem_undL, ← OU.out]; simp [hy])
    have sn16 : (R x).n ≤ 1000 := by omega
    have st0 : Below wb.heap.size wb wb.drew := Below.drew (same _)
    clear si sn hul
    go_wp2_with fail
    go_region_held3 (fun wx => Below wb.heap.size wb wx) (first | exact st0 | exact st1)
      (first
        | (go_at_call 36; refine (in_any (R x) _ y _ (SI.out.on st0) sn16).mono ?_; rintro e wc ⟨r1, rfl, hr1, hbc⟩; obtain rfl : r1 = p := (bool_iff (hr1.trans ((ex_mem SN.out y).trans HP.out))); have st1 : Below wb.heap.size wb wc := View.more st0 hbc; clear hr1 hbc))
    have CC := hid st1
    clear st0 st1 hpp
    have st0 : Below wb.heap.size wb wc.drew := Below.drew CC.out
    go_wp2_with fail
    go_region_held3 (fun wx => Below wb.heap.size wb wx) (first | exact st0 | exact st1 | exact st2 | exact st3)
      (first
        | (go_at_call 25; have hq := st2; refine (dom_any F x z _ (IB.out.on st2) HL.out HJ.out).mono ?_; rintro e wf ⟨pz, rfl, hpz, hbf⟩; have PZ := hid (ans_dom hx hz hpz); have st3 : Below wb.heap.size wb wf := View.more st2 hbf; clear hpz hbf hq)
        | (go_at_call 25; have hq := st1; refine (dom_any F y z _ (IB.out.on st1) HL.out HJ.out).mono ?_; rintro e we ⟨py, rfl, hpy, hbe⟩; have PY := hid (ans_dom hy hz hpy); have st2 : Below wb.heap.size wb we := View.more st1 hbe; clear hpy hbe hq)
        | (go_at_call 25; refine (dom_any F x y _ (IB.out.on st0) HL.out HJ.out).mono ?_; rintro e wd ⟨px, rfl, hpx, hbd⟩; have PX := hid (ans_dom hx hy hpx); have st1 : Below wb.heap.size wb wd := View.more st0 hbd; clear hpx hbd))
    have CF := hid st3
    clear st0 st1 st2 st3 CC i2 hp D1 SI SN HP PV sn16
    rcases overIs_cases OV.out hy with hm | ⟨a', ha', hoa⟩
    · rw [hm] at D0
      have HM := hid hm
      clear hm
      have t1 : ((x : Int) != (y : Int)) = true := by have := HXY.out; simp; omega
      have t5 : ((x : Int) == (y : Int)) = false := by have := HXY.out; simp; omega
      cases px with
      | false =>
        cases py with
        | false =>
          cases pz with
          | false =>
            have QX := hid (show ¬ DomR F x y from fun h => absurd (PX.out.2 h) (by simp))
            have QY := hid (show ¬ DomR F y z from fun h => absurd (PY.out.2 h) (by simp))
            have QZ := hid (show ¬ DomR F x z from fun h => absurd (PZ.out.2 h) (by simp))
            clear PX PY PZ
            obtain ⟨c0, c1, c2, c3, c4⟩ := FB.out.on CF.out
            have e1 := D0 _ CF.out
            by_cases hy0 : y = 0
            · have t2 : ((y : Int) == 0) = true := by simp [hy0]
              have Y0 := hid hy0
              clear hy0
              go_wp2_with fail
              go_ret
              exact ⟨rfl, View.more BB.out CF.out⟩
            have t2 : ((y : Int) == 0) = false := by simp; omega
            go_wp2_with fail
            refine (dom_any F y y _ (IB.out.on CF.out) HL.out HJ.out).mono ?_
            rintro e wk ⟨pr, rfl, hpr, hbk⟩
            obtain rfl : pr = false := by
              cases pr with
              | false => rfl
              | true =>
                obtain ⟨a2, _, ha2, _⟩ := OV.out.some y hy hy0 ((ans_dom hy hy hpr).1 rfl).1
                have := HM.out
                omega
            have CK := hid (View.more CF.out hbk)
            clear hpr hbk c0 c1 c2 c3 c4
            go_wp2_with fail
            go_ret
            exact ⟨rfl, View.more BB.out CK.out⟩
          | true =>
            have QX := hid (show ¬ DomR F x y from fun h => absurd (PX.out.2 h) (by simp))
            have QY := hid (show ¬ DomR F y z from fun h => absurd (PY.out.2 h) (by simp))
            have QZ := hid (PZ.out.1 rfl)
            clear PX PY PZ
            obtain ⟨c0, c1, c2, c3, c4⟩ := FB.out.on CF.out
            have e1 := D0 _ CF.out
            by_cases hy0 : y = 0
            · have t2 : ((y : Int) == 0) = true := by simp [hy0]
              have Y0 := hid hy0
              clear hy0
              go_wp2_with fail
              go_ret
              exact ⟨rfl, View.more BB.out CF.out⟩
            have t2 : ((y : Int) == 0) = false := by simp; omega
            go_wp2_with fail
            refine (dom_any F y y _ (IB.out.on CF.out) HL.out HJ.out).mono ?_
            rintro e wk ⟨pr, rfl, hpr, hbk⟩
            obtain rfl : pr = false := by
              cases pr with
              | false => rfl
              | true =>
                obtain ⟨a2, _, ha2, _⟩ := OV.out.some y hy hy0 ((ans_dom hy hy hpr).1 rfl).1
                have := HM.out
                omega
            have CK := hid (View.more CF.out hbk)
            clear hpr hbk c0 c1 c2 c3 c4
            go_wp2_with fail
            go_ret
            exact ⟨rfl, View.more BB.out CK.out⟩
        | true =>
          cases pz with
          | false =>
            have QX := hid (show ¬ DomR F x y from fun h => absurd (PX.out.2 h) (by simp))
            have QY := hid (PY.out.1 rfl)
            have QZ := hid (show ¬ DomR F x z from fun h => absurd (PZ.out.2 h) (by simp))
            clear PX PY PZ
            obtain ⟨c0, c1, c2, c3, c4⟩ := FB.out.on CF.out
            have e1 := D0 _ CF.out
            by_cases hy0 : y = 0
            · have t2 : ((y : Int) == 0) = true := by simp [hy0]
              have Y0 := hid hy0
              clear hy0
              go_wp2_with fail
              go_ret
              exact ⟨rfl, View.more BB.out CF.out⟩
            have t2 : ((y : Int) == 0) = false := by simp; omega
            go_wp2_with fail
            refine (dom_any F y y _ (IB.out.on CF.out) HL.out HJ.out).mono ?_
            rintro e wk ⟨pr, rfl, hpr, hbk⟩
            obtain rfl : pr = false := by
              cases pr with
              | false => rfl
              | true =>
                obtain ⟨a2, _, ha2, _⟩ := OV.out.some y hy hy0 ((ans_dom hy hy hpr).1 rfl).1
                have := HM.out
                omega
            have CK := hid (View.more CF.out hbk)
            clear hpr hbk c0 c1 c2 c3 c4
            go_wp2_with fail
            go_ret
            exact ⟨rfl, View.more BB.out CK.out⟩
          | true =>
            have QX := hid (show ¬ DomR F x y from fun h => absurd (PX.out.2 h) (by simp))
            have QY := hid (PY.out.1 rfl)
            have QZ := hid (PZ.out.1 rfl)
            clear PX PY PZ
            obtain ⟨c0, c1, c2, c3, c4⟩ := FB.out.on CF.out
            have e1 := D0 _ CF.out
            go_wp2_with fail
            refine (dom_any F y x _ (IB.out.on CF.out) HL.out HJ.out).mono ?_
            rintro e wg ⟨pr, rfl, hpr, hbg⟩
            obtain rfl : pr = true := (ans_dom hy hx hpr).2 (by
              rcases dom_chain QZ.out QY.out GR.out with q | q
              · exact absurd q QX.out
              · exact q)
            have CG := hid (View.more CF.out hbg)
            clear hpr hbg c0 c1 c2 c3 c4 e1
            obtain ⟨c0, c1, c2, c3, c4⟩ := FB.out.on CG.out
            have e1 := D0 _ CG.out
            by_cases hy0 : y = 0
            · have t2 : ((y : Int) == 0) = true := by simp [hy0]
              have Y0 := hid hy0
              clear hy0
              go_wp2_with fail
              go_ret
              exact ⟨rfl, View.more BB.out CG.out⟩
            have t2 : ((y : Int) == 0) = false := by simp; omega
            go_wp2_with fail
            refine (dom_any F y y _ (IB.out.on CG.out) HL.out HJ.out).mono ?_
            rintro e wk ⟨pr, rfl, hpr, hbk⟩
            obtain rfl : pr = false := by
              cases pr with
              | false => rfl
              | true =>
                obtain ⟨a2, _, ha2, _⟩ := OV.out.some y hy hy0 ((ans_dom hy hy hpr).1 rfl).1
                have := HM.out
                omega
            have CK := hid (View.more CG.out hbk)
            clear hpr hbk c0 c1 c2 c3 c4
            go_wp2_with fail
            go_ret
            exact ⟨rfl, View.more BB.out CK.out⟩
      | true =>
        cases py with
        | false =>
          cases pz with
          | false =>
            have QX := hid (PX.out.1 rfl)
            have QY := hid (show ¬ DomR F y z from fun h => absurd (PY.out.2 h) (by simp))
            have QZ := hid (show ¬ DomR F x z from fun h => absurd (PZ.out.2 h) (by simp))
            clear PX PY PZ
            obtain ⟨c0, c1, c2, c3, c4⟩ := FB.out.on CF.out
            have e1 := D0 _ CF.out
            go_wp2_with fail
            refine (dom_any F y x _ (IB.out.on CF.out) HL.out HJ.out).mono ?_
            rintro e wg ⟨pr, rfl, hpr, hbg⟩
            obtain rfl : pr = false := by
              cases pr with
              | false => rfl
              | true => exact absurd (dom_anti QX.out ((ans_dom hy hx hpr).1 rfl) GR.out) HXY.out
            have CG := hid (View.more CF.out hbg)
            clear hpr hbg c0 c1 c2 c3 c4 e1
            obtain ⟨c0, c1, c2, c3, c4⟩ := FB.out.on CG.out
            have e1 := D0 _ CG.out
            by_cases hy0 : y = 0
            · have t2 : ((y : Int) == 0) = true := by simp [hy0]
              have Y0 := hid hy0
              clear hy0
              go_wp2_with fail
              go_ret
              exact ⟨rfl, View.more BB.out CG.out⟩
            have t2 : ((y : Int) == 0) = false := by simp; omega
            go_wp2_with fail
            refine (dom_any F y y _ (IB.out.on CG.out) HL.out HJ.out).mono ?_
            rintro e wk ⟨pr, rfl, hpr, hbk⟩
            obtain rfl : pr = false := by
              cases pr with
              | false => rfl
              | true =>
                obtain ⟨a2, _, ha2, _⟩ := OV.out.some y hy hy0 ((ans_dom hy hy hpr).1 rfl).1
                have := HM.out
                omega
            have CK := hid (View.more CG.out hbk)
            clear hpr hbk c0 c1 c2 c3 c4
            go_wp2_with fail
            go_ret
            exact ⟨rfl, View.more BB.out CK.out⟩
          | true =>
            have QX := hid (PX.out.1 rfl)
            have QY := hid (show ¬ DomR F y z from fun h => absurd (PY.out.2 h) (by simp))
            have QZ := hid (PZ.out.1 rfl)
            clear PX PY PZ
            obtain ⟨c0, c1, c2, c3, c4⟩ := FB.out.on CF.out
            have e1 := D0 _ CF.out
            go_wp2_with fail
            refine (dom_any F y x _ (IB.out.on CF.out) HL.out HJ.out).mono ?_
            rintro e wg ⟨pr, rfl, hpr, hbg⟩
            obtain rfl : pr = false := by
              cases pr with
              | false => rfl
              | true => exact absurd (dom_anti QX.out ((ans_dom hy hx hpr).1 rfl) GR.out) HXY.out
            have CG := hid (View.more CF.out hbg)
            clear hpr hbg c0 c1 c2 c3 c4 e1
            obtain ⟨c0, c1, c2, c3, c4⟩ := FB.out.on CG.out
            have e1 := D0 _ CG.out
            by_cases hy0 : y = 0
            · have t2 : ((y : Int) == 0) = true := by simp [hy0]
              have Y0 := hid hy0
              clear hy0
              go_wp2_with fail
              go_ret
              exact ⟨rfl, View.more BB.out CG.out⟩
            have t2 : ((y : Int) == 0) = false := by simp; omega
            go_wp2_with fail
            refine (dom_any F y y _ (IB.out.on CG.out) HL.out HJ.out).mono ?_
            rintro e wk ⟨pr, rfl, hpr, hbk⟩
            obtain rfl : pr = false := by
              cases pr with
              | false => rfl
              | true =>
                obtain ⟨a2, _, ha2, _⟩ := OV.out.some y hy hy0 ((ans_dom hy hy hpr).1 rfl).1
                have := HM.out
                omega
            have CK := hid (View.more CG.out hbk)
            clear hpr hbk c0 c1 c2 c3 c4
            go_wp2_with fail
            go_ret
            exact ⟨rfl, View.more BB.out CK.out⟩
        | true =>
          cases pz with
          | false =>
            have QX := hid (PX.out.1 rfl)
            have QY := hid (PY.out.1 rfl)
            have QZ := hid (show ¬ DomR F x z from fun h => absurd (PZ.out.2 h) (by simp))
            clear PX PY PZ
            exact absurd (dom_trans QX.out QY.out GR.out) QZ.out
          | true =>
            have QX := hid (PX.out.1 rfl)
            have QY := hid (PY.out.1 rfl)
            have QZ := hid (PZ.out.1 rfl)
            clear PX PY PZ
            obtain ⟨c0, c1, c2, c3, c4⟩ := FB.out.on CF.out
            have e1 := D0 _ CF.out
            go_wp2_with fail
            refine (dom_any F y x _ (IB.out.on CF.out) HL.out HJ.out).mono ?_
            rintro e wg ⟨pr, rfl, hpr, hbg⟩
            obtain rfl : pr = false := by
              cases pr with
              | false => rfl
              | true => exact absurd (dom_anti QX.out ((ans_dom hy hx hpr).1 rfl) GR.out) HXY.out
            have CG := hid (View.more CF.out hbg)
            clear hpr hbg c0 c1 c2 c3 c4 e1
            obtain ⟨c0, c1, c2, c3, c4⟩ := FB.out.on CG.out
            have e1 := D0 _ CG.out
            by_cases hy0 : y = 0
            · have t2 : ((y : Int) == 0) = true := by simp [hy0]
              have Y0 := hid hy0
              clear hy0
              go_wp2_with fail
              go_ret
              exact ⟨rfl, View.more BB.out CG.out⟩
            have t2 : ((y : Int) == 0) = false := by simp; omega
            go_wp2_with fail
            refine (dom_any F y y _ (IB.out.on CG.out) HL.out HJ.out).mono ?_
            rintro e wk ⟨pr, rfl, hpr, hbk⟩
            obtain rfl : pr = false := by
              cases pr with
              | false => rfl
              | true =>
                obtain ⟨a2, _, ha2, _⟩ := OV.out.some y hy hy0 ((ans_dom hy hy hpr).1 rfl).1
                have := HM.out
                omega
            have CK := hid (View.more CG.out hbk)
            clear hpr hbk c0 c1 c2 c3 c4
            go_wp2_with fail
            go_ret
            exact ⟨rfl, View.more BB.out CK.out⟩
    · rw [hoa] at D0
      have HA := hid hoa
      have hy0 : y ≠ 0 := fun e => by have := OV.out.none y hy (.inl e); omega
      have NB := hid (show NearB F y a' from by
        by_cases q : Go.Proofs.Ytahjippocejphaa.Flo.Way (su F) 0 y
        · obtain ⟨a2, _, h2, hn2⟩ := OV.out.some y hy hy0 q
          have e : a2 = a' := by omega
          rw [← e]; exact hn2
        · have := OV.out.none y hy (.inr q); omega)
      have t3 : ((a' : Int) != (y : Int)) = true := by simp; have := NB.out.ne; omega
      have t4 : decide ((a' : Int) < F.blk.n) = true := by simp; omega
      clear hoa hy0
      have t1 : ((x : Int) != (y : Int)) = true := by have := HXY.out; simp; omega
      have t5 : ((x : Int) == (y : Int)) = false := by have := HXY.out; simp; omega
      cases px with
      | false =>
        cases py with
        | false =>
          cases pz with
          | false =>
            have QX := hid (show ¬ DomR F x y from fun h => absurd (PX.out.2 h) (by simp))
            have QY := hid (show ¬ DomR F y z from fun h => absurd (PY.out.2 h) (by simp))
            have QZ := hid (show ¬ DomR F x z from fun h => absurd (PZ.out.2 h) (by simp))
            clear PX PY PZ
            obtain ⟨c0, c1, c2, c3, c4⟩ := FB.out.on CF.out
            have e1 := D0 _ CF.out
            go_wp2_with fail
            have st0 : Below wb.heap.size wb wf.drew := Below.drew CF.out
            clear c0 c1 c2 c3 c4 e1
            refine wp_region_noPanic ?_
            refine wp_region_held_drew (S := fun wx => Below wb.heap.size wb wx) (by kernel_rfl) st0 (fun hS => ?_)
            refine takeAt (i := 0) (d := some 136) (v := ?v00_0) rfl (by rfl) (by kernel_rfl) (by kernel_rfl) (by kernel_rfl) (fun _ _ _ h => h) (Or.inl ⟨by rfl, ?y00_0⟩) hS ?_
            case y00_0 => intro wx hSw; (go_simp) <;> with_reducible rfl
            simp only [Act.put, List.setIfInBounds_toArray, List.set_cons_zero, List.set_cons_succ]
            refine takeAt (i := 1) (d := some 137) (v := ?v00_1) rfl (by rfl) (by kernel_rfl) (by kernel_rfl) (by kernel_rfl) (fun _ _ _ h => h) (Or.inl ⟨by rfl, ?y00_1⟩) hS ?_
            case y00_1 => intro wx hSw; (go_simp) <;> with_reducible rfl
            simp only [Act.put, List.setIfInBounds_toArray, List.set_cons_zero, List.set_cons_succ]
            refine takeAt (i := 2) (d := some 138) (v := ?v00_2) rfl (by rfl) (by kernel_rfl) (by kernel_rfl) (by kernel_rfl) (fun _ _ _ h => h) (Or.inl ⟨by rfl, ?y00_2⟩) hS ?_
            case y00_2 => intro wx hSw; (go_simp) <;> with_reducible rfl
            simp only [Act.put, List.setIfInBounds_toArray, List.set_cons_zero, List.set_cons_succ]
            refine takeAt (i := 3) (d := some 139) (v := ?v00_3) rfl (by rfl) (by kernel_rfl) (by kernel_rfl) (by kernel_rfl) (fun _ _ _ h => h) (Or.inl ⟨by rfl, ?y00_3⟩) hS ?_
            case y00_3 => intro wx hSw; (go_simp) <;> with_reducible rfl
            simp only [Act.put, List.setIfInBounds_toArray, List.set_cons_zero, List.set_cons_succ]
            refine takeAt (i := 4) (d := some 140) (v := ?v00_4) rfl (by rfl) (by kernel_rfl) (by kernel_rfl) (by kernel_rfl) (fun _ _ _ h => h) (Or.inl ⟨by rfl, ?y00_4⟩) hS ?_
            case y00_4 => intro wx hSw; (go_simp) <;> with_reducible rfl
            simp only [Act.put, List.setIfInBounds_toArray, List.set_cons_zero, List.set_cons_succ]
            refine takeAt (i := 5) (d := some 141) (v := ?v00_5) rfl (by rfl) (by kernel_rfl) (by kernel_rfl) (by kernel_rfl) (fun _ _ _ h => h) (Or.inl ⟨by rfl, ?y00_5⟩) hS ?_
            case y00_5 => intro wx hSw; (go_simp) <;> with_reducible rfl
            simp only [Act.put, List.setIfInBounds_toArray, List.set_cons_zero, List.set_cons_succ]
            refine takeAt (i := 6) (d := some 142) (v := ?v00_6) rfl (by rfl) (by kernel_rfl) (by kernel_rfl) (by kernel_rfl) (fun _ _ _ h => h) (Or.inl ⟨by rfl, ?y00_6⟩) hS ?_
            case y00_6 => intro wx hSw; (go_simp) <;> with_reducible rfl
            simp only [Act.put, List.setIfInBounds_toArray, List.set_cons_zero, List.set_cons_succ]
            refine takeAt (i := 7) (d := some 143) (v := ?v00_7) rfl (by rfl) (by kernel_rfl) (by kernel_rfl) (by kernel_rfl) (fun _ _ _ h => h) (Or.inl ⟨by rfl, ?y00_7⟩) hS ?_
            case y00_7 => intro wx hSw; (go_simp) <;> with_reducible rfl
            simp only [Act.put, List.setIfInBounds_toArray, List.set_cons_zero, List.set_cons_succ]
            refine takeAt (i := 8) (d := some 144) (v := ?v00_8) rfl (by rfl) (by kernel_rfl) (by kernel_rfl) (by kernel_rfl) (fun _ _ _ h => h) (Or.inl ⟨by rfl, ?y00_8⟩) hS ?_
            case y00_8 => intro wx hSw; (go_simp) <;> with_reducible rfl
            simp only [Act.put, List.setIfInBounds_toArray, List.set_cons_zero, List.set_cons_succ]
            refine takeAt (i := 9) (d := some 145) (v := ?v00_9) rfl (by rfl) (by kernel_rfl) (by kernel_rfl) (by kernel_rfl) (fun _ _ _ h => h) (Or.inl ⟨by rfl, ?y00_9⟩) hS ?_
            case y00_9 => intro wx hSw; (go_simp) <;> with_reducible rfl
            simp only [Act.put, List.setIfInBounds_toArray, List.set_cons_zero, List.set_cons_succ]
            refine takeAt (i := 10) (d := some 146) (v := ?v00_10) rfl (by rfl) (by kernel_rfl) (by kernel_rfl) (by kernel_rfl) (fun _ _ _ h => h) (Or.inl ⟨by rfl, ?y00_10⟩) hS ?_
            case y00_10 => intro wx hSw; (go_simp) <;> with_reducible rfl
            simp only [Act.put, List.setIfInBounds_toArray, List.set_cons_zero, List.set_cons_succ]
            refine takeAt (i := 11) (d := some 147) (v := ?v00_11) rfl (by rfl) (by kernel_rfl) (by kernel_rfl) (by kernel_rfl) (fun _ _ _ h => h) (Or.inl ⟨by rfl, ?y00_11⟩) hS ?_
            case y00_11 => intro wx hSw; (go_simp) <;> with_reducible rfl
            simp only [Act.put, List.setIfInBounds_toArray, List.set_cons_zero, List.set_cons_succ]
            refine takeAt (i := 12) (d := some 148) (v := ?v00_12) rfl (by rfl) (by kernel_rfl) (by kernel_rfl) (by kernel_rfl) (fun _ _ _ h => h) (Or.inl ⟨by rfl, ?y00_12⟩) hS ?_
            case y00_12 => intro wx hSw; (go_simp) <;> with_reducible rfl
            simp only [Act.put, List.setIfInBounds_toArray, List.set_cons_zero, List.set_cons_succ]
            refine takeAt (i := 13) (d := some 149) (v := ?v00_13) rfl (by rfl) (by kernel_rfl) (by kernel_rfl) (by kernel_rfl) (fun _ _ _ h => h) (Or.inl ⟨by rfl, ?y00_13⟩) hS ?_
            case y00_13 => intro wx hSw; (go_simp) <;> with_reducible rfl
            simp only [Act.put, List.setIfInBounds_toArray, List.set_cons_zero, List.set_cons_succ]
            refine takeAt (i := 14) (d := some 150) (v := ?v00_14) rfl (by rfl) (by kernel_rfl) (by kernel_rfl) (by kernel_rfl) (fun _ _ _ h => h) (Or.inl ⟨by rfl, ?y00_14⟩) hS ?_
            case y00_14 => intro wx hSw; (go_simp) <;> with_reducible rfl
            simp only [Act.put, List.setIfInBounds_toArray, List.set_cons_zero, List.set_cons_succ]
            refine takeAt (i := 15) (d := some 151) (v := ?v00_15) rfl (by rfl) (by kernel_rfl) (by kernel_rfl) (by kernel_rfl) (fun _ _ _ h => h) (Or.inl ⟨by rfl, ?y00_15⟩) hS ?_
            case y00_15 => intro wx hSw; (go_simp) <;> with_reducible rfl
            simp only [Act.put, List.setIfInBounds_toArray, List.set_cons_zero, List.set_cons_succ]
            refine takeAt (i := 16) (d := some 152) (v := ?v00_16) rfl (by rfl) (by kernel_rfl) (by kernel_rfl) (by kernel_rfl) (fun _ _ _ h => h) (Or.inl ⟨by rfl, ?y00_16⟩) hS ?_
            case y00_16 => intro wx hSw; (go_simp) <;> with_reducible rfl
            simp only [Act.put, List.setIfInBounds_toArray, List.set_cons_zero, List.set_cons_succ]
            refine takeAt (i := 17) (d := some 153) (v := ?v00_17) rfl (by rfl) (by kernel_rfl) (by kernel_rfl) (by kernel_rfl) (fun _ _ _ h => h) (Or.inl ⟨by rfl, ?y00_17⟩) hS ?_
            case y00_17 => intro wx hSw; (go_simp) <;> with_reducible rfl
            simp only [Act.put, List.setIfInBounds_toArray, List.set_cons_zero, List.set_cons_succ]
            refine takeAt (i := 18) (d := some 154) (v := ?v00_18) rfl (by rfl) (by kernel_rfl) (by kernel_rfl) (by kernel_rfl) (fun _ _ _ h => h) (Or.inl ⟨by rfl, ?y00_18⟩) hS ?_
            case y00_18 => intro wx hSw; (go_simp) <;> with_reducible rfl
            simp only [Act.put, List.setIfInBounds_toArray, List.set_cons_zero, List.set_cons_succ]
            refine takeAt (i := 19) (d := some 155) (v := ?v00_19) rfl (by rfl) (by kernel_rfl) (by kernel_rfl) (by kernel_rfl) (fun _ _ _ h => h) (Or.inl ⟨by rfl, ?y00_19⟩) hS ?_
            case y00_19 => intro wx hSw; (go_simp) <;> with_reducible rfl
            simp only [Act.put, List.setIfInBounds_toArray, List.set_cons_zero, List.set_cons_succ]
            refine takeAt (i := 20) (d := some 156) (v := ?v00_20) rfl (by rfl) (by kernel_rfl) (by kernel_rfl) (by kernel_rfl) (fun _ _ _ h => h) (Or.inl ⟨by rfl, ?y00_20⟩) hS ?_
            case y00_20 => intro wx hSw; (go_simp) <;> with_reducible rfl
            simp only [Act.put, List.setIfInBounds_toArray, List.set_cons_zero, List.set_cons_succ]
            refine wpAnyH_ready (rs := [21]) (by kernel_rfl) (by simp) ?_
            refine AllReadyH.cons rfl (fun K hK => ?_) AllReadyH.nil
            go_simp
            refine (dom_any F a' y _ (IB.out.on st0) HL.out HJ.out).mono ?_
            rintro e wh ⟨pr, rfl, hpr, hbh⟩
            obtain rfl : pr = true := (ans_dom ha' hy hpr).2 NB.out.dom
            have st1 : Below wb.heap.size wb wh := View.more st0 hbh
            clear hpr hbh
            go_wp2_with fail
            refine hK.out _ _ st1 (fun _ => ?_)
            clear hK K
            replace hS := st1
            try simp only [Act.put, List.setIfInBounds_toArray, List.set_cons_zero, List.set_cons_succ]
            refine takeAt (i := 22) (d := some 158) (v := ?v00_22) rfl (by rfl) (by kernel_rfl) (by kernel_rfl) (by kernel_rfl) (fun _ _ _ h => h) (Or.inl ⟨by rfl, ?y00_22⟩) hS ?_
            case y00_22 => intro wx hSw; (go_simp) <;> with_reducible rfl
            simp only [Act.put, List.setIfInBounds_toArray, List.set_cons_zero, List.set_cons_succ]
            refine takeAt (i := 23) (d := some 159) (v := ?v00_23) rfl (by rfl) (by kernel_rfl) (by kernel_rfl) (by kernel_rfl) (fun _ _ _ h => h) (Or.inl ⟨by rfl, ?y00_23⟩) hS ?_
            case y00_23 => intro wx hSw; (go_simp) <;> with_reducible rfl
            simp only [Act.put, List.setIfInBounds_toArray, List.set_cons_zero, List.set_cons_succ]
            refine takeAt (i := 24) (d := some 160) (v := ?v00_24) rfl (by rfl) (by kernel_rfl) (by kernel_rfl) (by kernel_rfl) (fun _ _ _ h => h) (Or.inl ⟨by rfl, ?y00_24⟩) hS ?_
            case y00_24 => intro wx hSw; (go_simp) <;> with_reducible rfl
            simp only [Act.put, List.setIfInBounds_toArray, List.set_cons_zero, List.set_cons_succ]
            refine takeAt (i := 25) (d := some 161) (v := ?v00_25) rfl (by rfl) (by kernel_rfl) (by kernel_rfl) (by kernel_rfl) (fun _ _ _ h => h) (Or.inl ⟨by rfl, ?y00_25⟩) hS ?_
            case y00_25 => intro wx hSw; (go_simp) <;> with_reducible rfl
            simp only [Act.put, List.setIfInBounds_toArray, List.set_cons_zero, List.set_cons_succ]
            refine takeAt (i := 26) (d := some 162) (v := ?v00_26) rfl (by rfl) (by kernel_rfl) (by kernel_rfl) (by kernel_rfl) (fun _ _ _ h => h) (Or.inl ⟨by rfl, ?y00_26⟩) hS ?_
            case y00_26 => intro wx hSw; (go_simp) <;> with_reducible rfl
            simp only [Act.put, List.setIfInBounds_toArray, List.set_cons_zero, List.set_cons_succ]
            refine takeAt (i := 27) (d := some 163) (v := undef) rfl (by rfl) (by kernel_rfl) (by kernel_rfl) (by kernel_rfl) (fun _ _ _ h => h) (Or.inr ⟨by rfl, rfl⟩) hS ?_
            simp only [Act.put, List.setIfInBounds_toArray, List.set_cons_zero, List.set_cons_succ]
            refine takeAt (i := 28) (d := some 164) (v := undef) rfl (by rfl) (by kernel_rfl) (by kernel_rfl) (by kernel_rfl) (fun _ _ _ h => h) (Or.inr ⟨by rfl, rfl⟩) hS ?_
            simp only [Act.put, List.setIfInBounds_toArray, List.set_cons_zero, List.set_cons_succ]
            refine takeAt (i := 29) (d := some 165) (v := undef) rfl (by rfl) (by kernel_rfl) (by kernel_rfl) (by kernel_rfl) (fun _ _ _ h => h) (Or.inr ⟨by rfl, rfl⟩) hS ?_
            simp only [Act.put, List.setIfInBounds_toArray, List.set_cons_zero, List.set_cons_succ]
            refine takeAt (i := 30) (d := some 166) (v := ?v00_30) rfl (by rfl) (by kernel_rfl) (by kernel_rfl) (by kernel_rfl) (fun _ _ _ h => h) (Or.inl ⟨by rfl, ?y00_30⟩) hS ?_
            case y00_30 => intro wx hSw; (go_simp) <;> with_reducible rfl
            simp only [Act.put, List.setIfInBounds_toArray, List.set_cons_zero, List.set_cons_succ]
            refine takeAt (i := 31) (d := some 167) (v := ?v00_31) rfl (by rfl) (by kernel_rfl) (by kernel_rfl) (by kernel_rfl) (fun _ _ _ h => h) (Or.inl ⟨by rfl, ?y00_31⟩) hS ?_
            case y00_31 => intro wx hSw; (go_simp) <;> with_reducible rfl
            simp only [Act.put, List.setIfInBounds_toArray, List.set_cons_zero, List.set_cons_succ]
            refine takeAt (i := 32) (d := some 168) (v := undef) rfl (by rfl) (by kernel_rfl) (by kernel_rfl) (by kernel_rfl) (fun _ _ _ h => h) (Or.inr ⟨by rfl, rfl⟩) hS ?_
            simp only [Act.put, List.setIfInBounds_toArray, List.set_cons_zero, List.set_cons_succ]
            refine takeAt (i := 33) (d := some 169) (v := undef) rfl (by rfl) (by kernel_rfl) (by kernel_rfl) (by kernel_rfl) (fun _ _ _ h => h) (Or.inr ⟨by rfl, rfl⟩) hS ?_
            simp only [Act.put, List.setIfInBounds_toArray, List.set_cons_zero, List.set_cons_succ]
            refine takeAt (i := 34) (d := some 170) (v := undef) rfl (by rfl) (by kernel_rfl) (by kernel_rfl) (by kernel_rfl) (fun _ _ _ h => h) (Or.inr ⟨by rfl, rfl⟩) hS ?_
            simp only [Act.put, List.setIfInBounds_toArray, List.set_cons_zero, List.set_cons_succ]
            refine takeAt (i := 35) (d := some 171) (v := undef) rfl (by rfl) (by kernel_rfl) (by kernel_rfl) (by kernel_rfl) (fun _ _ _ h => h) (Or.inr ⟨by rfl, rfl⟩) hS ?_
            simp only [Act.put, List.setIfInBounds_toArray, List.set_cons_zero, List.set_cons_succ]
            refine takeAt (i := 36) (d := some 172) (v := undef) rfl (by rfl) (by kernel_rfl) (by kernel_rfl) (by kernel_rfl) (fun _ _ _ h => h) (Or.inr ⟨by rfl, rfl⟩) hS ?_
            simp only [Act.put, List.setIfInBounds_toArray, List.set_cons_zero, List.set_cons_succ]
            refine takeAt (i := 37) (d := some 173) (v := undef) rfl (by rfl) (by kernel_rfl) (by kernel_rfl) (by kernel_rfl) (fun _ _ _ h => h) (Or.inr ⟨by rfl, rfl⟩) hS ?_
            simp only [Act.put, List.setIfInBounds_toArray, List.set_cons_zero, List.set_cons_succ]
            refine takeAt (i := 38) (d := some 174) (v := undef) rfl (by rfl) (by kernel_rfl) (by kernel_rfl) (by kernel_rfl) (fun _ _ _ h => h) (Or.inr ⟨by rfl, rfl⟩) hS ?_
            simp only [Act.put, List.setIfInBounds_toArray, List.set_cons_zero, List.set_cons_succ]
            refine takeAt (i := 39) (d := some 175) (v := ?v00_39) rfl (by rfl) (by kernel_rfl) (by kernel_rfl) (by kernel_rfl) (fun _ _ _ h => h) (Or.inl ⟨by rfl, ?y00_39⟩) hS ?_
            case y00_39 => intro wx hSw; (go_simp) <;> with_reducible rfl
            simp only [Act.put, List.setIfInBounds_toArray, List.set_cons_zero, List.set_cons_succ]
            refine takeAt (i := 40) (d := some 176) (v := ?v00_40) rfl (by rfl) (by kernel_rfl) (by kernel_rfl) (by kernel_rfl) (fun _ _ _ h => h) (Or.inl ⟨by rfl, ?y00_40⟩) hS ?_
            case y00_40 => intro wx hSw; (go_simp) <;> with_reducible rfl
            simp only [Act.put, List.setIfInBounds_toArray, List.set_cons_zero, List.set_cons_succ]
            refine takeAt (i := 41) (d := some 8) (v := ?v00_41) rfl (by rfl) (by kernel_rfl) (by kernel_rfl) (by kernel_rfl) (fun _ _ _ h => h) (Or.inl ⟨by rfl, ?y00_41⟩) hS ?_
            case y00_41 => intro wx hSw; (go_simp) <;> with_reducible rfl
            simp only [Act.put, List.setIfInBounds_toArray, List.set_cons_zero, List.set_cons_succ]
            refine wpAnyH_done (by kernel_rfl) ?_ _
            refine NoPanic.normal ?_
            go_wp2_with fail
            go_ret
            exact ⟨rfl, View.more BB.out st1⟩
          | true =>
            have QX := hid (show ¬ DomR F x y from fun h => absurd (PX.out.2 h) (by simp))
            have QY := hid (show ¬ DomR F y z from fun h => absurd (PY.out.2 h) (by simp))
            have QZ := hid (PZ.out.1 rfl)
            clear PX PY PZ
            obtain ⟨c0, c1, c2, c3, c4⟩ := FB.out.on CF.out
            have e1 := D0 _ CF.out
            go_wp2_with fail
            have st0 : Below wb.heap.size wb wf.drew := Below.drew CF.out
            clear c0 c1 c2 c3 c4 e1
            refine wp_region_noPanic ?_
            refine wp_region_held_drew (S := fun wx => Below wb.heap.size wb wx) (by kernel_rfl) st0 (fun hS => ?_)
            refine takeAt (i := 0) (d := some 136) (v := ?v00_0) rfl (by rfl) (by kernel_rfl) (by kernel_rfl) (by kernel_rfl) (fun _ _ _ h => h) (Or.inl ⟨by rfl, ?y00_0⟩) hS ?_
            case y00_0 => intro wx hSw; (go_simp) <;> with_reducible rfl
            simp only [Act.put, List.setIfInBounds_toArray, List.set_cons_zero, List.set_cons_succ]
            refine takeAt (i := 1) (d := some 137) (v := ?v00_1) rfl (by rfl) (by kernel_rfl) (by kernel_rfl) (by kernel_rfl) (fun _ _ _ h => h) (Or.inl ⟨by rfl, ?y00_1⟩) hS ?_
            case y00_1 => intro wx hSw; (go_simp) <;> with_reducible rfl
            simp only [Act.put, List.setIfInBounds_toArray, List.set_cons_zero, List.set_cons_succ]
            refine takeAt (i := 2) (d := some 138) (v := ?v00_2) rfl (by rfl) (by kernel_rfl) (by kernel_rfl) (by kernel_rfl) (fun _ _ _ h => h) (Or.inl ⟨by rfl, ?y00_2⟩) hS ?_
            case y00_2 => intro wx hSw; (go_simp) <;> with_reducible rfl
            simp only [Act.put, List.setIfInBounds_toArray, List.set_cons_zero, List.set_cons_succ]
            refine takeAt (i := 3) (d := some 139) (v := ?v00_3) rfl (by rfl) (by kernel_rfl) (by kernel_rfl) (by kernel_rfl) (fun _ _ _ h => h) (Or.inl ⟨by rfl, ?y00_3⟩) hS ?_
            case y00_3 => intro wx hSw; (go_simp) <;> with_reducible rfl
            simp only [Act.put, List.setIfInBounds_toArray, List.set_cons_zero, List.set_cons_succ]
            refine takeAt (i := 4) (d := some 140) (v := ?v00_4) rfl (by rfl) (by kernel_rfl) (by kernel_rfl) (by kernel_rfl) (fun _ _ _ h => h) (Or.inl ⟨by rfl, ?y00_4⟩) hS ?_
            case y00_4 => intro wx hSw; (go_simp) <;> with_reducible rfl
            simp only [Act.put, List.setIfInBounds_toArray, List.set_cons_zero, List.set_cons_succ]
            refine takeAt (i := 5) (d := some 141) (v := ?v00_5) rfl (by rfl) (by kernel_rfl) (by kernel_rfl) (by kernel_rfl) (fun _ _ _ h => h) (Or.inl ⟨by rfl, ?y00_5⟩) hS ?_
            case y00_5 => intro wx hSw; (go_simp) <;> with_reducible rfl
            simp only [Act.put, List.setIfInBounds_toArray, List.set_cons_zero, List.set_cons_succ]
            refine takeAt (i := 6) (d := some 142) (v := ?v00_6) rfl (by rfl) (by kernel_rfl) (by kernel_rfl) (by kernel_rfl) (fun _ _ _ h => h) (Or.inl ⟨by rfl, ?y00_6⟩) hS ?_
            case y00_6 => intro wx hSw; (go_simp) <;> with_reducible rfl
            simp only [Act.put, List.setIfInBounds_toArray, List.set_cons_zero, List.set_cons_succ]
            refine takeAt (i := 7) (d := some 143) (v := ?v00_7) rfl (by rfl) (by kernel_rfl) (by kernel_rfl) (by kernel_rfl) (fun _ _ _ h => h) (Or.inl ⟨by rfl, ?y00_7⟩) hS ?_
            case y00_7 => intro wx hSw; (go_simp) <;> with_reducible rfl
            simp only [Act.put, List.setIfInBounds_toArray, List.set_cons_zero, List.set_cons_succ]
            refine takeAt (i := 8) (d := some 144) (v := ?v00_8) rfl (by rfl) (by kernel_rfl) (by kernel_rfl) (by kernel_rfl) (fun _ _ _ h => h) (Or.inl ⟨by rfl, ?y00_8⟩) hS ?_
            case y00_8 => intro wx hSw; (go_simp) <;> with_reducible rfl
            simp only [Act.put, List.setIfInBounds_toArray, List.set_cons_zero, List.set_cons_succ]
            refine takeAt (i := 9) (d := some 145) (v := ?v00_9) rfl (by rfl) (by kernel_rfl) (by kernel_rfl) (by kernel_rfl) (fun _ _ _ h => h) (Or.inl ⟨by rfl, ?y00_9⟩) hS ?_
            case y00_9 => intro wx hSw; (go_simp) <;> with_reducible rfl
            simp only [Act.put, List.setIfInBounds_toArray, List.set_cons_zero, List.set_cons_succ]
            refine takeAt (i := 10) (d := some 146) (v := ?v00_10) rfl (by rfl) (by kernel_rfl) (by kernel_rfl) (by kernel_rfl) (fun _ _ _ h => h) (Or.inl ⟨by rfl, ?y00_10⟩) hS ?_
            case y00_10 => intro wx hSw; (go_simp) <;> with_reducible rfl
            simp only [Act.put, List.setIfInBounds_toArray, List.set_cons_zero, List.set_cons_succ]
            refine takeAt (i := 11) (d := some 147) (v := ?v00_11) rfl (by rfl) (by kernel_rfl) (by kernel_rfl) (by kernel_rfl) (fun _ _ _ h => h) (Or.inl ⟨by rfl, ?y00_11⟩) hS ?_
            case y00_11 => intro wx hSw; (go_simp) <;> with_reducible rfl
            simp only [Act.put, List.setIfInBounds_toArray, List.set_cons_zero, List.set_cons_succ]
            refine takeAt (i := 12) (d := some 148) (v := ?v00_12) rfl (by rfl) (by kernel_rfl) (by kernel_rfl) (by kernel_rfl) (fun _ _ _ h => h) (Or.inl ⟨by rfl, ?y00_12⟩) hS ?_
            case y00_12 => intro wx hSw; (go_simp) <;> with_reducible rfl
            simp only [Act.put, List.setIfInBounds_toArray, List.set_cons_zero, List.set_cons_succ]
            refine takeAt (i := 13) (d := some 149) (v := ?v00_13) rfl (by rfl) (by kernel_rfl) (by kernel_rfl) (by kernel_rfl) (fun _ _ _ h => h) (Or.inl ⟨by rfl, ?y00_13⟩) hS ?_
            case y00_13 => intro wx hSw; (go_simp) <;> with_reducible rfl
            simp only [Act.put, List.setIfInBounds_toArray, List.set_cons_zero, List.set_cons_succ]
            refine takeAt (i := 14) (d := some 150) (v := ?v00_14) rfl (by rfl) (by kernel_rfl) (by kernel_rfl) (by kernel_rfl) (fun _ _ _ h => h) (Or.inl ⟨by rfl, ?y00_14⟩) hS ?_
            case y00_14 => intro wx hSw; (go_simp) <;> with_reducible rfl
            simp only [Act.put, List.setIfInBounds_toArray, List.set_cons_zero, List.set_cons_succ]
            refine takeAt (i := 15) (d := some 151) (v := ?v00_15) rfl (by rfl) (by kernel_rfl) (by kernel_rfl) (by kernel_rfl) (fun _ _ _ h => h) (Or.inl ⟨by rfl, ?y00_15⟩) hS ?_
            case y00_15 => intro wx hSw; (go_simp) <;> with_reducible rfl
            simp only [Act.put, List.setIfInBounds_toArray, List.set_cons_zero, List.set_cons_succ]
            refine takeAt (i := 16) (d := some 152) (v := ?v00_16) rfl (by rfl) (by kernel_rfl) (by kernel_rfl) (by kernel_rfl) (fun _ _ _ h => h) (Or.inl ⟨by rfl, ?y00_16⟩) hS ?_
            case y00_16 => intro wx hSw; (go_simp) <;> with_reducible rfl
            simp only [Act.put, List.setIfInBounds_toArray, List.set_cons_zero, List.set_cons_succ]
            refine takeAt (i := 17) (d := some 153) (v := ?v00_17) rfl (by rfl) (by kernel_rfl) (by kernel_rfl) (by kernel_rfl) (fun _ _ _ h => h) (Or.inl ⟨by rfl, ?y00_17⟩) hS ?_
            case y00_17 => intro wx hSw; (go_simp) <;> with_reducible rfl
            simp only [Act.put, List.setIfInBounds_toArray, List.set_cons_zero, List.set_cons_succ]
            refine takeAt (i := 18) (d := some 154) (v := ?v00_18) rfl (by rfl) (by kernel_rfl) (by kernel_rfl) (by kernel_rfl) (fun _ _ _ h => h) (Or.inl ⟨by rfl, ?y00_18⟩) hS ?_
            case y00_18 => intro wx hSw; (go_simp) <;> with_reducible rfl
            simp only [Act.put, List.setIfInBounds_toArray, List.set_cons_zero, List.set_cons_succ]
            refine takeAt (i := 19) (d := some 155) (v := ?v00_19) rfl (by rfl) (by kernel_rfl) (by kernel_rfl) (by kernel_rfl) (fun _ _ _ h => h) (Or.inl ⟨by rfl, ?y00_19⟩) hS ?_
            case y00_19 => intro wx hSw; (go_simp) <;> with_reducible rfl
            simp only [Act.put, List.setIfInBounds_toArray, List.set_cons_zero, List.set_cons_succ]
            refine takeAt (i := 20) (d := some 156) (v := ?v00_20) rfl (by rfl) (by kernel_rfl) (by kernel_rfl) (by kernel_rfl) (fun _ _ _ h => h) (Or.inl ⟨by rfl, ?y00_20⟩) hS ?_
            case y00_20 => intro wx hSw; (go_simp) <;> with_reducible rfl
            simp only [Act.put, List.setIfInBounds_toArray, List.set_cons_zero, List.set_cons_succ]
            refine wpAnyH_ready (rs := [21]) (by kernel_rfl) (by simp) ?_
            refine AllReadyH.cons rfl (fun K hK => ?_) AllReadyH.nil
            go_simp
            refine (dom_any F a' y _ (IB.out.on st0) HL.out HJ.out).mono ?_
            rintro e wh ⟨pr, rfl, hpr, hbh⟩
            obtain rfl : pr = true := (ans_dom ha' hy hpr).2 NB.out.dom
            have st1 : Below wb.heap.size wb wh := View.more st0 hbh
            clear hpr hbh
            go_wp2_with fail
            refine hK.out _ _ st1 (fun _ => ?_)
            clear hK K
            replace hS := st1
            try simp only [Act.put, List.setIfInBounds_toArray, List.set_cons_zero, List.set_cons_succ]
            refine takeAt (i := 22) (d := some 158) (v := ?v00_22) rfl (by rfl) (by kernel_rfl) (by kernel_rfl) (by kernel_rfl) (fun _ _ _ h => h) (Or.inl ⟨by rfl, ?y00_22⟩) hS ?_
            case y00_22 => intro wx hSw; (go_simp) <;> with_reducible rfl
            simp only [Act.put, List.setIfInBounds_toArray, List.set_cons_zero, List.set_cons_succ]
            refine takeAt (i := 23) (d := some 159) (v := ?v00_23) rfl (by rfl) (by kernel_rfl) (by kernel_rfl) (by kernel_rfl) (fun _ _ _ h => h) (Or.inl ⟨by rfl, ?y00_23⟩) hS ?_
            case y00_23 => intro wx hSw; (go_simp) <;> with_reducible rfl
            simp only [Act.put, List.setIfInBounds_toArray, List.set_cons_zero, List.set_cons_succ]
            refine takeAt (i := 24) (d := some 160) (v := ?v00_24) rfl (by rfl) (by kernel_rfl) (by kernel_rfl) (by kernel_rfl) (fun _ _ _ h => h) (Or.inl ⟨by rfl, ?y00_24⟩) hS ?_
            case y00_24 => intro wx hSw; (go_simp) <;> with_reducible rfl
            simp only [Act.put, List.setIfInBounds_toArray, List.set_cons_zero, List.set_cons_succ]
            refine takeAt (i := 25) (d := some 161) (v := ?v00_25) rfl (by rfl) (by kernel_rfl) (by kernel_rfl) (by kernel_rfl) (fun _ _ _ h => h) (Or.inl ⟨by rfl, ?y00_25⟩) hS ?_
            case y00_25 => intro wx hSw; (go_simp) <;> with_reducible rfl
            simp only [Act.put, List.setIfInBounds_toArray, List.set_cons_zero, List.set_cons_succ]
            refine takeAt (i := 26) (d := some 162) (v := ?v00_26) rfl (by rfl) (by kernel_rfl) (by kernel_rfl) (by kernel_rfl) (fun _ _ _ h => h) (Or.inl ⟨by rfl, ?y00_26⟩) hS ?_
            case y00_26 => intro wx hSw; (go_simp) <;> with_reducible rfl
            simp only [Act.put, List.setIfInBounds_toArray, List.set_cons_zero, List.set_cons_succ]
            refine takeAt (i := 27) (d := some 163) (v := undef) rfl (by rfl) (by kernel_rfl) (by kernel_rfl) (by kernel_rfl) (fun _ _ _ h => h) (Or.inr ⟨by rfl, rfl⟩) hS ?_
            simp only [Act.put, List.setIfInBounds_toArray, List.set_cons_zero, List.set_cons_succ]
            refine takeAt (i := 28) (d := some 164) (v := undef) rfl (by rfl) (by kernel_rfl) (by kernel_rfl) (by kernel_rfl) (fun _ _ _ h => h) (Or.inr ⟨by rfl, rfl⟩) hS ?_
            simp only [Act.put, List.setIfInBounds_toArray, List.set_cons_zero, List.set_cons_succ]
            refine takeAt (i := 29) (d := some 165) (v := undef) rfl (by rfl) (by kernel_rfl) (by kernel_rfl) (by kernel_rfl) (fun _ _ _ h => h) (Or.inr ⟨by rfl, rfl⟩) hS ?_
            simp only [Act.put, List.setIfInBounds_toArray, List.set_cons_zero, List.set_cons_succ]
            refine takeAt (i := 30) (d := some 166) (v := ?v00_30) rfl (by rfl) (by kernel_rfl) (by kernel_rfl) (by kernel_rfl) (fun _ _ _ h => h) (Or.inl ⟨by rfl, ?y00_30⟩) hS ?_
            case y00_30 => intro wx hSw; (go_simp) <;> with_reducible rfl
            simp only [Act.put, List.setIfInBounds_toArray, List.set_cons_zero, List.set_cons_succ]
            refine takeAt (i := 31) (d := some 167) (v := ?v00_31) rfl (by rfl) (by kernel_rfl) (by kernel_rfl) (by kernel_rfl) (fun _ _ _ h => h) (Or.inl ⟨by rfl, ?y00_31⟩) hS ?_
            case y00_31 => intro wx hSw; (go_simp) <;> with_reducible rfl
            simp only [Act.put, List.setIfInBounds_toArray, List.set_cons_zero, List.set_cons_succ]
            refine takeAt (i := 32) (d := some 168) (v := undef) rfl (by rfl) (by kernel_rfl) (by kernel_rfl) (by kernel_rfl) (fun _ _ _ h => h) (Or.inr ⟨by rfl, rfl⟩) hS ?_
            simp only [Act.put, List.setIfInBounds_toArray, List.set_cons_zero, List.set_cons_succ]
            refine takeAt (i := 33) (d := some 169) (v := undef) rfl (by rfl) (by kernel_rfl) (by kernel_rfl) (by kernel_rfl) (fun _ _ _ h => h) (Or.inr ⟨by rfl, rfl⟩) hS ?_
            simp only [Act.put, List.setIfInBounds_toArray, List.set_cons_zero, List.set_cons_succ]
            refine takeAt (i := 34) (d := some 170) (v := undef) rfl (by rfl) (by kernel_rfl) (by kernel_rfl) (by kernel_rfl) (fun _ _ _ h => h) (Or.inr ⟨by rfl, rfl⟩) hS ?_
            simp only [Act.put, List.setIfInBounds_toArray, List.set_cons_zero, List.set_cons_succ]
            refine takeAt (i := 35) (d := some 171) (v := undef) rfl (by rfl) (by kernel_rfl) (by kernel_rfl) (by kernel_rfl) (fun _ _ _ h => h) (Or.inr ⟨by rfl, rfl⟩) hS ?_
            simp only [Act.put, List.setIfInBounds_toArray, List.set_cons_zero, List.set_cons_succ]
            refine takeAt (i := 36) (d := some 172) (v := undef) rfl (by rfl) (by kernel_rfl) (by kernel_rfl) (by kernel_rfl) (fun _ _ _ h => h) (Or.inr ⟨by rfl, rfl⟩) hS ?_
            simp only [Act.put, List.setIfInBounds_toArray, List.set_cons_zero, List.set_cons_succ]
            refine takeAt (i := 37) (d := some 173) (v := undef) rfl (by rfl) (by kernel_rfl) (by kernel_rfl) (by kernel_rfl) (fun _ _ _ h => h) (Or.inr ⟨by rfl, rfl⟩) hS ?_
            simp only [Act.put, List.setIfInBounds_toArray, List.set_cons_zero, List.set_cons_succ]
            refine takeAt (i := 38) (d := some 174) (v := undef) rfl (by rfl) (by kernel_rfl) (by kernel_rfl) (by kernel_rfl) (fun _ _ _ h => h) (Or.inr ⟨by rfl, rfl⟩) hS ?_
            simp only [Act.put, List.setIfInBounds_toArray, List.set_cons_zero, List.set_cons_succ]
            refine takeAt (i := 39) (d := some 175) (v := ?v00_39) rfl (by rfl) (by kernel_rfl) (by kernel_rfl) (by kernel_rfl) (fun _ _ _ h => h) (Or.inl ⟨by rfl, ?y00_39⟩) hS ?_
            case y00_39 => intro wx hSw; (go_simp) <;> with_reducible rfl
            simp only [Act.put, List.setIfInBounds_toArray, List.set_cons_zero, List.set_cons_succ]
            refine takeAt (i := 40) (d := some 176) (v := ?v00_40) rfl (by rfl) (by kernel_rfl) (by kernel_rfl) (by kernel_rfl) (fun _ _ _ h => h) (Or.inl ⟨by rfl, ?y00_40⟩) hS ?_
            case y00_40 => intro wx hSw; (go_simp) <;> with_reducible rfl
            simp only [Act.put, List.setIfInBounds_toArray, List.set_cons_zero, List.set_cons_succ]
            refine takeAt (i := 41) (d := some 8) (v := ?v00_41) rfl (by rfl) (by kernel_rfl) (by kernel_rfl) (by kernel_rfl) (fun _ _ _ h => h) (Or.inl ⟨by rfl, ?y00_41⟩) hS ?_
            case y00_41 => intro wx hSw; (go_simp) <;> with_reducible rfl
            simp only [Act.put, List.setIfInBounds_toArray, List.set_cons_zero, List.set_cons_succ]
            refine wpAnyH_done (by kernel_rfl) ?_ _
            refine NoPanic.normal ?_
            go_wp2_with fail
            go_ret
            exact ⟨rfl, View.more BB.out st1⟩
        | true =>
          cases pz with
          | false =>
            have QX := hid (show ¬ DomR F x y from fun h => absurd (PX.out.2 h) (by simp))
            have QY := hid (PY.out.1 rfl)
            have QZ := hid (show ¬ DomR F x z from fun h => absurd (PZ.out.2 h) (by simp))
            clear PX PY PZ
            obtain ⟨c0, c1, c2, c3, c4⟩ := FB.out.on CF.out
            have e1 := D0 _ CF.out
            go_wp2_with fail
            have st0 : Below wb.heap.size wb wf.drew := Below.drew CF.out
            clear c0 c1 c2 c3 c4 e1
            refine wp_region_noPanic ?_
            refine wp_region_held_drew (S := fun wx => Below wb.heap.size wb wx) (by kernel_rfl) st0 (fun hS => ?_)
            refine takeAt (i := 0) (d := some 136) (v := ?v00_0) rfl (by rfl) (by kernel_rfl) (by kernel_rfl) (by kernel_rfl) (fun _ _ _ h => h) (Or.inl ⟨by rfl, ?y00_0⟩) hS ?_
            case y00_0 => intro wx hSw; (go_simp) <;> with_reducible rfl
            simp only [Act.put, List.setIfInBounds_toArray, List.set_cons_zero, List.set_cons_succ]
            refine takeAt (i := 1) (d := some 137) (v := ?v00_1) rfl (by rfl) (by kernel_rfl) (by kernel_rfl) (by kernel_rfl) (fun _ _ _ h => h) (Or.inl ⟨by rfl, ?y00_1⟩) hS ?_
            case y00_1 => intro wx hSw; (go_simp) <;> with_reducible rfl
            simp only [Act.put, List.setIfInBounds_toArray, List.set_cons_zero, List.set_cons_succ]
            refine takeAt (i := 2) (d := some 138) (v := ?v00_2) rfl (by rfl) (by kernel_rfl) (by kernel_rfl) (by kernel_rfl) (fun _ _ _ h => h) (Or.inl ⟨by rfl, ?y00_2⟩) hS ?_
            case y00_2 => intro wx hSw; (go_simp) <;> with_reducible rfl
            simp only [Act.put, List.setIfInBounds_toArray, List.set_cons_zero, List.set_cons_succ]
            refine takeAt (i := 3) (d := some 139) (v := ?v00_3) rfl (by rfl) (by kernel_rfl) (by kernel_rfl) (by kernel_rfl) (fun _ _ _ h => h) (Or.inl ⟨by rfl, ?y00_3⟩) hS ?_
            case y00_3 => intro wx hSw; (go_simp) <;> with_reducible rfl
            simp only [Act.put, List.setIfInBounds_toArray, List.set_cons_zero, List.set_cons_succ]
            refine takeAt (i := 4) (d := some 140) (v := ?v00_4) rfl (by rfl) (by kernel_rfl) (by kernel_rfl) (by kernel_rfl) (fun _ _ _ h => h) (Or.inl ⟨by rfl, ?y00_4⟩) hS ?_
            case y00_4 => intro wx hSw; (go_simp) <;> with_reducible rfl
            simp only [Act.put, List.setIfInBounds_toArray, List.set_cons_zero, List.set_cons_succ]
            refine takeAt (i := 5) (d := some 141) (v := ?v00_5) rfl (by rfl) (by kernel_rfl) (by kernel_rfl) (by kernel_rfl) (fun _ _ _ h => h) (Or.inl ⟨by rfl, ?y00_5⟩) hS ?_
            case y00_5 => intro wx hSw; (go_simp) <;> with_reducible rfl
            simp only [Act.put, List.setIfInBounds_toArray, List.set_cons_zero, List.set_cons_succ]
            refine takeAt (i := 6) (d := some 142) (v := ?v00_6) rfl (by rfl) (by kernel_rfl) (by kernel_rfl) (by kernel_rfl) (fun _ _ _ h => h) (Or.inl ⟨by rfl, ?y00_6⟩) hS ?_
            case y00_6 => intro wx hSw; (go_simp) <;> with_reducible rfl
            simp only [Act.put, List.setIfInBounds_toArray, List.set_cons_zero, List.set_cons_succ]
            refine takeAt (i := 7) (d := some 143) (v := ?v00_7) rfl (by rfl) (by kernel_rfl) (by kernel_rfl) (by kernel_rfl) (fun _ _ _ h => h) (Or.inl ⟨by rfl, ?y00_7⟩) hS ?_
            case y00_7 => intro wx hSw; (go_simp) <;> with_reducible rfl
            simp only [Act.put, List.setIfInBounds_toArray, List.set_cons_zero, List.set_cons_succ]
            refine takeAt (i := 8) (d := some 144) (v := ?v00_8) rfl (by rfl) (by kernel_rfl) (by kernel_rfl) (by kernel_rfl) (fun _ _ _ h => h) (Or.inl ⟨by rfl, ?y00_8⟩) hS ?_
            case y00_8 => intro wx hSw; (go_simp) <;> with_reducible rfl
            simp only [Act.put, List.setIfInBounds_toArray, List.set_cons_zero, List.set_cons_succ]
            refine takeAt (i := 9) (d := some 145) (v := ?v00_9) rfl (by rfl) (by kernel_rfl) (by kernel_rfl) (by kernel_rfl) (fun _ _ _ h => h) (Or.inl ⟨by rfl, ?y00_9⟩) hS ?_
            case y00_9 => intro wx hSw; (go_simp) <;> with_reducible rfl
            simp only [Act.put, List.setIfInBounds_toArray, List.set_cons_zero, List.set_cons_succ]
            refine takeAt (i := 10) (d := some 146) (v := ?v00_10) rfl (by rfl) (by kernel_rfl) (by kernel_rfl) (by kernel_rfl) (fun _ _ _ h => h) (Or.inl ⟨by rfl, ?y00_10⟩) hS ?_
            case y00_10 => intro wx hSw; (go_simp) <;> with_reducible rfl
            simp only [Act.put, List.setIfInBounds_toArray, List.set_cons_zero, List.set_cons_succ]
            refine takeAt (i := 11) (d := some 147) (v := ?v00_11) rfl (by rfl) (by kernel_rfl) (by kernel_rfl) (by kernel_rfl) (fun _ _ _ h => h) (Or.inl ⟨by rfl, ?y00_11⟩) hS ?_
            case y00_11 => intro wx hSw; (go_simp) <;> with_reducible rfl
            simp only [Act.put, List.setIfInBounds_toArray, List.set_cons_zero, List.set_cons_succ]
            refine takeAt (i := 12) (d := some 148) (v := ?v00_12) rfl (by rfl) (by kernel_rfl) (by kernel_rfl) (by kernel_rfl) (fun _ _ _ h => h) (Or.inl ⟨by rfl, ?y00_12⟩) hS ?_
            case y00_12 => intro wx hSw; (go_simp) <;> with_reducible rfl
            simp only [Act.put, List.setIfInBounds_toArray, List.set_cons_zero, List.set_cons_succ]
            refine takeAt (i := 13) (d := some 149) (v := ?v00_13) rfl (by rfl) (by kernel_rfl) (by kernel_rfl) (by kernel_rfl) (fun _ _ _ h => h) (Or.inl ⟨by rfl, ?y00_13⟩) hS ?_
            case y00_13 => intro wx hSw; (go_simp) <;> with_reducible rfl
            simp only [Act.put, List.setIfInBounds_toArray, List.set_cons_zero, List.set_cons_succ]
            refine takeAt (i := 14) (d := some 150) (v := ?v00_14) rfl (by rfl) (by kernel_rfl) (by kernel_rfl) (by kernel_rfl) (fun _ _ _ h => h) (Or.inl ⟨by rfl, ?y00_14⟩) hS ?_
            case y00_14 => intro wx hSw; (go_simp) <;> with_reducible rfl
            simp only [Act.put, List.setIfInBounds_toArray, List.set_cons_zero, List.set_cons_succ]
            refine takeAt (i := 15) (d := some 151) (v := ?v00_15) rfl (by rfl) (by kernel_rfl) (by kernel_rfl) (by kernel_rfl) (fun _ _ _ h => h) (Or.inl ⟨by rfl, ?y00_15⟩) hS ?_
            case y00_15 => intro wx hSw; (go_simp) <;> with_reducible rfl
            simp only [Act.put, List.setIfInBounds_toArray, List.set_cons_zero, List.set_cons_succ]
            refine takeAt (i := 16) (d := some 152) (v := ?v00_16) rfl (by rfl) (by kernel_rfl) (by kernel_rfl) (by kernel_rfl) (fun _ _ _ h => h) (Or.inl ⟨by rfl, ?y00_16⟩) hS ?_
            case y00_16 => intro wx hSw; (go_simp) <;> with_reducible rfl
            simp only [Act.put, List.setIfInBounds_toArray, List.set_cons_zero, List.set_cons_succ]
            refine takeAt (i := 17) (d := some 153) (v := ?v00_17) rfl (by rfl) (by kernel_rfl) (by kernel_rfl) (by kernel_rfl) (fun _ _ _ h => h) (Or.inl ⟨by rfl, ?y00_17⟩) hS ?_
            case y00_17 => intro wx hSw; (go_simp) <;> with_reducible rfl
            simp only [Act.put, List.setIfInBounds_toArray, List.set_cons_zero, List.set_cons_succ]
            refine takeAt (i := 18) (d := some 154) (v := ?v00_18) rfl (by rfl) (by kernel_rfl) (by kernel_rfl) (by kernel_rfl) (fun _ _ _ h => h) (Or.inl ⟨by rfl, ?y00_18⟩) hS ?_
            case y00_18 => intro wx hSw; (go_simp) <;> with_reducible rfl
            simp only [Act.put, List.setIfInBounds_toArray, List.set_cons_zero, List.set_cons_succ]
            refine takeAt (i := 19) (d := some 155) (v := ?v00_19) rfl (by rfl) (by kernel_rfl) (by kernel_rfl) (by kernel_rfl) (fun _ _ _ h => h) (Or.inl ⟨by rfl, ?y00_19⟩) hS ?_
            case y00_19 => intro wx hSw; (go_simp) <;> with_reducible rfl
            simp only [Act.put, List.setIfInBounds_toArray, List.set_cons_zero, List.set_cons_succ]
            refine takeAt (i := 20) (d := some 156) (v := ?v00_20) rfl (by rfl) (by kernel_rfl) (by kernel_rfl) (by kernel_rfl) (fun _ _ _ h => h) (Or.inl ⟨by rfl, ?y00_20⟩) hS ?_
            case y00_20 => intro wx hSw; (go_simp) <;> with_reducible rfl
            simp only [Act.put, List.setIfInBounds_toArray, List.set_cons_zero, List.set_cons_succ]
            refine wpAnyH_ready (rs := [21]) (by kernel_rfl) (by simp) ?_
            refine AllReadyH.cons rfl (fun K hK => ?_) AllReadyH.nil
            go_simp
            refine (dom_any F a' y _ (IB.out.on st0) HL.out HJ.out).mono ?_
            rintro e wh ⟨pr, rfl, hpr, hbh⟩
            obtain rfl : pr = true := (ans_dom ha' hy hpr).2 NB.out.dom
            have st1 : Below wb.heap.size wb wh := View.more st0 hbh
            clear hpr hbh
            go_wp2_with fail
            refine hK.out _ _ st1 (fun _ => ?_)
            clear hK K
            replace hS := st1
            try simp only [Act.put, List.setIfInBounds_toArray, List.set_cons_zero, List.set_cons_succ]
            refine takeAt (i := 22) (d := some 158) (v := ?v00_22) rfl (by rfl) (by kernel_rfl) (by kernel_rfl) (by kernel_rfl) (fun _ _ _ h => h) (Or.inl ⟨by rfl, ?y00_22⟩) hS ?_
            case y00_22 => intro wx hSw; (go_simp) <;> with_reducible rfl
            simp only [Act.put, List.setIfInBounds_toArray, List.set_cons_zero, List.set_cons_succ]
            refine takeAt (i := 23) (d := some 159) (v := ?v00_23) rfl (by rfl) (by kernel_rfl) (by kernel_rfl) (by kernel_rfl) (fun _ _ _ h => h) (Or.inl ⟨by rfl, ?y00_23⟩) hS ?_
            case y00_23 => intro wx hSw; (go_simp) <;> with_reducible rfl
            simp only [Act.put, List.setIfInBounds_toArray, List.set_cons_zero, List.set_cons_succ]
            refine takeAt (i := 24) (d := some 160) (v := ?v00_24) rfl (by rfl) (by kernel_rfl) (by kernel_rfl) (by kernel_rfl) (fun _ _ _ h => h) (Or.inl ⟨by rfl, ?y00_24⟩) hS ?_
            case y00_24 => intro wx hSw; (go_simp) <;> with_reducible rfl
            simp only [Act.put, List.setIfInBounds_toArray, List.set_cons_zero, List.set_cons_succ]
            refine takeAt (i := 25) (d := some 161) (v := ?v00_25) rfl (by rfl) (by kernel_rfl) (by kernel_rfl) (by kernel_rfl) (fun _ _ _ h => h) (Or.inl ⟨by rfl, ?y00_25⟩) hS ?_
            case y00_25 => intro wx hSw; (go_simp) <;> with_reducible rfl
            simp only [Act.put, List.setIfInBounds_toArray, List.set_cons_zero, List.set_cons_succ]
            refine takeAt (i := 26) (d := some 162) (v := ?v00_26) rfl (by rfl) (by kernel_rfl) (by kernel_rfl) (by kernel_rfl) (fun _ _ _ h => h) (Or.inl ⟨by rfl, ?y00_26⟩) hS ?_
            case y00_26 => intro wx hSw; (go_simp) <;> with_reducible rfl
            simp only [Act.put, List.setIfInBounds_toArray, List.set_cons_zero, List.set_cons_succ]
            refine takeAt (i := 27) (d := some 163) (v := undef) rfl (by rfl) (by kernel_rfl) (by kernel_rfl) (by kernel_rfl) (fun _ _ _ h => h) (Or.inr ⟨by rfl, rfl⟩) hS ?_
            simp only [Act.put, List.setIfInBounds_toArray, List.set_cons_zero, List.set_cons_succ]
            refine takeAt (i := 28) (d := some 164) (v := undef) rfl (by rfl) (by kernel_rfl) (by kernel_rfl) (by kernel_rfl) (fun _ _ _ h => h) (Or.inr ⟨by rfl, rfl⟩) hS ?_
            simp only [Act.put, List.setIfInBounds_toArray, List.set_cons_zero, List.set_cons_succ]
            refine takeAt (i := 29) (d := some 165) (v := undef) rfl (by rfl) (by kernel_rfl) (by kernel_rfl) (by kernel_rfl) (fun _ _ _ h => h) (Or.inr ⟨by rfl, rfl⟩) hS ?_
            simp only [Act.put, List.setIfInBounds_toArray, List.set_cons_zero, List.set_cons_succ]
            refine takeAt (i := 30) (d := some 166) (v := ?v00_30) rfl (by rfl) (by kernel_rfl) (by kernel_rfl) (by kernel_rfl) (fun _ _ _ h => h) (Or.inl ⟨by rfl, ?y00_30⟩) hS ?_
            case y00_30 => intro wx hSw; (go_simp) <;> with_reducible rfl
            simp only [Act.put, List.setIfInBounds_toArray, List.set_cons_zero, List.set_cons_succ]
            refine takeAt (i := 31) (d := some 167) (v := ?v00_31) rfl (by rfl) (by kernel_rfl) (by kernel_rfl) (by kernel_rfl) (fun _ _ _ h => h) (Or.inl ⟨by rfl, ?y00_31⟩) hS ?_
            case y00_31 => intro wx hSw; (go_simp) <;> with_reducible rfl
            simp only [Act.put, List.setIfInBounds_toArray, List.set_cons_zero, List.set_cons_succ]
            refine takeAt (i := 32) (d := some 168) (v := undef) rfl (by rfl) (by kernel_rfl) (by kernel_rfl) (by kernel_rfl) (fun _ _ _ h => h) (Or.inr ⟨by rfl, rfl⟩) hS ?_
            simp only [Act.put, List.setIfInBounds_toArray, List.set_cons_zero, List.set_cons_succ]
            refine takeAt (i := 33) (d := some 169) (v := undef) rfl (by rfl) (by kernel_rfl) (by kernel_rfl) (by kernel_rfl) (fun _ _ _ h => h) (Or.inr ⟨by rfl, rfl⟩) hS ?_
            simp only [Act.put, List.setIfInBounds_toArray, List.set_cons_zero, List.set_cons_succ]
            refine takeAt (i := 34) (d := some 170) (v := undef) rfl (by rfl) (by kernel_rfl) (by kernel_rfl) (by kernel_rfl) (fun _ _ _ h => h) (Or.inr ⟨by rfl, rfl⟩) hS ?_
            simp only [Act.put, List.setIfInBounds_toArray, List.set_cons_zero, List.set_cons_succ]
            refine takeAt (i := 35) (d := some 171) (v := undef) rfl (by rfl) (by kernel_rfl) (by kernel_rfl) (by kernel_rfl) (fun _ _ _ h => h) (Or.inr ⟨by rfl, rfl⟩) hS ?_
            simp only [Act.put, List.setIfInBounds_toArray, List.set_cons_zero, List.set_cons_succ]
            refine takeAt (i := 36) (d := some 172) (v := undef) rfl (by rfl) (by kernel_rfl) (by kernel_rfl) (by kernel_rfl) (fun _ _ _ h => h) (Or.inr ⟨by rfl, rfl⟩) hS ?_
            simp only [Act.put, List.setIfInBounds_toArray, List.set_cons_zero, List.set_cons_succ]
            refine takeAt (i := 37) (d := some 173) (v := undef) rfl (by rfl) (by kernel_rfl) (by kernel_rfl) (by kernel_rfl) (fun _ _ _ h => h) (Or.inr ⟨by rfl, rfl⟩) hS ?_
            simp only [Act.put, List.setIfInBounds_toArray, List.set_cons_zero, List.set_cons_succ]
            refine takeAt (i := 38) (d := some 174) (v := undef) rfl (by rfl) (by kernel_rfl) (by kernel_rfl) (by kernel_rfl) (fun _ _ _ h => h) (Or.inr ⟨by rfl, rfl⟩) hS ?_
            simp only [Act.put, List.setIfInBounds_toArray, List.set_cons_zero, List.set_cons_succ]
            refine takeAt (i := 39) (d := some 175) (v := ?v00_39) rfl (by rfl) (by kernel_rfl) (by kernel_rfl) (by kernel_rfl) (fun _ _ _ h => h) (Or.inl ⟨by rfl, ?y00_39⟩) hS ?_
            case y00_39 => intro wx hSw; (go_simp) <;> with_reducible rfl
            simp only [Act.put, List.setIfInBounds_toArray, List.set_cons_zero, List.set_cons_succ]
            refine takeAt (i := 40) (d := some 176) (v := ?v00_40) rfl (by rfl) (by kernel_rfl) (by kernel_rfl) (by kernel_rfl) (fun _ _ _ h => h) (Or.inl ⟨by rfl, ?y00_40⟩) hS ?_
            case y00_40 => intro wx hSw; (go_simp) <;> with_reducible rfl
            simp only [Act.put, List.setIfInBounds_toArray, List.set_cons_zero, List.set_cons_succ]
            refine takeAt (i := 41) (d := some 8) (v := ?v00_41) rfl (by rfl) (by kernel_rfl) (by kernel_rfl) (by kernel_rfl) (fun _ _ _ h => h) (Or.inl ⟨by rfl, ?y00_41⟩) hS ?_
            case y00_41 => intro wx hSw; (go_simp) <;> with_reducible rfl
            simp only [Act.put, List.setIfInBounds_toArray, List.set_cons_zero, List.set_cons_succ]
            refine wpAnyH_done (by kernel_rfl) ?_ _
            refine NoPanic.normal ?_
            go_wp2_with fail
            go_ret
            exact ⟨rfl, View.more BB.out st1⟩
          | true =>
            have QX := hid (show ¬ DomR F x y from fun h => absurd (PX.out.2 h) (by simp))
            have QY := hid (PY.out.1 rfl)
            have QZ := hid (PZ.out.1 rfl)
            clear PX PY PZ
            obtain ⟨c0, c1, c2, c3, c4⟩ := FB.out.on CF.out
            have e1 := D0 _ CF.out
            go_wp2_with fail
            refine (dom_any F y x _ (IB.out.on CF.out) HL.out HJ.out).mono ?_
            rintro e wg ⟨pr, rfl, hpr, hbg⟩
            obtain rfl : pr = true := (ans_dom hy hx hpr).2 (by
              rcases dom_chain QZ.out QY.out GR.out with q | q
              · exact absurd q QX.out
              · exact q)
            have CG := hid (View.more CF.out hbg)
            clear hpr hbg c0 c1 c2 c3 c4 e1
            obtain ⟨c0, c1, c2, c3, c4⟩ := FB.out.on CG.out
            have e1 := D0 _ CG.out
            go_wp2_with fail
            have st0 : Below wb.heap.size wb wg.drew := Below.drew CG.out
            clear c0 c1 c2 c3 c4 e1
            refine wp_region_noPanic ?_
            refine wp_region_held_drew (S := fun wx => Below wb.heap.size wb wx) (by kernel_rfl) st0 (fun hS => ?_)
            refine takeAt (i := 0) (d := some 136) (v := ?v00_0) rfl (by rfl) (by kernel_rfl) (by kernel_rfl) (by kernel_rfl) (fun _ _ _ h => h) (Or.inl ⟨by rfl, ?y00_0⟩) hS ?_
            case y00_0 => intro wx hSw; (go_simp) <;> with_reducible rfl
            simp only [Act.put, List.setIfInBounds_toArray, List.set_cons_zero, List.set_cons_succ]
            refine takeAt (i := 1) (d := some 137) (v := ?v00_1) rfl (by rfl) (by kernel_rfl) (by kernel_rfl) (by kernel_rfl) (fun _ _ _ h => h) (Or.inl ⟨by rfl, ?y00_1⟩) hS ?_
            case y00_1 => intro wx hSw; (go_simp) <;> with_reducible rfl
            simp only [Act.put, List.setIfInBounds_toArray, List.set_cons_zero, List.set_cons_succ]
            refine takeAt (i := 2) (d := some 138) (v := ?v00_2) rfl (by rfl) (by kernel_rfl) (by kernel_rfl) (by kernel_rfl) (fun _ _ _ h => h) (Or.inl ⟨by rfl, ?y00_2⟩) hS ?_
            case y00_2 => intro wx hSw; (go_simp) <;> with_reducible rfl
            simp only [Act.put, List.setIfInBounds_toArray, List.set_cons_zero, List.set_cons_succ]
            refine takeAt (i := 3) (d := some 139) (v := ?v00_3) rfl (by rfl) (by kernel_rfl) (by kernel_rfl) (by kernel_rfl) (fun _ _ _ h => h) (Or.inl ⟨by rfl, ?y00_3⟩) hS ?_
            case y00_3 => intro wx hSw; (go_simp) <;> with_reducible rfl
            simp only [Act.put, List.setIfInBounds_toArray, List.set_cons_zero, List.set_cons_succ]
            refine takeAt (i := 4) (d := some 140) (v := ?v00_4) rfl (by rfl) (by kernel_rfl) (by kernel_rfl) (by kernel_rfl) (fun _ _ _ h => h) (Or.inl ⟨by rfl, ?y00_4⟩) hS ?_
            case y00_4 => intro wx hSw; (go_simp) <;> with_reducible rfl
            simp only [Act.put, List.setIfInBounds_toArray, List.set_cons_zero, List.set_cons_succ]
            refine takeAt (i := 5) (d := some 141) (v := ?v00_5) rfl (by rfl) (by kernel_rfl) (by kernel_rfl) (by kernel_rfl) (fun _ _ _ h => h) (Or.inl ⟨by rfl, ?y00_5⟩) hS ?_
            case y00_5 => intro wx hSw; (go_simp) <;> with_reducible rfl
            simp only [Act.put, List.setIfInBounds_toArray, List.set_cons_zero, List.set_cons_succ]
            refine takeAt (i := 6) (d := some 142) (v := ?v00_6) rfl (by rfl) (by kernel_rfl) (by kernel_rfl) (by kernel_rfl) (fun _ _ _ h => h) (Or.inl ⟨by rfl, ?y00_6⟩) hS ?_
            case y00_6 => intro wx hSw; (go_simp) <;> with_reducible rfl
            simp only [Act.put, List.setIfInBounds_toArray, List.set_cons_zero, List.set_cons_succ]
            refine takeAt (i := 7) (d := some 143) (v := ?v00_7) rfl (by rfl) (by kernel_rfl) (by kernel_rfl) (by kernel_rfl) (fun _ _ _ h => h) (Or.inl ⟨by rfl, ?y00_7⟩) hS ?_
            case y00_7 => intro wx hSw; (go_simp) <;> with_reducible rfl
            simp only [Act.put, List.setIfInBounds_toArray, List.set_cons_zero, List.set_cons_succ]
            refine takeAt (i := 8) (d := some 144) (v := ?v00_8) rfl (by rfl) (by kernel_rfl) (by kernel_rfl) (by kernel_rfl) (fun _ _ _ h => h) (Or.inl ⟨by rfl, ?y00_8⟩) hS ?_
            case y00_8 => intro wx hSw; (go_simp) <;> with_reducible rfl
            simp only [Act.put, List.setIfInBounds_toArray, List.set_cons_zero, List.set_cons_succ]
            refine takeAt (i := 9) (d := some 145) (v := ?v00_9) rfl (by rfl) (by kernel_rfl) (by kernel_rfl) (by kernel_rfl) (fun _ _ _ h => h) (Or.inl ⟨by rfl, ?y00_9⟩) hS ?_
            case y00_9 => intro wx hSw; (go_simp) <;> with_reducible rfl
            simp only [Act.put, List.setIfInBounds_toArray, List.set_cons_zero, List.set_cons_succ]
            refine takeAt (i := 10) (d := some 146) (v := ?v00_10) rfl (by rfl) (by kernel_rfl) (by kernel_rfl) (by kernel_rfl) (fun _ _ _ h => h) (Or.inl ⟨by rfl, ?y00_10⟩) hS ?_
            case y00_10 => intro wx hSw; (go_simp) <;> with_reducible rfl
            simp only [Act.put, List.setIfInBounds_toArray, List.set_cons_zero, List.set_cons_succ]
            refine takeAt (i := 11) (d := some 147) (v := ?v00_11) rfl (by rfl) (by kernel_rfl) (by kernel_rfl) (by kernel_rfl) (fun _ _ _ h => h) (Or.inl ⟨by rfl, ?y00_11⟩) hS ?_
            case y00_11 => intro wx hSw; (go_simp) <;> with_reducible rfl
            simp only [Act.put, List.setIfInBounds_toArray, List.set_cons_zero, List.set_cons_succ]
            refine takeAt (i := 12) (d := some 148) (v := ?v00_12) rfl (by rfl) (by kernel_rfl) (by kernel_rfl) (by kernel_rfl) (fun _ _ _ h => h) (Or.inl ⟨by rfl, ?y00_12⟩) hS ?_
            case y00_12 => intro wx hSw; (go_simp) <;> with_reducible rfl
            simp only [Act.put, List.setIfInBounds_toArray, List.set_cons_zero, List.set_cons_succ]
            refine takeAt (i := 13) (d := some 149) (v := ?v00_13) rfl (by rfl) (by kernel_rfl) (by kernel_rfl) (by kernel_rfl) (fun _ _ _ h => h) (Or.inl ⟨by rfl, ?y00_13⟩) hS ?_
            case y00_13 => intro wx hSw; (go_simp) <;> with_reducible rfl
            simp only [Act.put, List.setIfInBounds_toArray, List.set_cons_zero, List.set_cons_succ]
            refine takeAt (i := 14) (d := some 150) (v := ?v00_14) rfl (by rfl) (by kernel_rfl) (by kernel_rfl) (by kernel_rfl) (fun _ _ _ h => h) (Or.inl ⟨by rfl, ?y00_14⟩) hS ?_
            case y00_14 => intro wx hSw; (go_simp) <;> with_reducible rfl
            simp only [Act.put, List.setIfInBounds_toArray, List.set_cons_zero, List.set_cons_succ]
            refine takeAt (i := 15) (d := some 151) (v := ?v00_15) rfl (by rfl) (by kernel_rfl) (by kernel_rfl) (by kernel_rfl) (fun _ _ _ h => h) (Or.inl ⟨by rfl, ?y00_15⟩) hS ?_
            case y00_15 => intro wx hSw; (go_simp) <;> with_reducible rfl
            simp only [Act.put, List.setIfInBounds_toArray, List.set_cons_zero, List.set_cons_succ]
            refine takeAt (i := 16) (d := some 152) (v := ?v00_16) rfl (by rfl) (by kernel_rfl) (by kernel_rfl) (by kernel_rfl) (fun _ _ _ h => h) (Or.inl ⟨by rfl, ?y00_16⟩) hS ?_
            case y00_16 => intro wx hSw; (go_simp) <;> with_reducible rfl
            simp only [Act.put, List.setIfInBounds_toArray, List.set_cons_zero, List.set_cons_succ]
            refine takeAt (i := 17) (d := some 153) (v := ?v00_17) rfl (by rfl) (by kernel_rfl) (by kernel_rfl) (by kernel_rfl) (fun _ _ _ h => h) (Or.inl ⟨by rfl, ?y00_17⟩) hS ?_
            case y00_17 => intro wx hSw; (go_simp) <;> with_reducible rfl
            simp only [Act.put, List.setIfInBounds_toArray, List.set_cons_zero, List.set_cons_succ]
            refine takeAt (i := 18) (d := some 154) (v := ?v00_18) rfl (by rfl) (by kernel_rfl) (by kernel_rfl) (by kernel_rfl) (fun _ _ _ h => h) (Or.inl ⟨by rfl, ?y00_18⟩) hS ?_
            case y00_18 => intro wx hSw; (go_simp) <;> with_reducible rfl
            simp only [Act.put, List.setIfInBounds_toArray, List.set_cons_zero, List.set_cons_succ]
            refine takeAt (i := 19) (d := some 155) (v := ?v00_19) rfl (by rfl) (by kernel_rfl) (by kernel_rfl) (by kernel_rfl) (fun _ _ _ h => h) (Or.inl ⟨by rfl, ?y00_19⟩) hS ?_
            case y00_19 => intro wx hSw; (go_simp) <;> with_reducible rfl
            simp only [Act.put, List.setIfInBounds_toArray, List.set_cons_zero, List.set_cons_succ]
            refine takeAt (i := 20) (d := some 156) (v := ?v00_20) rfl (by rfl) (by kernel_rfl) (by kernel_rfl) (by kernel_rfl) (fun _ _ _ h => h) (Or.inl ⟨by rfl, ?y00_20⟩) hS ?_
            case y00_20 => intro wx hSw; (go_simp) <;> with_reducible rfl
            simp only [Act.put, List.setIfInBounds_toArray, List.set_cons_zero, List.set_cons_succ]
            refine wpAnyH_ready (rs := [21]) (by kernel_rfl) (by simp) ?_
            refine AllReadyH.cons rfl (fun K hK => ?_) AllReadyH.nil
            go_simp
            refine (dom_any F a' y _ (IB.out.on st0) HL.out HJ.out).mono ?_
            rintro e wh ⟨pr, rfl, hpr, hbh⟩
            obtain rfl : pr = true := (ans_dom ha' hy hpr).2 NB.out.dom
            have st1 : Below wb.heap.size wb wh := View.more st0 hbh
            clear hpr hbh
            go_wp2_with fail
            refine hK.out _ _ st1 (fun _ => ?_)
            clear hK K
            replace hS := st1
            try simp only [Act.put, List.setIfInBounds_toArray, List.set_cons_zero, List.set_cons_succ]
            refine takeAt (i := 22) (d := some 158) (v := ?v00_22) rfl (by rfl) (by kernel_rfl) (by kernel_rfl) (by kernel_rfl) (fun _ _ _ h => h) (Or.inl ⟨by rfl, ?y00_22⟩) hS ?_
            case y00_22 => intro wx hSw; (go_simp) <;> with_reducible rfl
            simp only [Act.put, List.setIfInBounds_toArray, List.set_cons_zero, List.set_cons_succ]
            refine takeAt (i := 23) (d := some 159) (v := ?v00_23) rfl (by rfl) (by kernel_rfl) (by kernel_rfl) (by kernel_rfl) (fun _ _ _ h => h) (Or.inl ⟨by rfl, ?y00_23⟩) hS ?_
            case y00_23 => intro wx hSw; (go_simp) <;> with_reducible rfl
            simp only [Act.put, List.setIfInBounds_toArray, List.set_cons_zero, List.set_cons_succ]
            refine takeAt (i := 24) (d := some 160) (v := ?v00_24) rfl (by rfl) (by kernel_rfl) (by kernel_rfl) (by kernel_rfl) (fun _ _ _ h => h) (Or.inl ⟨by rfl, ?y00_24⟩) hS ?_
            case y00_24 => intro wx hSw; (go_simp) <;> with_reducible rfl
            simp only [Act.put, List.setIfInBounds_toArray, List.set_cons_zero, List.set_cons_succ]
            refine takeAt (i := 25) (d := some 161) (v := ?v00_25) rfl (by rfl) (by kernel_rfl) (by kernel_rfl) (by kernel_rfl) (fun _ _ _ h => h) (Or.inl ⟨by rfl, ?y00_25⟩) hS ?_
            case y00_25 => intro wx hSw; (go_simp) <;> with_reducible rfl
            simp only [Act.put, List.setIfInBounds_toArray, List.set_cons_zero, List.set_cons_succ]
            refine takeAt (i := 26) (d := some 162) (v := ?v00_26) rfl (by rfl) (by kernel_rfl) (by kernel_rfl) (by kernel_rfl) (fun _ _ _ h => h) (Or.inl ⟨by rfl, ?y00_26⟩) hS ?_
            case y00_26 => intro wx hSw; (go_simp) <;> with_reducible rfl
            simp only [Act.put, List.setIfInBounds_toArray, List.set_cons_zero, List.set_cons_succ]
            refine takeAt (i := 27) (d := some 163) (v := undef) rfl (by rfl) (by kernel_rfl) (by kernel_rfl) (by kernel_rfl) (fun _ _ _ h => h) (Or.inr ⟨by rfl, rfl⟩) hS ?_
            simp only [Act.put, List.setIfInBounds_toArray, List.set_cons_zero, List.set_cons_succ]
            refine takeAt (i := 28) (d := some 164) (v := undef) rfl (by rfl) (by kernel_rfl) (by kernel_rfl) (by kernel_rfl) (fun _ _ _ h => h) (Or.inr ⟨by rfl, rfl⟩) hS ?_
            simp only [Act.put, List.setIfInBounds_toArray, List.set_cons_zero, List.set_cons_succ]
            refine takeAt (i := 29) (d := some 165) (v := undef) rfl (by rfl) (by kernel_rfl) (by kernel_rfl) (by kernel_rfl) (fun _ _ _ h => h) (Or.inr ⟨by rfl, rfl⟩) hS ?_
            simp only [Act.put, List.setIfInBounds_toArray, List.set_cons_zero, List.set_cons_succ]
            refine takeAt (i := 30) (d := some 166) (v := ?v00_30) rfl (by rfl) (by kernel_rfl) (by kernel_rfl) (by kernel_rfl) (fun _ _ _ h => h) (Or.inl ⟨by rfl, ?y00_30⟩) hS ?_
            case y00_30 => intro wx hSw; (go_simp) <;> with_reducible rfl
            simp only [Act.put, List.setIfInBounds_toArray, List.set_cons_zero, List.set_cons_succ]
            refine takeAt (i := 31) (d := some 167) (v := ?v00_31) rfl (by rfl) (by kernel_rfl) (by kernel_rfl) (by kernel_rfl) (fun _ _ _ h => h) (Or.inl ⟨by rfl, ?y00_31⟩) hS ?_
            case y00_31 => intro wx hSw; (go_simp) <;> with_reducible rfl
            simp only [Act.put, List.setIfInBounds_toArray, List.set_cons_zero, List.set_cons_succ]
            refine takeAt (i := 32) (d := some 168) (v := undef) rfl (by rfl) (by kernel_rfl) (by kernel_rfl) (by kernel_rfl) (fun _ _ _ h => h) (Or.inr ⟨by rfl, rfl⟩) hS ?_
            simp only [Act.put, List.setIfInBounds_toArray, List.set_cons_zero, List.set_cons_succ]
            refine takeAt (i := 33) (d := some 169) (v := undef) rfl (by rfl) (by kernel_rfl) (by kernel_rfl) (by kernel_rfl) (fun _ _ _ h => h) (Or.inr ⟨by rfl, rfl⟩) hS ?_
            simp only [Act.put, List.setIfInBounds_toArray, List.set_cons_zero, List.set_cons_succ]
            refine takeAt (i := 34) (d := some 170) (v := undef) rfl (by rfl) (by kernel_rfl) (by kernel_rfl) (by kernel_rfl) (fun _ _ _ h => h) (Or.inr ⟨by rfl, rfl⟩) hS ?_
            simp only [Act.put, List.setIfInBounds_toArray, List.set_cons_zero, List.set_cons_succ]
            refine takeAt (i := 35) (d := some 171) (v := undef) rfl (by rfl) (by kernel_rfl) (by kernel_rfl) (by kernel_rfl) (fun _ _ _ h => h) (Or.inr ⟨by rfl, rfl⟩) hS ?_
            simp only [Act.put, List.setIfInBounds_toArray, List.set_cons_zero, List.set_cons_succ]
            refine takeAt (i := 36) (d := some 172) (v := undef) rfl (by rfl) (by kernel_rfl) (by kernel_rfl) (by kernel_rfl) (fun _ _ _ h => h) (Or.inr ⟨by rfl, rfl⟩) hS ?_
            simp only [Act.put, List.setIfInBounds_toArray, List.set_cons_zero, List.set_cons_succ]
            refine takeAt (i := 37) (d := some 173) (v := undef) rfl (by rfl) (by kernel_rfl) (by kernel_rfl) (by kernel_rfl) (fun _ _ _ h => h) (Or.inr ⟨by rfl, rfl⟩) hS ?_
            simp only [Act.put, List.setIfInBounds_toArray, List.set_cons_zero, List.set_cons_succ]
            refine takeAt (i := 38) (d := some 174) (v := undef) rfl (by rfl) (by kernel_rfl) (by kernel_rfl) (by kernel_rfl) (fun _ _ _ h => h) (Or.inr ⟨by rfl, rfl⟩) hS ?_
            simp only [Act.put, List.setIfInBounds_toArray, List.set_cons_zero, List.set_cons_succ]
            refine takeAt (i := 39) (d := some 175) (v := ?v00_39) rfl (by rfl) (by kernel_rfl) (by kernel_rfl) (by kernel_rfl) (fun _ _ _ h => h) (Or.inl ⟨by rfl, ?y00_39⟩) hS ?_
            case y00_39 => intro wx hSw; (go_simp) <;> with_reducible rfl
            simp only [Act.put, List.setIfInBounds_toArray, List.set_cons_zero, List.set_cons_succ]
            refine takeAt (i := 40) (d := some 176) (v := ?v00_40) rfl (by rfl) (by kernel_rfl) (by kernel_rfl) (by kernel_rfl) (fun _ _ _ h => h) (Or.inl ⟨by rfl, ?y00_40⟩) hS ?_
            case y00_40 => intro wx hSw; (go_simp) <;> with_reducible rfl
            simp only [Act.put, List.setIfInBounds_toArray, List.set_cons_zero, List.set_cons_succ]
            refine takeAt (i := 41) (d := some 8) (v := ?v00_41) rfl (by rfl) (by kernel_rfl) (by kernel_rfl) (by kernel_rfl) (fun _ _ _ h => h) (Or.inl ⟨by rfl, ?y00_41⟩) hS ?_
            case y00_41 => intro wx hSw; (go_simp) <;> with_reducible rfl
            simp only [Act.put, List.setIfInBounds_toArray, List.set_cons_zero, List.set_cons_succ]
            refine wpAnyH_done (by kernel_rfl) ?_ _
            refine NoPanic.normal ?_
            go_wp2_with fail
            go_ret
            exact ⟨rfl, View.more BB.out st1⟩
      | true =>
        cases py with
        | false =>
          cases pz with
          | false =>
            have QX := hid (PX.out.1 rfl)
            have QY := hid (show ¬ DomR F y z from fun h => absurd (PY.out.2 h) (by simp))
            have QZ := hid (show ¬ DomR F x z from fun h => absurd (PZ.out.2 h) (by simp))
            clear PX PY PZ
            obtain ⟨c0, c1, c2, c3, c4⟩ := FB.out.on CF.out
            have e1 := D0 _ CF.out
            go_wp2_with fail
            refine (dom_any F y x _ (IB.out.on CF.out) HL.out HJ.out).mono ?_
            rintro e wg ⟨pr, rfl, hpr, hbg⟩
            obtain rfl : pr = false := by
              cases pr with
              | false => rfl
              | true => exact absurd (dom_anti QX.out ((ans_dom hy hx hpr).1 rfl) GR.out) HXY.out
            have CG := hid (View.more CF.out hbg)
            clear hpr hbg c0 c1 c2 c3 c4 e1
            obtain ⟨c0, c1, c2, c3, c4⟩ := FB.out.on CG.out
            have e1 := D0 _ CG.out
            go_wp2_with fail
            have st0 : Below wb.heap.size wb wg.drew := Below.drew CG.out
            clear c0 c1 c2 c3 c4 e1
            refine wp_region_noPanic ?_
            refine wp_region_held_drew (S := fun wx => Below wb.heap.size wb wx) (by kernel_rfl) st0 (fun hS => ?_)
            refine takeAt (i := 0) (d := some 136) (v := ?v10_0) rfl (by rfl) (by kernel_rfl) (by kernel_rfl) (by kernel_rfl) (fun _ _ _ h => h) (Or.inl ⟨by rfl, ?y10_0⟩) hS ?_
            case y10_0 => intro wx hSw; (go_simp) <;> with_reducible rfl
            simp only [Act.put, List.setIfInBounds_toArray, List.set_cons_zero, List.set_cons_succ]
            refine takeAt (i := 1) (d := some 137) (v := ?v10_1) rfl (by rfl) (by kernel_rfl) (by kernel_rfl) (by kernel_rfl) (fun _ _ _ h => h) (Or.inl ⟨by rfl, ?y10_1⟩) hS ?_
            case y10_1 => intro wx hSw; (go_simp) <;> with_reducible rfl
            simp only [Act.put, List.setIfInBounds_toArray, List.set_cons_zero, List.set_cons_succ]
            refine takeAt (i := 2) (d := some 138) (v := ?v10_2) rfl (by rfl) (by kernel_rfl) (by kernel_rfl) (by kernel_rfl) (fun _ _ _ h => h) (Or.inl ⟨by rfl, ?y10_2⟩) hS ?_
            case y10_2 => intro wx hSw; (go_simp) <;> with_reducible rfl
            simp only [Act.put, List.setIfInBounds_toArray, List.set_cons_zero, List.set_cons_succ]
            refine takeAt (i := 3) (d := some 139) (v := ?v10_3) rfl (by rfl) (by kernel_rfl) (by kernel_rfl) (by kernel_rfl) (fun _ _ _ h => h) (Or.inl ⟨by rfl, ?y10_3⟩) hS ?_
            case y10_3 => intro wx hSw; (go_simp) <;> with_reducible rfl
            simp only [Act.put, List.setIfInBounds_toArray, List.set_cons_zero, List.set_cons_succ]
            refine takeAt (i := 4) (d := some 140) (v := ?v10_4) rfl (by rfl) (by kernel_rfl) (by kernel_rfl) (by kernel_rfl) (fun _ _ _ h => h) (Or.inl ⟨by rfl, ?y10_4⟩) hS ?_
            case y10_4 => intro wx hSw; (go_simp) <;> with_reducible rfl
            simp only [Act.put, List.setIfInBounds_toArray, List.set_cons_zero, List.set_cons_succ]
            refine takeAt (i := 5) (d := some 141) (v := ?v10_5) rfl (by rfl) (by kernel_rfl) (by kernel_rfl) (by kernel_rfl) (fun _ _ _ h => h) (Or.inl ⟨by rfl, ?y10_5⟩) hS ?_
            case y10_5 => intro wx hSw; (go_simp) <;> with_reducible rfl
            simp only [Act.put, List.setIfInBounds_toArray, List.set_cons_zero, List.set_cons_succ]
            refine takeAt (i := 6) (d := some 142) (v := ?v10_6) rfl (by rfl) (by kernel_rfl) (by kernel_rfl) (by kernel_rfl) (fun _ _ _ h => h) (Or.inl ⟨by rfl, ?y10_6⟩) hS ?_
            case y10_6 => intro wx hSw; (go_simp) <;> with_reducible rfl
            simp only [Act.put, List.setIfInBounds_toArray, List.set_cons_zero, List.set_cons_succ]
            refine takeAt (i := 7) (d := some 143) (v := ?v10_7) rfl (by rfl) (by kernel_rfl) (by kernel_rfl) (by kernel_rfl) (fun _ _ _ h => h) (Or.inl ⟨by rfl, ?y10_7⟩) hS ?_
            case y10_7 => intro wx hSw; (go_simp) <;> with_reducible rfl
            simp only [Act.put, List.setIfInBounds_toArray, List.set_cons_zero, List.set_cons_succ]
            refine takeAt (i := 8) (d := some 144) (v := ?v10_8) rfl (by rfl) (by kernel_rfl) (by kernel_rfl) (by kernel_rfl) (fun _ _ _ h => h) (Or.inl ⟨by rfl, ?y10_8⟩) hS ?_
            case y10_8 => intro wx hSw; (go_simp) <;> with_reducible rfl
            simp only [Act.put, List.setIfInBounds_toArray, List.set_cons_zero, List.set_cons_succ]
            refine takeAt (i := 9) (d := some 145) (v := ?v10_9) rfl (by rfl) (by kernel_rfl) (by kernel_rfl) (by kernel_rfl) (fun _ _ _ h => h) (Or.inl ⟨by rfl, ?y10_9⟩) hS ?_
            case y10_9 => intro wx hSw; (go_simp) <;> with_reducible rfl
            simp only [Act.put, List.setIfInBounds_toArray, List.set_cons_zero, List.set_cons_succ]
            refine takeAt (i := 10) (d := some 146) (v := ?v10_10) rfl (by rfl) (by kernel_rfl) (by kernel_rfl) (by kernel_rfl) (fun _ _ _ h => h) (Or.inl ⟨by rfl, ?y10_10⟩) hS ?_
            case y10_10 => intro wx hSw; (go_simp) <;> with_reducible rfl
            simp only [Act.put, List.setIfInBounds_toArray, List.set_cons_zero, List.set_cons_succ]
            refine takeAt (i := 11) (d := some 147) (v := ?v10_11) rfl (by rfl) (by kernel_rfl) (by kernel_rfl) (by kernel_rfl) (fun _ _ _ h => h) (Or.inl ⟨by rfl, ?y10_11⟩) hS ?_
            case y10_11 => intro wx hSw; (go_simp) <;> with_reducible rfl
            simp only [Act.put, List.setIfInBounds_toArray, List.set_cons_zero, List.set_cons_succ]
            refine takeAt (i := 12) (d := some 148) (v := ?v10_12) rfl (by rfl) (by kernel_rfl) (by kernel_rfl) (by kernel_rfl) (fun _ _ _ h => h) (Or.inl ⟨by rfl, ?y10_12⟩) hS ?_
            case y10_12 => intro wx hSw; (go_simp) <;> with_reducible rfl
            simp only [Act.put, List.setIfInBounds_toArray, List.set_cons_zero, List.set_cons_succ]
            refine takeAt (i := 13) (d := some 149) (v := ?v10_13) rfl (by rfl) (by kernel_rfl) (by kernel_rfl) (by kernel_rfl) (fun _ _ _ h => h) (Or.inl ⟨by rfl, ?y10_13⟩) hS ?_
            case y10_13 => intro wx hSw; (go_simp) <;> with_reducible rfl
            simp only [Act.put, List.setIfInBounds_toArray, List.set_cons_zero, List.set_cons_succ]
            refine takeAt (i := 14) (d := some 150) (v := ?v10_14) rfl (by rfl) (by kernel_rfl) (by kernel_rfl) (by kernel_rfl) (fun _ _ _ h => h) (Or.inl ⟨by rfl, ?y10_14⟩) hS ?_
            case y10_14 => intro wx hSw; (go_simp) <;> with_reducible rfl
            simp only [Act.put, List.setIfInBounds_toArray, List.set_cons_zero, List.set_cons_succ]
            refine takeAt (i := 15) (d := some 151) (v := ?v10_15) rfl (by rfl) (by kernel_rfl) (by kernel_rfl) (by kernel_rfl) (fun _ _ _ h => h) (Or.inl ⟨by rfl, ?y10_15⟩) hS ?_
            case y10_15 => intro wx hSw; (go_simp) <;> with_reducible rfl
            simp only [Act.put, List.setIfInBounds_toArray, List.set_cons_zero, List.set_cons_succ]
            refine takeAt (i := 16) (d := some 152) (v := ?v10_16) rfl (by rfl) (by kernel_rfl) (by kernel_rfl) (by kernel_rfl) (fun _ _ _ h => h) (Or.inl ⟨by rfl, ?y10_16⟩) hS ?_
            case y10_16 => intro wx hSw; (go_simp) <;> with_reducible rfl
            simp only [Act.put, List.setIfInBounds_toArray, List.set_cons_zero, List.set_cons_succ]
            refine takeAt (i := 17) (d := some 153) (v := ?v10_17) rfl (by rfl) (by kernel_rfl) (by kernel_rfl) (by kernel_rfl) (fun _ _ _ h => h) (Or.inl ⟨by rfl, ?y10_17⟩) hS ?_
            case y10_17 => intro wx hSw; (go_simp) <;> with_reducible rfl
            simp only [Act.put, List.setIfInBounds_toArray, List.set_cons_zero, List.set_cons_succ]
            refine takeAt (i := 18) (d := some 154) (v := ?v10_18) rfl (by rfl) (by kernel_rfl) (by kernel_rfl) (by kernel_rfl) (fun _ _ _ h => h) (Or.inl ⟨by rfl, ?y10_18⟩) hS ?_
            case y10_18 => intro wx hSw; (go_simp) <;> with_reducible rfl
            simp only [Act.put, List.setIfInBounds_toArray, List.set_cons_zero, List.set_cons_succ]
            refine takeAt (i := 19) (d := some 155) (v := ?v10_19) rfl (by rfl) (by kernel_rfl) (by kernel_rfl) (by kernel_rfl) (fun _ _ _ h => h) (Or.inl ⟨by rfl, ?y10_19⟩) hS ?_
            case y10_19 => intro wx hSw; (go_simp) <;> with_reducible rfl
            simp only [Act.put, List.setIfInBounds_toArray, List.set_cons_zero, List.set_cons_succ]
            refine takeAt (i := 20) (d := some 156) (v := ?v10_20) rfl (by rfl) (by kernel_rfl) (by kernel_rfl) (by kernel_rfl) (fun _ _ _ h => h) (Or.inl ⟨by rfl, ?y10_20⟩) hS ?_
            case y10_20 => intro wx hSw; (go_simp) <;> with_reducible rfl
            simp only [Act.put, List.setIfInBounds_toArray, List.set_cons_zero, List.set_cons_succ]
            refine wpAnyH_ready (rs := [21]) (by kernel_rfl) (by simp) ?_
            refine AllReadyH.cons rfl (fun K hK => ?_) AllReadyH.nil
            go_simp
            refine (dom_any F a' y _ (IB.out.on st0) HL.out HJ.out).mono ?_
            rintro e wh ⟨pr, rfl, hpr, hbh⟩
            obtain rfl : pr = true := (ans_dom ha' hy hpr).2 NB.out.dom
            have st1 : Below wb.heap.size wb wh := View.more st0 hbh
            clear hpr hbh
            go_wp2_with fail
            refine hK.out _ _ st1 (fun _ => ?_)
            clear hK K
            replace hS := st1
            try simp only [Act.put, List.setIfInBounds_toArray, List.set_cons_zero, List.set_cons_succ]
            refine takeAt (i := 22) (d := some 158) (v := ?v10_22) rfl (by rfl) (by kernel_rfl) (by kernel_rfl) (by kernel_rfl) (fun _ _ _ h => h) (Or.inl ⟨by rfl, ?y10_22⟩) hS ?_
            case y10_22 => intro wx hSw; (go_simp) <;> with_reducible rfl
            simp only [Act.put, List.setIfInBounds_toArray, List.set_cons_zero, List.set_cons_succ]
            refine takeAt (i := 23) (d := some 159) (v := ?v10_23) rfl (by rfl) (by kernel_rfl) (by kernel_rfl) (by kernel_rfl) (fun _ _ _ h => h) (Or.inl ⟨by rfl, ?y10_23⟩) hS ?_
            case y10_23 => intro wx hSw; (go_simp) <;> with_reducible rfl
            simp only [Act.put, List.setIfInBounds_toArray, List.set_cons_zero, List.set_cons_succ]
            refine takeAt (i := 24) (d := some 160) (v := ?v10_24) rfl (by rfl) (by kernel_rfl) (by kernel_rfl) (by kernel_rfl) (fun _ _ _ h => h) (Or.inl ⟨by rfl, ?y10_24⟩) hS ?_
            case y10_24 => intro wx hSw; (go_simp) <;> with_reducible rfl
            simp only [Act.put, List.setIfInBounds_toArray, List.set_cons_zero, List.set_cons_succ]
            refine takeAt (i := 25) (d := some 161) (v := ?v10_25) rfl (by rfl) (by kernel_rfl) (by kernel_rfl) (by kernel_rfl) (fun _ _ _ h => h) (Or.inl ⟨by rfl, ?y10_25⟩) hS ?_
            case y10_25 => intro wx hSw; (go_simp) <;> with_reducible rfl
            simp only [Act.put, List.setIfInBounds_toArray, List.set_cons_zero, List.set_cons_succ]
            refine takeAt (i := 26) (d := some 162) (v := ?v10_26) rfl (by rfl) (by kernel_rfl) (by kernel_rfl) (by kernel_rfl) (fun _ _ _ h => h) (Or.inl ⟨by rfl, ?y10_26⟩) hS ?_
            case y10_26 => intro wx hSw; (go_simp) <;> with_reducible rfl
            simp only [Act.put, List.setIfInBounds_toArray, List.set_cons_zero, List.set_cons_succ]
            refine takeAt (i := 27) (d := some 163) (v := ?v10_27) rfl (by rfl) (by kernel_rfl) (by kernel_rfl) (by kernel_rfl) (fun _ _ _ h => h) (Or.inl ⟨by rfl, ?y10_27⟩) hS ?_
            case y10_27 => intro wx hSw; (go_simp) <;> with_reducible rfl
            simp only [Act.put, List.setIfInBounds_toArray, List.set_cons_zero, List.set_cons_succ]
            refine takeAt (i := 28) (d := some 164) (v := ?v10_28) rfl (by rfl) (by kernel_rfl) (by kernel_rfl) (by kernel_rfl) (fun _ _ _ h => h) (Or.inl ⟨by rfl, ?y10_28⟩) hS ?_
            case y10_28 => intro wx hSw; (go_simp) <;> with_reducible rfl
            simp only [Act.put, List.setIfInBounds_toArray, List.set_cons_zero, List.set_cons_succ]
            refine takeAt (i := 29) (d := some 165) (v := ?v10_29) rfl (by rfl) (by kernel_rfl) (by kernel_rfl) (by kernel_rfl) (fun _ _ _ h => h) (Or.inl ⟨by rfl, ?y10_29⟩) hS ?_
            case y10_29 => intro wx hSw; (go_simp) <;> with_reducible rfl
            simp only [Act.put, List.setIfInBounds_toArray, List.set_cons_zero, List.set_cons_succ]
            refine takeAt (i := 30) (d := some 166) (v := ?v10_30) rfl (by rfl) (by kernel_rfl) (by kernel_rfl) (by kernel_rfl) (fun _ _ _ h => h) (Or.inl ⟨by rfl, ?y10_30⟩) hS ?_
            case y10_30 => intro wx hSw; (go_simp) <;> with_reducible rfl
            simp only [Act.put, List.setIfInBounds_toArray, List.set_cons_zero, List.set_cons_succ]
            refine takeAt (i := 31) (d := some 167) (v := ?v10_31) rfl (by rfl) (by kernel_rfl) (by kernel_rfl) (by kernel_rfl) (fun _ _ _ h => h) (Or.inl ⟨by rfl, ?y10_31⟩) hS ?_
            case y10_31 => intro wx hSw; (go_simp) <;> with_reducible rfl
            simp only [Act.put, List.setIfInBounds_toArray, List.set_cons_zero, List.set_cons_succ]
            refine takeAt (i := 32) (d := some 168) (v := ?v10_32) rfl (by rfl) (by kernel_rfl) (by kernel_rfl) (by kernel_rfl) (fun _ _ _ h => h) (Or.inl ⟨by rfl, ?y10_32⟩) hS ?_
            case y10_32 => intro wx hSw; (go_simp) <;> with_reducible rfl
            simp only [Act.put, List.setIfInBounds_toArray, List.set_cons_zero, List.set_cons_succ]
            refine takeAt (i := 33) (d := some 169) (v := ?v10_33) rfl (by rfl) (by kernel_rfl) (by kernel_rfl) (by kernel_rfl) (fun _ _ _ h => h) (Or.inl ⟨by rfl, ?y10_33⟩) hS ?_
            case y10_33 => intro wx hSw; (go_simp) <;> with_reducible rfl
            simp only [Act.put, List.setIfInBounds_toArray, List.set_cons_zero, List.set_cons_succ]
            refine takeAt (i := 34) (d := some 170) (v := ?v10_34) rfl (by rfl) (by kernel_rfl) (by kernel_rfl) (by kernel_rfl) (fun _ _ _ h => h) (Or.inl ⟨by rfl, ?y10_34⟩) hS ?_
            case y10_34 => intro wx hSw; (go_simp) <;> with_reducible rfl
            simp only [Act.put, List.setIfInBounds_toArray, List.set_cons_zero, List.set_cons_succ]
            refine takeAt (i := 35) (d := some 171) (v := ?v10_35) rfl (by rfl) (by kernel_rfl) (by kernel_rfl) (by kernel_rfl) (fun _ _ _ h => h) (Or.inl ⟨by rfl, ?y10_35⟩) hS ?_
            case y10_35 => intro wx hSw; (go_simp) <;> with_reducible rfl
            simp only [Act.put, List.setIfInBounds_toArray, List.set_cons_zero, List.set_cons_succ]
            refine takeAt (i := 36) (d := some 172) (v := ?v10_36) rfl (by rfl) (by kernel_rfl) (by kernel_rfl) (by kernel_rfl) (fun _ _ _ h => h) (Or.inl ⟨by rfl, ?y10_36⟩) hS ?_
            case y10_36 => intro wx hSw; (go_simp) <;> with_reducible rfl
            simp only [Act.put, List.setIfInBounds_toArray, List.set_cons_zero, List.set_cons_succ]
            refine takeAt (i := 37) (d := some 173) (v := ?v10_37) rfl (by rfl) (by kernel_rfl) (by kernel_rfl) (by kernel_rfl) (fun _ _ _ h => h) (Or.inl ⟨by rfl, ?y10_37⟩) hS ?_
            case y10_37 => intro wx hSw; (go_simp) <;> with_reducible rfl
            simp only [Act.put, List.setIfInBounds_toArray, List.set_cons_zero, List.set_cons_succ]
            refine wpAnyH_ready (rs := [38]) (by kernel_rfl) (by simp) ?_
            refine AllReadyH.cons rfl (fun K hK => ?_) AllReadyH.nil
            go_simp
            refine (dom_any F x a' _ (IB.out.on st1) HL.out HJ.out).mono ?_
            rintro e wi ⟨pr, rfl, hpr, hbi⟩
            obtain rfl : pr = true := (ans_dom hx ha' hpr).2 (NB.out.low x HXY.out QX.out)
            have st2 : Below wb.heap.size wb wi := View.more st1 hbi
            clear hpr hbi
            go_wp2_with fail
            refine hK.out _ _ st2 (fun _ => ?_)
            clear hK K
            replace hS := st2
            try simp only [Act.put, List.setIfInBounds_toArray, List.set_cons_zero, List.set_cons_succ]
            refine takeAt (i := 39) (d := some 175) (v := ?v10_39) rfl (by rfl) (by kernel_rfl) (by kernel_rfl) (by kernel_rfl) (fun _ _ _ h => h) (Or.inl ⟨by rfl, ?y10_39⟩) hS ?_
            case y10_39 => intro wx hSw; (go_simp) <;> with_reducible rfl
            simp only [Act.put, List.setIfInBounds_toArray, List.set_cons_zero, List.set_cons_succ]
            refine takeAt (i := 40) (d := some 176) (v := ?v10_40) rfl (by rfl) (by kernel_rfl) (by kernel_rfl) (by kernel_rfl) (fun _ _ _ h => h) (Or.inl ⟨by rfl, ?y10_40⟩) hS ?_
            case y10_40 => intro wx hSw; (go_simp) <;> with_reducible rfl
            simp only [Act.put, List.setIfInBounds_toArray, List.set_cons_zero, List.set_cons_succ]
            refine takeAt (i := 41) (d := some 8) (v := ?v10_41) rfl (by rfl) (by kernel_rfl) (by kernel_rfl) (by kernel_rfl) (fun _ _ _ h => h) (Or.inl ⟨by rfl, ?y10_41⟩) hS ?_
            case y10_41 => intro wx hSw; (go_simp) <;> with_reducible rfl
            simp only [Act.put, List.setIfInBounds_toArray, List.set_cons_zero, List.set_cons_succ]
            refine wpAnyH_done (by kernel_rfl) ?_ _
            refine NoPanic.normal ?_
            go_wp2_with fail
            go_ret
            exact ⟨rfl, View.more BB.out st2⟩
          | true =>
            have QX := hid (PX.out.1 rfl)
            have QY := hid (show ¬ DomR F y z from fun h => absurd (PY.out.2 h) (by simp))
            have QZ := hid (PZ.out.1 rfl)
            clear PX PY PZ
            obtain ⟨c0, c1, c2, c3, c4⟩ := FB.out.on CF.out
            have e1 := D0 _ CF.out
            go_wp2_with fail
            refine (dom_any F y x _ (IB.out.on CF.out) HL.out HJ.out).mono ?_
            rintro e wg ⟨pr, rfl, hpr, hbg⟩
            obtain rfl : pr = false := by
              cases pr with
              | false => rfl
              | true => exact absurd (dom_anti QX.out ((ans_dom hy hx hpr).1 rfl) GR.out) HXY.out
            have CG := hid (View.more CF.out hbg)
            clear hpr hbg c0 c1 c2 c3 c4 e1
            obtain ⟨c0, c1, c2, c3, c4⟩ := FB.out.on CG.out
            have e1 := D0 _ CG.out
            go_wp2_with fail
            have st0 : Below wb.heap.size wb wg.drew := Below.drew CG.out
            clear c0 c1 c2 c3 c4 e1
            refine wp_region_noPanic ?_
            refine wp_region_held_drew (S := fun wx => Below wb.heap.size wb wx) (by kernel_rfl) st0 (fun hS => ?_)
            refine takeAt (i := 0) (d := some 136) (v := ?v10_0) rfl (by rfl) (by kernel_rfl) (by kernel_rfl) (by kernel_rfl) (fun _ _ _ h => h) (Or.inl ⟨by rfl, ?y10_0⟩) hS ?_
            case y10_0 => intro wx hSw; (go_simp) <;> with_reducible rfl
            simp only [Act.put, List.setIfInBounds_toArray, List.set_cons_zero, List.set_cons_succ]
            refine takeAt (i := 1) (d := some 137) (v := ?v10_1) rfl (by rfl) (by kernel_rfl) (by kernel_rfl) (by kernel_rfl) (fun _ _ _ h => h) (Or.inl ⟨by rfl, ?y10_1⟩) hS ?_
            case y10_1 => intro wx hSw; (go_simp) <;> with_reducible rfl
            simp only [Act.put, List.setIfInBounds_toArray, List.set_cons_zero, List.set_cons_succ]
            refine takeAt (i := 2) (d := some 138) (v := ?v10_2) rfl (by rfl) (by kernel_rfl) (by kernel_rfl) (by kernel_rfl) (fun _ _ _ h => h) (Or.inl ⟨by rfl, ?y10_2⟩) hS ?_
            case y10_2 => intro wx hSw; (go_simp) <;> with_reducible rfl
            simp only [Act.put, List.setIfInBounds_toArray, List.set_cons_zero, List.set_cons_succ]
            refine takeAt (i := 3) (d := some 139) (v := ?v10_3) rfl (by rfl) (by kernel_rfl) (by kernel_rfl) (by kernel_rfl) (fun _ _ _ h => h) (Or.inl ⟨by rfl, ?y10_3⟩) hS ?_
            case y10_3 => intro wx hSw; (go_simp) <;> with_reducible rfl
            simp only [Act.put, List.setIfInBounds_toArray, List.set_cons_zero, List.set_cons_succ]
            refine takeAt (i := 4) (d := some 140) (v := ?v10_4) rfl (by rfl) (by kernel_rfl) (by kernel_rfl) (by kernel_rfl) (fun _ _ _ h => h) (Or.inl ⟨by rfl, ?y10_4⟩) hS ?_
            case y10_4 => intro wx hSw; (go_simp) <;> with_reducible rfl
            simp only [Act.put, List.setIfInBounds_toArray, List.set_cons_zero, List.set_cons_succ]
            refine takeAt (i := 5) (d := some 141) (v := ?v10_5) rfl (by rfl) (by kernel_rfl) (by kernel_rfl) (by kernel_rfl) (fun _ _ _ h => h) (Or.inl ⟨by rfl, ?y10_5⟩) hS ?_
            case y10_5 => intro wx hSw; (go_simp) <;> with_reducible rfl
            simp only [Act.put, List.setIfInBounds_toArray, List.set_cons_zero, List.set_cons_succ]
            refine takeAt (i := 6) (d := some 142) (v := ?v10_6) rfl (by rfl) (by kernel_rfl) (by kernel_rfl) (by kernel_rfl) (fun _ _ _ h => h) (Or.inl ⟨by rfl, ?y10_6⟩) hS ?_
            case y10_6 => intro wx hSw; (go_simp) <;> with_reducible rfl
            simp only [Act.put, List.setIfInBounds_toArray, List.set_cons_zero, List.set_cons_succ]
            refine takeAt (i := 7) (d := some 143) (v := ?v10_7) rfl (by rfl) (by kernel_rfl) (by kernel_rfl) (by kernel_rfl) (fun _ _ _ h => h) (Or.inl ⟨by rfl, ?y10_7⟩) hS ?_
            case y10_7 => intro wx hSw; (go_simp) <;> with_reducible rfl
            simp only [Act.put, List.setIfInBounds_toArray, List.set_cons_zero, List.set_cons_succ]
            refine takeAt (i := 8) (d := some 144) (v := ?v10_8) rfl (by rfl) (by kernel_rfl) (by kernel_rfl) (by kernel_rfl) (fun _ _ _ h => h) (Or.inl ⟨by rfl, ?y10_8⟩) hS ?_
            case y10_8 => intro wx hSw; (go_simp) <;> with_reducible rfl
            simp only [Act.put, List.setIfInBounds_toArray, List.set_cons_zero, List.set_cons_succ]
            refine takeAt (i := 9) (d := some 145) (v := ?v10_9) rfl (by rfl) (by kernel_rfl) (by kernel_rfl) (by kernel_rfl) (fun _ _ _ h => h) (Or.inl ⟨by rfl, ?y10_9⟩) hS ?_
            case y10_9 => intro wx hSw; (go_simp) <;> with_reducible rfl
            simp only [Act.put, List.setIfInBounds_toArray, List.set_cons_zero, List.set_cons_succ]
            refine takeAt (i := 10) (d := some 146) (v := ?v10_10) rfl (by rfl) (by kernel_rfl) (by kernel_rfl) (by kernel_rfl) (fun _ _ _ h => h) (Or.inl ⟨by rfl, ?y10_10⟩) hS ?_
            case y10_10 => intro wx hSw; (go_simp) <;> with_reducible rfl
            simp only [Act.put, List.setIfInBounds_toArray, List.set_cons_zero, List.set_cons_succ]
            refine takeAt (i := 11) (d := some 147) (v := ?v10_11) rfl (by rfl) (by kernel_rfl) (by kernel_rfl) (by kernel_rfl) (fun _ _ _ h => h) (Or.inl ⟨by rfl, ?y10_11⟩) hS ?_
            case y10_11 => intro wx hSw; (go_simp) <;> with_reducible rfl
            simp only [Act.put, List.setIfInBounds_toArray, List.set_cons_zero, List.set_cons_succ]
            refine takeAt (i := 12) (d := some 148) (v := ?v10_12) rfl (by rfl) (by kernel_rfl) (by kernel_rfl) (by kernel_rfl) (fun _ _ _ h => h) (Or.inl ⟨by rfl, ?y10_12⟩) hS ?_
            case y10_12 => intro wx hSw; (go_simp) <;> with_reducible rfl
            simp only [Act.put, List.setIfInBounds_toArray, List.set_cons_zero, List.set_cons_succ]
            refine takeAt (i := 13) (d := some 149) (v := ?v10_13) rfl (by rfl) (by kernel_rfl) (by kernel_rfl) (by kernel_rfl) (fun _ _ _ h => h) (Or.inl ⟨by rfl, ?y10_13⟩) hS ?_
            case y10_13 => intro wx hSw; (go_simp) <;> with_reducible rfl
            simp only [Act.put, List.setIfInBounds_toArray, List.set_cons_zero, List.set_cons_succ]
            refine takeAt (i := 14) (d := some 150) (v := ?v10_14) rfl (by rfl) (by kernel_rfl) (by kernel_rfl) (by kernel_rfl) (fun _ _ _ h => h) (Or.inl ⟨by rfl, ?y10_14⟩) hS ?_
            case y10_14 => intro wx hSw; (go_simp) <;> with_reducible rfl
            simp only [Act.put, List.setIfInBounds_toArray, List.set_cons_zero, List.set_cons_succ]
            refine takeAt (i := 15) (d := some 151) (v := ?v10_15) rfl (by rfl) (by kernel_rfl) (by kernel_rfl) (by kernel_rfl) (fun _ _ _ h => h) (Or.inl ⟨by rfl, ?y10_15⟩) hS ?_
            case y10_15 => intro wx hSw; (go_simp) <;> with_reducible rfl
            simp only [Act.put, List.setIfInBounds_toArray, List.set_cons_zero, List.set_cons_succ]
            refine takeAt (i := 16) (d := some 152) (v := ?v10_16) rfl (by rfl) (by kernel_rfl) (by kernel_rfl) (by kernel_rfl) (fun _ _ _ h => h) (Or.inl ⟨by rfl, ?y10_16⟩) hS ?_
            case y10_16 => intro wx hSw; (go_simp) <;> with_reducible rfl
            simp only [Act.put, List.setIfInBounds_toArray, List.set_cons_zero, List.set_cons_succ]
            refine takeAt (i := 17) (d := some 153) (v := ?v10_17) rfl (by rfl) (by kernel_rfl) (by kernel_rfl) (by kernel_rfl) (fun _ _ _ h => h) (Or.inl ⟨by rfl, ?y10_17⟩) hS ?_
            case y10_17 => intro wx hSw; (go_simp) <;> with_reducible rfl
            simp only [Act.put, List.setIfInBounds_toArray, List.set_cons_zero, List.set_cons_succ]
            refine takeAt (i := 18) (d := some 154) (v := ?v10_18) rfl (by rfl) (by kernel_rfl) (by kernel_rfl) (by kernel_rfl) (fun _ _ _ h => h) (Or.inl ⟨by rfl, ?y10_18⟩) hS ?_
            case y10_18 => intro wx hSw; (go_simp) <;> with_reducible rfl
            simp only [Act.put, List.setIfInBounds_toArray, List.set_cons_zero, List.set_cons_succ]
            refine takeAt (i := 19) (d := some 155) (v := ?v10_19) rfl (by rfl) (by kernel_rfl) (by kernel_rfl) (by kernel_rfl) (fun _ _ _ h => h) (Or.inl ⟨by rfl, ?y10_19⟩) hS ?_
            case y10_19 => intro wx hSw; (go_simp) <;> with_reducible rfl
            simp only [Act.put, List.setIfInBounds_toArray, List.set_cons_zero, List.set_cons_succ]
            refine takeAt (i := 20) (d := some 156) (v := ?v10_20) rfl (by rfl) (by kernel_rfl) (by kernel_rfl) (by kernel_rfl) (fun _ _ _ h => h) (Or.inl ⟨by rfl, ?y10_20⟩) hS ?_
            case y10_20 => intro wx hSw; (go_simp) <;> with_reducible rfl
            simp only [Act.put, List.setIfInBounds_toArray, List.set_cons_zero, List.set_cons_succ]
            refine wpAnyH_ready (rs := [21]) (by kernel_rfl) (by simp) ?_
            refine AllReadyH.cons rfl (fun K hK => ?_) AllReadyH.nil
            go_simp
            refine (dom_any F a' y _ (IB.out.on st0) HL.out HJ.out).mono ?_
            rintro e wh ⟨pr, rfl, hpr, hbh⟩
            obtain rfl : pr = true := (ans_dom ha' hy hpr).2 NB.out.dom
            have st1 : Below wb.heap.size wb wh := View.more st0 hbh
            clear hpr hbh
            go_wp2_with fail
            refine hK.out _ _ st1 (fun _ => ?_)
            clear hK K
            replace hS := st1
            try simp only [Act.put, List.setIfInBounds_toArray, List.set_cons_zero, List.set_cons_succ]
            refine takeAt (i := 22) (d := some 158) (v := ?v10_22) rfl (by rfl) (by kernel_rfl) (by kernel_rfl) (by kernel_rfl) (fun _ _ _ h => h) (Or.inl ⟨by rfl, ?y10_22⟩) hS ?_
            case y10_22 => intro wx hSw; (go_simp) <;> with_reducible rfl
            simp only [Act.put, List.setIfInBounds_toArray, List.set_cons_zero, List.set_cons_succ]
            refine takeAt (i := 23) (d := some 159) (v := ?v10_23) rfl (by rfl) (by kernel_rfl) (by kernel_rfl) (by kernel_rfl) (fun _ _ _ h => h) (Or.inl ⟨by rfl, ?y10_23⟩) hS ?_
            case y10_23 => intro wx hSw; (go_simp) <;> with_reducible rfl
            simp only [Act.put, List.setIfInBounds_toArray, List.set_cons_zero, List.set_cons_succ]
            refine takeAt (i := 24) (d := some 160) (v := ?v10_24) rfl (by rfl) (by kernel_rfl) (by kernel_rfl) (by kernel_rfl) (fun _ _ _ h => h) (Or.inl ⟨by rfl, ?y10_24⟩) hS ?_
            case y10_24 => intro wx hSw; (go_simp) <;> with_reducible rfl
            simp only [Act.put, List.setIfInBounds_toArray, List.set_cons_zero, List.set_cons_succ]
            refine takeAt (i := 25) (d := some 161) (v := ?v10_25) rfl (by rfl) (by kernel_rfl) (by kernel_rfl) (by kernel_rfl) (fun _ _ _ h => h) (Or.inl ⟨by rfl, ?y10_25⟩) hS ?_
            case y10_25 => intro wx hSw; (go_simp) <;> with_reducible rfl
            simp only [Act.put, List.setIfInBounds_toArray, List.set_cons_zero, List.set_cons_succ]
            refine takeAt (i := 26) (d := some 162) (v := ?v10_26) rfl (by rfl) (by kernel_rfl) (by kernel_rfl) (by kernel_rfl) (fun _ _ _ h => h) (Or.inl ⟨by rfl, ?y10_26⟩) hS ?_
            case y10_26 => intro wx hSw; (go_simp) <;> with_reducible rfl
            simp only [Act.put, List.setIfInBounds_toArray, List.set_cons_zero, List.set_cons_succ]
            refine takeAt (i := 27) (d := some 163) (v := ?v10_27) rfl (by rfl) (by kernel_rfl) (by kernel_rfl) (by kernel_rfl) (fun _ _ _ h => h) (Or.inl ⟨by rfl, ?y10_27⟩) hS ?_
            case y10_27 => intro wx hSw; (go_simp) <;> with_reducible rfl
            simp only [Act.put, List.setIfInBounds_toArray, List.set_cons_zero, List.set_cons_succ]
            refine takeAt (i := 28) (d := some 164) (v := ?v10_28) rfl (by rfl) (by kernel_rfl) (by kernel_rfl) (by kernel_rfl) (fun _ _ _ h => h) (Or.inl ⟨by rfl, ?y10_28⟩) hS ?_
            case y10_28 => intro wx hSw; (go_simp) <;> with_reducible rfl
            simp only [Act.put, List.setIfInBounds_toArray, List.set_cons_zero, List.set_cons_succ]
            refine takeAt (i := 29) (d := some 165) (v := ?v10_29) rfl (by rfl) (by kernel_rfl) (by kernel_rfl) (by kernel_rfl) (fun _ _ _ h => h) (Or.inl ⟨by rfl, ?y10_29⟩) hS ?_
            case y10_29 => intro wx hSw; (go_simp) <;> with_reducible rfl
            simp only [Act.put, List.setIfInBounds_toArray, List.set_cons_zero, List.set_cons_succ]
            refine takeAt (i := 30) (d := some 166) (v := ?v10_30) rfl (by rfl) (by kernel_rfl) (by kernel_rfl) (by kernel_rfl) (fun _ _ _ h => h) (Or.inl ⟨by rfl, ?y10_30⟩) hS ?_
            case y10_30 => intro wx hSw; (go_simp) <;> with_reducible rfl
            simp only [Act.put, List.setIfInBounds_toArray, List.set_cons_zero, List.set_cons_succ]
            refine takeAt (i := 31) (d := some 167) (v := ?v10_31) rfl (by rfl) (by kernel_rfl) (by kernel_rfl) (by kernel_rfl) (fun _ _ _ h => h) (Or.inl ⟨by rfl, ?y10_31⟩) hS ?_
            case y10_31 => intro wx hSw; (go_simp) <;> with_reducible rfl
            simp only [Act.put, List.setIfInBounds_toArray, List.set_cons_zero, List.set_cons_succ]
            refine takeAt (i := 32) (d := some 168) (v := ?v10_32) rfl (by rfl) (by kernel_rfl) (by kernel_rfl) (by kernel_rfl) (fun _ _ _ h => h) (Or.inl ⟨by rfl, ?y10_32⟩) hS ?_
            case y10_32 => intro wx hSw; (go_simp) <;> with_reducible rfl
            simp only [Act.put, List.setIfInBounds_toArray, List.set_cons_zero, List.set_cons_succ]
            refine takeAt (i := 33) (d := some 169) (v := ?v10_33) rfl (by rfl) (by kernel_rfl) (by kernel_rfl) (by kernel_rfl) (fun _ _ _ h => h) (Or.inl ⟨by rfl, ?y10_33⟩) hS ?_
            case y10_33 => intro wx hSw; (go_simp) <;> with_reducible rfl
            simp only [Act.put, List.setIfInBounds_toArray, List.set_cons_zero, List.set_cons_succ]
            refine takeAt (i := 34) (d := some 170) (v := ?v10_34) rfl (by rfl) (by kernel_rfl) (by kernel_rfl) (by kernel_rfl) (fun _ _ _ h => h) (Or.inl ⟨by rfl, ?y10_34⟩) hS ?_
            case y10_34 => intro wx hSw; (go_simp) <;> with_reducible rfl
            simp only [Act.put, List.setIfInBounds_toArray, List.set_cons_zero, List.set_cons_succ]
            refine takeAt (i := 35) (d := some 171) (v := ?v10_35) rfl (by rfl) (by kernel_rfl) (by kernel_rfl) (by kernel_rfl) (fun _ _ _ h => h) (Or.inl ⟨by rfl, ?y10_35⟩) hS ?_
            case y10_35 => intro wx hSw; (go_simp) <;> with_reducible rfl
            simp only [Act.put, List.setIfInBounds_toArray, List.set_cons_zero, List.set_cons_succ]
            refine takeAt (i := 36) (d := some 172) (v := ?v10_36) rfl (by rfl) (by kernel_rfl) (by kernel_rfl) (by kernel_rfl) (fun _ _ _ h => h) (Or.inl ⟨by rfl, ?y10_36⟩) hS ?_
            case y10_36 => intro wx hSw; (go_simp) <;> with_reducible rfl
            simp only [Act.put, List.setIfInBounds_toArray, List.set_cons_zero, List.set_cons_succ]
            refine takeAt (i := 37) (d := some 173) (v := ?v10_37) rfl (by rfl) (by kernel_rfl) (by kernel_rfl) (by kernel_rfl) (fun _ _ _ h => h) (Or.inl ⟨by rfl, ?y10_37⟩) hS ?_
            case y10_37 => intro wx hSw; (go_simp) <;> with_reducible rfl
            simp only [Act.put, List.setIfInBounds_toArray, List.set_cons_zero, List.set_cons_succ]
            refine wpAnyH_ready (rs := [38]) (by kernel_rfl) (by simp) ?_
            refine AllReadyH.cons rfl (fun K hK => ?_) AllReadyH.nil
            go_simp
            refine (dom_any F x a' _ (IB.out.on st1) HL.out HJ.out).mono ?_
            rintro e wi ⟨pr, rfl, hpr, hbi⟩
            obtain rfl : pr = true := (ans_dom hx ha' hpr).2 (NB.out.low x HXY.out QX.out)
            have st2 : Below wb.heap.size wb wi := View.more st1 hbi
            clear hpr hbi
            go_wp2_with fail
            refine hK.out _ _ st2 (fun _ => ?_)
            clear hK K
            replace hS := st2
            try simp only [Act.put, List.setIfInBounds_toArray, List.set_cons_zero, List.set_cons_succ]
            refine takeAt (i := 39) (d := some 175) (v := ?v10_39) rfl (by rfl) (by kernel_rfl) (by kernel_rfl) (by kernel_rfl) (fun _ _ _ h => h) (Or.inl ⟨by rfl, ?y10_39⟩) hS ?_
            case y10_39 => intro wx hSw; (go_simp) <;> with_reducible rfl
            simp only [Act.put, List.setIfInBounds_toArray, List.set_cons_zero, List.set_cons_succ]
            refine takeAt (i := 40) (d := some 176) (v := ?v10_40) rfl (by rfl) (by kernel_rfl) (by kernel_rfl) (by kernel_rfl) (fun _ _ _ h => h) (Or.inl ⟨by rfl, ?y10_40⟩) hS ?_
            case y10_40 => intro wx hSw; (go_simp) <;> with_reducible rfl
            simp only [Act.put, List.setIfInBounds_toArray, List.set_cons_zero, List.set_cons_succ]
            refine takeAt (i := 41) (d := some 8) (v := ?v10_41) rfl (by rfl) (by kernel_rfl) (by kernel_rfl) (by kernel_rfl) (fun _ _ _ h => h) (Or.inl ⟨by rfl, ?y10_41⟩) hS ?_
            case y10_41 => intro wx hSw; (go_simp) <;> with_reducible rfl
            simp only [Act.put, List.setIfInBounds_toArray, List.set_cons_zero, List.set_cons_succ]
            refine wpAnyH_done (by kernel_rfl) ?_ _
            refine NoPanic.normal ?_
            go_wp2_with fail
            go_ret
            exact ⟨rfl, View.more BB.out st2⟩
        | true =>
          cases pz with
          | false =>
            have QX := hid (PX.out.1 rfl)
            have QY := hid (PY.out.1 rfl)
            have QZ := hid (show ¬ DomR F x z from fun h => absurd (PZ.out.2 h) (by simp))
            clear PX PY PZ
            exact absurd (dom_trans QX.out QY.out GR.out) QZ.out
          | true =>
            have QX := hid (PX.out.1 rfl)
            have QY := hid (PY.out.1 rfl)
            have QZ := hid (PZ.out.1 rfl)
            clear PX PY PZ
            obtain ⟨c0, c1, c2, c3, c4⟩ := FB.out.on CF.out
            have e1 := D0 _ CF.out
            go_wp2_with fail
            refine (dom_any F y x _ (IB.out.on CF.out) HL.out HJ.out).mono ?_
            rintro e wg ⟨pr, rfl, hpr, hbg⟩
            obtain rfl : pr = false := by
              cases pr with
              | false => rfl
              | true => exact absurd (dom_anti QX.out ((ans_dom hy hx hpr).1 rfl) GR.out) HXY.out
            have CG := hid (View.more CF.out hbg)
            clear hpr hbg c0 c1 c2 c3 c4 e1
            obtain ⟨c0, c1, c2, c3, c4⟩ := FB.out.on CG.out
            have e1 := D0 _ CG.out
            go_wp2_with fail
            have st0 : Below wb.heap.size wb wg.drew := Below.drew CG.out
            clear c0 c1 c2 c3 c4 e1
            refine wp_region_noPanic ?_
            refine wp_region_held_drew (S := fun wx => Below wb.heap.size wb wx) (by kernel_rfl) st0 (fun hS => ?_)
            refine takeAt (i := 0) (d := some 136) (v := ?v10_0) rfl (by rfl) (by kernel_rfl) (by kernel_rfl) (by kernel_rfl) (fun _ _ _ h => h) (Or.inl ⟨by rfl, ?y10_0⟩) hS ?_
            case y10_0 => intro wx hSw; (go_simp) <;> with_reducible rfl
            simp only [Act.put, List.setIfInBounds_toArray, List.set_cons_zero, List.set_cons_succ]
            refine takeAt (i := 1) (d := some 137) (v := ?v10_1) rfl (by rfl) (by kernel_rfl) (by kernel_rfl) (by kernel_rfl) (fun _ _ _ h => h) (Or.inl ⟨by rfl, ?y10_1⟩) hS ?_
            case y10_1 => intro wx hSw; (go_simp) <;> with_reducible rfl
            simp only [Act.put, List.setIfInBounds_toArray, List.set_cons_zero, List.set_cons_succ]
            refine takeAt (i := 2) (d := some 138) (v := ?v10_2) rfl (by rfl) (by kernel_rfl) (by kernel_rfl) (by kernel_rfl) (fun _ _ _ h => h) (Or.inl ⟨by rfl, ?y10_2⟩) hS ?_
            case y10_2 => intro wx hSw; (go_simp) <;> with_reducible rfl
            simp only [Act.put, List.setIfInBounds_toArray, List.set_cons_zero, List.set_cons_succ]
            refine takeAt (i := 3) (d := some 139) (v := ?v10_3) rfl (by rfl) (by kernel_rfl) (by kernel_rfl) (by kernel_rfl) (fun _ _ _ h => h) (Or.inl ⟨by rfl, ?y10_3⟩) hS ?_
            case y10_3 => intro wx hSw; (go_simp) <;> with_reducible rfl
            simp only [Act.put, List.setIfInBounds_toArray, List.set_cons_zero, List.set_cons_succ]
            refine takeAt (i := 4) (d := some 140) (v := ?v10_4) rfl (by rfl) (by kernel_rfl) (by kernel_rfl) (by kernel_rfl) (fun _ _ _ h => h) (Or.inl ⟨by rfl, ?y10_4⟩) hS ?_
            case y10_4 => intro wx hSw; (go_simp) <;> with_reducible rfl
            simp only [Act.put, List.setIfInBounds_toArray, List.set_cons_zero, List.set_cons_succ]
            refine takeAt (i := 5) (d := some 141) (v := ?v10_5) rfl (by rfl) (by kernel_rfl) (by kernel_rfl) (by kernel_rfl) (fun _ _ _ h => h) (Or.inl ⟨by rfl, ?y10_5⟩) hS ?_
            case y10_5 => intro wx hSw; (go_simp) <;> with_reducible rfl
            simp only [Act.put, List.setIfInBounds_toArray, List.set_cons_zero, List.set_cons_succ]
            refine takeAt (i := 6) (d := some 142) (v := ?v10_6) rfl (by rfl) (by kernel_rfl) (by kernel_rfl) (by kernel_rfl) (fun _ _ _ h => h) (Or.inl ⟨by rfl, ?y10_6⟩) hS ?_
            case y10_6 => intro wx hSw; (go_simp) <;> with_reducible rfl
            simp only [Act.put, List.setIfInBounds_toArray, List.set_cons_zero, List.set_cons_succ]
            refine takeAt (i := 7) (d := some 143) (v := ?v10_7) rfl (by rfl) (by kernel_rfl) (by kernel_rfl) (by kernel_rfl) (fun _ _ _ h => h) (Or.inl ⟨by rfl, ?y10_7⟩) hS ?_
            case y10_7 => intro wx hSw; (go_simp) <;> with_reducible rfl
            simp only [Act.put, List.setIfInBounds_toArray, List.set_cons_zero, List.set_cons_succ]
            refine takeAt (i := 8) (d := some 144) (v := ?v10_8) rfl (by rfl) (by kernel_rfl) (by kernel_rfl) (by kernel_rfl) (fun _ _ _ h => h) (Or.inl ⟨by rfl, ?y10_8⟩) hS ?_
            case y10_8 => intro wx hSw; (go_simp) <;> with_reducible rfl
            simp only [Act.put, List.setIfInBounds_toArray, List.set_cons_zero, List.set_cons_succ]
            refine takeAt (i := 9) (d := some 145) (v := ?v10_9) rfl (by rfl) (by kernel_rfl) (by kernel_rfl) (by kernel_rfl) (fun _ _ _ h => h) (Or.inl ⟨by rfl, ?y10_9⟩) hS ?_
            case y10_9 => intro wx hSw; (go_simp) <;> with_reducible rfl
            simp only [Act.put, List.setIfInBounds_toArray, List.set_cons_zero, List.set_cons_succ]
            refine takeAt (i := 10) (d := some 146) (v := ?v10_10) rfl (by rfl) (by kernel_rfl) (by kernel_rfl) (by kernel_rfl) (fun _ _ _ h => h) (Or.inl ⟨by rfl, ?y10_10⟩) hS ?_
            case y10_10 => intro wx hSw; (go_simp) <;> with_reducible rfl
            simp only [Act.put, List.setIfInBounds_toArray, List.set_cons_zero, List.set_cons_succ]
            refine takeAt (i := 11) (d := some 147) (v := ?v10_11) rfl (by rfl) (by kernel_rfl) (by kernel_rfl) (by kernel_rfl) (fun _ _ _ h => h) (Or.inl ⟨by rfl, ?y10_11⟩) hS ?_
            case y10_11 => intro wx hSw; (go_simp) <;> with_reducible rfl
            simp only [Act.put, List.setIfInBounds_toArray, List.set_cons_zero, List.set_cons_succ]
            refine takeAt (i := 12) (d := some 148) (v := ?v10_12) rfl (by rfl) (by kernel_rfl) (by kernel_rfl) (by kernel_rfl) (fun _ _ _ h => h) (Or.inl ⟨by rfl, ?y10_12⟩) hS ?_
            case y10_12 => intro wx hSw; (go_simp) <;> with_reducible rfl
            simp only [Act.put, List.setIfInBounds_toArray, List.set_cons_zero, List.set_cons_succ]
            refine takeAt (i := 13) (d := some 149) (v := ?v10_13) rfl (by rfl) (by kernel_rfl) (by kernel_rfl) (by kernel_rfl) (fun _ _ _ h => h) (Or.inl ⟨by rfl, ?y10_13⟩) hS ?_
            case y10_13 => intro wx hSw; (go_simp) <;> with_reducible rfl
            simp only [Act.put, List.setIfInBounds_toArray, List.set_cons_zero, List.set_cons_succ]
            refine takeAt (i := 14) (d := some 150) (v := ?v10_14) rfl (by rfl) (by kernel_rfl) (by kernel_rfl) (by kernel_rfl) (fun _ _ _ h => h) (Or.inl ⟨by rfl, ?y10_14⟩) hS ?_
            case y10_14 => intro wx hSw; (go_simp) <;> with_reducible rfl
            simp only [Act.put, List.setIfInBounds_toArray, List.set_cons_zero, List.set_cons_succ]
            refine takeAt (i := 15) (d := some 151) (v := ?v10_15) rfl (by rfl) (by kernel_rfl) (by kernel_rfl) (by kernel_rfl) (fun _ _ _ h => h) (Or.inl ⟨by rfl, ?y10_15⟩) hS ?_
            case y10_15 => intro wx hSw; (go_simp) <;> with_reducible rfl
            simp only [Act.put, List.setIfInBounds_toArray, List.set_cons_zero, List.set_cons_succ]
            refine takeAt (i := 16) (d := some 152) (v := ?v10_16) rfl (by rfl) (by kernel_rfl) (by kernel_rfl) (by kernel_rfl) (fun _ _ _ h => h) (Or.inl ⟨by rfl, ?y10_16⟩) hS ?_
            case y10_16 => intro wx hSw; (go_simp) <;> with_reducible rfl
            simp only [Act.put, List.setIfInBounds_toArray, List.set_cons_zero, List.set_cons_succ]
            refine takeAt (i := 17) (d := some 153) (v := ?v10_17) rfl (by rfl) (by kernel_rfl) (by kernel_rfl) (by kernel_rfl) (fun _ _ _ h => h) (Or.inl ⟨by rfl, ?y10_17⟩) hS ?_
            case y10_17 => intro wx hSw; (go_simp) <;> with_reducible rfl
            simp only [Act.put, List.setIfInBounds_toArray, List.set_cons_zero, List.set_cons_succ]
            refine takeAt (i := 18) (d := some 154) (v := ?v10_18) rfl (by rfl) (by kernel_rfl) (by kernel_rfl) (by kernel_rfl) (fun _ _ _ h => h) (Or.inl ⟨by rfl, ?y10_18⟩) hS ?_
            case y10_18 => intro wx hSw; (go_simp) <;> with_reducible rfl
            simp only [Act.put, List.setIfInBounds_toArray, List.set_cons_zero, List.set_cons_succ]
            refine takeAt (i := 19) (d := some 155) (v := ?v10_19) rfl (by rfl) (by kernel_rfl) (by kernel_rfl) (by kernel_rfl) (fun _ _ _ h => h) (Or.inl ⟨by rfl, ?y10_19⟩) hS ?_
            case y10_19 => intro wx hSw; (go_simp) <;> with_reducible rfl
            simp only [Act.put, List.setIfInBounds_toArray, List.set_cons_zero, List.set_cons_succ]
            refine takeAt (i := 20) (d := some 156) (v := ?v10_20) rfl (by rfl) (by kernel_rfl) (by kernel_rfl) (by kernel_rfl) (fun _ _ _ h => h) (Or.inl ⟨by rfl, ?y10_20⟩) hS ?_
            case y10_20 => intro wx hSw; (go_simp) <;> with_reducible rfl
            simp only [Act.put, List.setIfInBounds_toArray, List.set_cons_zero, List.set_cons_succ]
            refine wpAnyH_ready (rs := [21]) (by kernel_rfl) (by simp) ?_
            refine AllReadyH.cons rfl (fun K hK => ?_) AllReadyH.nil
            go_simp
            refine (dom_any F a' y _ (IB.out.on st0) HL.out HJ.out).mono ?_
            rintro e wh ⟨pr, rfl, hpr, hbh⟩
            obtain rfl : pr = true := (ans_dom ha' hy hpr).2 NB.out.dom
            have st1 : Below wb.heap.size wb wh := View.more st0 hbh
            clear hpr hbh
            go_wp2_with fail
            refine hK.out _ _ st1 (fun _ => ?_)
            clear hK K
            replace hS := st1
            try simp only [Act.put, List.setIfInBounds_toArray, List.set_cons_zero, List.set_cons_succ]
            refine takeAt (i := 22) (d := some 158) (v := ?v10_22) rfl (by rfl) (by kernel_rfl) (by kernel_rfl) (by kernel_rfl) (fun _ _ _ h => h) (Or.inl ⟨by rfl, ?y10_22⟩) hS ?_
            case y10_22 => intro wx hSw; (go_simp) <;> with_reducible rfl
            simp only [Act.put, List.setIfInBounds_toArray, List.set_cons_zero, List.set_cons_succ]
            refine takeAt (i := 23) (d := some 159) (v := ?v10_23) rfl (by rfl) (by kernel_rfl) (by kernel_rfl) (by kernel_rfl) (fun _ _ _ h => h) (Or.inl ⟨by rfl, ?y10_23⟩) hS ?_
            case y10_23 => intro wx hSw; (go_simp) <;> with_reducible rfl
            simp only [Act.put, List.setIfInBounds_toArray, List.set_cons_zero, List.set_cons_succ]
            refine takeAt (i := 24) (d := some 160) (v := ?v10_24) rfl (by rfl) (by kernel_rfl) (by kernel_rfl) (by kernel_rfl) (fun _ _ _ h => h) (Or.inl ⟨by rfl, ?y10_24⟩) hS ?_
            case y10_24 => intro wx hSw; (go_simp) <;> with_reducible rfl
            simp only [Act.put, List.setIfInBounds_toArray, List.set_cons_zero, List.set_cons_succ]
            refine takeAt (i := 25) (d := some 161) (v := ?v10_25) rfl (by rfl) (by kernel_rfl) (by kernel_rfl) (by kernel_rfl) (fun _ _ _ h => h) (Or.inl ⟨by rfl, ?y10_25⟩) hS ?_
            case y10_25 => intro wx hSw; (go_simp) <;> with_reducible rfl
            simp only [Act.put, List.setIfInBounds_toArray, List.set_cons_zero, List.set_cons_succ]
            refine takeAt (i := 26) (d := some 162) (v := ?v10_26) rfl (by rfl) (by kernel_rfl) (by kernel_rfl) (by kernel_rfl) (fun _ _ _ h => h) (Or.inl ⟨by rfl, ?y10_26⟩) hS ?_
            case y10_26 => intro wx hSw; (go_simp) <;> with_reducible rfl
            simp only [Act.put, List.setIfInBounds_toArray, List.set_cons_zero, List.set_cons_succ]
            refine takeAt (i := 27) (d := some 163) (v := ?v10_27) rfl (by rfl) (by kernel_rfl) (by kernel_rfl) (by kernel_rfl) (fun _ _ _ h => h) (Or.inl ⟨by rfl, ?y10_27⟩) hS ?_
            case y10_27 => intro wx hSw; (go_simp) <;> with_reducible rfl
            simp only [Act.put, List.setIfInBounds_toArray, List.set_cons_zero, List.set_cons_succ]
            refine takeAt (i := 28) (d := some 164) (v := ?v10_28) rfl (by rfl) (by kernel_rfl) (by kernel_rfl) (by kernel_rfl) (fun _ _ _ h => h) (Or.inl ⟨by rfl, ?y10_28⟩) hS ?_
            case y10_28 => intro wx hSw; (go_simp) <;> with_reducible rfl
            simp only [Act.put, List.setIfInBounds_toArray, List.set_cons_zero, List.set_cons_succ]
            refine takeAt (i := 29) (d := some 165) (v := ?v10_29) rfl (by rfl) (by kernel_rfl) (by kernel_rfl) (by kernel_rfl) (fun _ _ _ h => h) (Or.inl ⟨by rfl, ?y10_29⟩) hS ?_
            case y10_29 => intro wx hSw; (go_simp) <;> with_reducible rfl
            simp only [Act.put, List.setIfInBounds_toArray, List.set_cons_zero, List.set_cons_succ]
            refine takeAt (i := 30) (d := some 166) (v := ?v10_30) rfl (by rfl) (by kernel_rfl) (by kernel_rfl) (by kernel_rfl) (fun _ _ _ h => h) (Or.inl ⟨by rfl, ?y10_30⟩) hS ?_
            case y10_30 => intro wx hSw; (go_simp) <;> with_reducible rfl
            simp only [Act.put, List.setIfInBounds_toArray, List.set_cons_zero, List.set_cons_succ]
            refine takeAt (i := 31) (d := some 167) (v := ?v10_31) rfl (by rfl) (by kernel_rfl) (by kernel_rfl) (by kernel_rfl) (fun _ _ _ h => h) (Or.inl ⟨by rfl, ?y10_31⟩) hS ?_
            case y10_31 => intro wx hSw; (go_simp) <;> with_reducible rfl
            simp only [Act.put, List.setIfInBounds_toArray, List.set_cons_zero, List.set_cons_succ]
            refine takeAt (i := 32) (d := some 168) (v := ?v10_32) rfl (by rfl) (by kernel_rfl) (by kernel_rfl) (by kernel_rfl) (fun _ _ _ h => h) (Or.inl ⟨by rfl, ?y10_32⟩) hS ?_
            case y10_32 => intro wx hSw; (go_simp) <;> with_reducible rfl
            simp only [Act.put, List.setIfInBounds_toArray, List.set_cons_zero, List.set_cons_succ]
            refine takeAt (i := 33) (d := some 169) (v := ?v10_33) rfl (by rfl) (by kernel_rfl) (by kernel_rfl) (by kernel_rfl) (fun _ _ _ h => h) (Or.inl ⟨by rfl, ?y10_33⟩) hS ?_
            case y10_33 => intro wx hSw; (go_simp) <;> with_reducible rfl
            simp only [Act.put, List.setIfInBounds_toArray, List.set_cons_zero, List.set_cons_succ]
            refine takeAt (i := 34) (d := some 170) (v := ?v10_34) rfl (by rfl) (by kernel_rfl) (by kernel_rfl) (by kernel_rfl) (fun _ _ _ h => h) (Or.inl ⟨by rfl, ?y10_34⟩) hS ?_
            case y10_34 => intro wx hSw; (go_simp) <;> with_reducible rfl
            simp only [Act.put, List.setIfInBounds_toArray, List.set_cons_zero, List.set_cons_succ]
            refine takeAt (i := 35) (d := some 171) (v := ?v10_35) rfl (by rfl) (by kernel_rfl) (by kernel_rfl) (by kernel_rfl) (fun _ _ _ h => h) (Or.inl ⟨by rfl, ?y10_35⟩) hS ?_
            case y10_35 => intro wx hSw; (go_simp) <;> with_reducible rfl
            simp only [Act.put, List.setIfInBounds_toArray, List.set_cons_zero, List.set_cons_succ]
            refine takeAt (i := 36) (d := some 172) (v := ?v10_36) rfl (by rfl) (by kernel_rfl) (by kernel_rfl) (by kernel_rfl) (fun _ _ _ h => h) (Or.inl ⟨by rfl, ?y10_36⟩) hS ?_
            case y10_36 => intro wx hSw; (go_simp) <;> with_reducible rfl
            simp only [Act.put, List.setIfInBounds_toArray, List.set_cons_zero, List.set_cons_succ]
            refine takeAt (i := 37) (d := some 173) (v := ?v10_37) rfl (by rfl) (by kernel_rfl) (by kernel_rfl) (by kernel_rfl) (fun _ _ _ h => h) (Or.inl ⟨by rfl, ?y10_37⟩) hS ?_
            case y10_37 => intro wx hSw; (go_simp) <;> with_reducible rfl
            simp only [Act.put, List.setIfInBounds_toArray, List.set_cons_zero, List.set_cons_succ]
            refine wpAnyH_ready (rs := [38]) (by kernel_rfl) (by simp) ?_
            refine AllReadyH.cons rfl (fun K hK => ?_) AllReadyH.nil
            go_simp
            refine (dom_any F x a' _ (IB.out.on st1) HL.out HJ.out).mono ?_
            rintro e wi ⟨pr, rfl, hpr, hbi⟩
            obtain rfl : pr = true := (ans_dom hx ha' hpr).2 (NB.out.low x HXY.out QX.out)
            have st2 : Below wb.heap.size wb wi := View.more st1 hbi
            clear hpr hbi
            go_wp2_with fail
            refine hK.out _ _ st2 (fun _ => ?_)
            clear hK K
            replace hS := st2
            try simp only [Act.put, List.setIfInBounds_toArray, List.set_cons_zero, List.set_cons_succ]
            refine takeAt (i := 39) (d := some 175) (v := ?v10_39) rfl (by rfl) (by kernel_rfl) (by kernel_rfl) (by kernel_rfl) (fun _ _ _ h => h) (Or.inl ⟨by rfl, ?y10_39⟩) hS ?_
            case y10_39 => intro wx hSw; (go_simp) <;> with_reducible rfl
            simp only [Act.put, List.setIfInBounds_toArray, List.set_cons_zero, List.set_cons_succ]
            refine takeAt (i := 40) (d := some 176) (v := ?v10_40) rfl (by rfl) (by kernel_rfl) (by kernel_rfl) (by kernel_rfl) (fun _ _ _ h => h) (Or.inl ⟨by rfl, ?y10_40⟩) hS ?_
            case y10_40 => intro wx hSw; (go_simp) <;> with_reducible rfl
            simp only [Act.put, List.setIfInBounds_toArray, List.set_cons_zero, List.set_cons_succ]
            refine takeAt (i := 41) (d := some 8) (v := ?v10_41) rfl (by rfl) (by kernel_rfl) (by kernel_rfl) (by kernel_rfl) (fun _ _ _ h => h) (Or.inl ⟨by rfl, ?y10_41⟩) hS ?_
            case y10_41 => intro wx hSw; (go_simp) <;> with_reducible rfl
            simp only [Act.put, List.setIfInBounds_toArray, List.set_cons_zero, List.set_cons_succ]
            refine wpAnyH_done (by kernel_rfl) ?_ _
            refine NoPanic.normal ?_
            go_wp2_with fail
            go_ret
            exact ⟨rfl, View.more BB.out st2⟩

end Go.Proofs.Ytahjippocejphaa.Dm
