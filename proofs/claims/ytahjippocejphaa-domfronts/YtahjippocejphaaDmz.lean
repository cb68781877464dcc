/-
  plnlaw5.DomFronts answers true.
-/
import Derived.Test.YtahjippocejphaaDmw
import Derived.Test.YtahjippocejphaaDmv
import Derived.Test.YtahjippocejphaaLow
import Derived.Test.YtahjippocejphaaDmj
import Derived.Deep.RegionHeld3
import Derived.BigQuiet
import Derived.Deep.QuietTactic
namespace Go.Proofs.Ytahjippocejphaa.Dm
open Go.RowKit View Rd Copy Num Ty Srt Go.Proofs.Ytahjippocejphaa.Flo Go.Proofs.Ytahjippocejphaa.Lt

set_option linter.unusedVariables false

set_option maxRecDepth 10000 in
set_option maxHeartbeats 4000000 in
theorem domFronts_any (F : FV) (a b : Int) (w : World) (hF : In w F) (hj : Jng F) :
    Calls Try.prog 8 #[F.val, .int .i64 a, .int .i64 b] w fun e w' => e = .returned (.bool true) ∧ Below w.heap.size w w' := by
  have HF := hid hF
  have HJ := hid hj
  clear hF hj
  go_enter Try.func8, Try.ntmps8
  go_wp2_with fail
  refine (first_any _).mono ?_
  rintro e w1 ⟨rfl, hb1⟩
  have f1 : FuncAt w1 w.heap.size F := (FuncAt.alloc w F).on hb1
  have hb1' := View.more (new (same w) _) hb1
  have B1 := hid hb1'
  have F1 := hid f1
  obtain ⟨c0, c1, c2, c3, c4⟩ := f1
  clear hb1 hb1'
  go_wp2_with fail
  refine (light_any F _ (HF.out.on B1.out)).mono ?_
  rintro e w2 ⟨r, rfl, hr, hb2⟩
  have B2 := hid (View.more B1.out hb2)
  have F2 := hid (F1.out.on hb2)
  clear c0 c1 c2 c3 c4 hb2 B1 F1
  cases r with
  | false =>
    obtain ⟨c0, c1, c2, c3, c4⟩ := F2.out
    go_wp2_with fail
    refine (first_any _).mono ?_
    rintro e w3 ⟨rfl, hb3⟩
    go_wp2_with fail
    go_ret
    exact ⟨rfl, View.more B2.out hb3⟩
  | true =>
    have hl := hr rfl
    have HL := hid hl
    have gb := hl.blk
    clear hl hr
    obtain ⟨c0, c1, c2, c3, c4⟩ := F2.out
    by_cases h0 : F.blk.n = 0
    · have t0 : ((F.blk.n : Int) == 0) = true := by simp [h0]
      have H0 := hid h0
      clear h0
      go_wp2_with fail
      refine (first_any _).mono ?_
      rintro e w3 ⟨rfl, hb3⟩
      go_wp2_with fail
      go_ret
      exact ⟨rfl, View.more B2.out hb3⟩
    have t0 : ((F.blk.n : Int) == 0) = false := by simp [h0]
    obtain ⟨x, hx, a0, ha0, hx0⟩ := Low.red16 a (show 0 < F.blk.n by omega)
    obtain ⟨y, hy, b0, hb0, hy0⟩ := Low.red16 b (show 0 < F.blk.n by omega)
    have hn0 : ((F.blk.n : Int) = 0) = False := by simp; omega
    go_wp2_with fail
    go_region
    obtain ⟨W, hW⟩ : ∃ W, w2.drew = W := ⟨_, rfl⟩
    have BW := hid (show Below w.heap.size w W by rw [← hW]; exact Below.drew B2.out)
    have FW := hid (show FuncAt W w.heap.size F by rw [← hW]; exact F2.out.on (Below.drew (same _)))
    rw [hW]
    clear hW c0 c1 c2 c3 c4 F2 B2 ha0 hx0 hb0 hy0 t0 hn0
    have n0 : 0 < F.blk.n := by omega
    clear h0
    have IW := hid (HF.out.on BW.out)
    obtain ⟨c0, c1, c2, c3, c4⟩ := FW.out
    go_wp2_with fail
    refine (front_any F _ IW.out HL.out HJ.out n0).mono ?_
    rintro e w3 ⟨M, R, rfl, hpv, hM, hb3⟩
    have PV := hid hpv
    have F3 := hid (FW.out.on hb3)
    have I3 := hid (IW.out.on hb3)
    have B3 := hid (View.more BW.out hb3)
    have tn : ((F.blk.n : Int) != (F.blk.n : Int)) = false := by simp
    have hlx := frL_le F F.blk.n x
    obtain ⟨si, sn⟩ := Pv.ints hpv hx (by omega)
    have SI := hid si
    have SN := hid sn
    have i1 := row_at (M := M) hx
    have D1 : ∀ wx, Below w3.heap.size w3 wx → wx.cell? ⟨M, x, none⟩ = some (.slice (R x).a (R x).n (R x).c) := fun wx h => cell_on h (PV.out.row.cell hx)
    have hr16 : (R x).n ≤ 16 := by omega
    clear hpv hM hb3 c0 c1 c2 c3 c4 FW IW BW si sn hlx
    go_wp2_with fail
    go_loopw [9] (fun iv wr => ∃ k : Nat, 1 ≤ k ∧ (k ≤ (R x).n ∨ k = 1) ∧ iv = .int .i64 k ∧ Below w3.heap.size w3 wr) (fun iv _ => (R x).n - (intOf iv).toNat)
    case atStart => exact ⟨1, Nat.le_refl _, .inr rfl, rfl, same _⟩
    case round =>
      obtain ⟨k, hk1, hk, rfl, hbr⟩ := hrel
      have HB := hid hbr
      have e1 := D1 _ hbr
      clear hbr
      by_cases lk : k < (R x).n
      · have hlr := frL_rise F F.blk.n x k (by omega) (by have := SN.out; omega)
        obtain ⟨ja, jo, j1, p1⟩ := Ints.at (SI.out.on HB.out) (show k - 1 < (R x).n by omega)
        obtain ⟨ka, ko, j2, p2⟩ := Ints.at (SI.out.on HB.out) lk
        have hkc : ((k - 1 : Nat) : Int) = (k : Int) - 1 := by omega
        rw [hkc] at j1
        obtain ⟨u, hu⟩ : ∃ u, (frL F F.blk.n x).getD (k - 1) 0 = u := ⟨_, rfl⟩
        obtain ⟨v, hv⟩ : ∃ v, (frL F F.blk.n x).getD k 0 = v := ⟨_, rfl⟩
        rw [hu] at p1 hlr
        rw [hv] at p2 hlr
        have tq : decide ((v : Int) ≤ (u : Int)) = false := by simp; omega
        clear hu hv hkc
        go_wp2_with fail
        go_quiet (fail)
        go_wp2_with fail
        go_round
        case rel => exact ⟨k + 1, by omega, by omega, by go_num, View.more HB.out (below_drewN' _ _)⟩
        case measure => simp [intOf]; omega
      have lk' : decide ((k : Int) < (R x).n) = false := by simp; omega
      obtain ⟨W, hW⟩ : ∃ W, wr = W := ⟨_, rfl⟩
      rw [hW] at HB e1
      rw [hW]
      clear hW hk1 hk
      have F4 := hid (F3.out.on HB.out)
      have I4 := hid (I3.out.on HB.out)
      have B4 := hid (View.more B3.out HB.out)
      have S4 := hid (SI.out.on HB.out)
      have E4 := hid e1
      have st0 : Below W.heap.size W W.drew := Below.drew (same _)
      have A0 : ∀ wx, Below W.heap.size W wx → wx.cell? ⟨w.heap.size, 0, none⟩ = some (.string F.name) := fun wx h => cell_on h F4.out.c0
      have A1 : ∀ wx, Below W.heap.size W wx → wx.cell? ⟨w.heap.size, 1, none⟩ = some (.bool F.out) := fun wx h => cell_on h F4.out.c1
      have A2 : ∀ wx, Below W.heap.size W wx → wx.cell? ⟨w.heap.size, 2, none⟩ = some (.slice F.par.a F.par.n F.par.c) := fun wx h => cell_on h F4.out.c2
      have A3 : ∀ wx, Below W.heap.size W wx → wx.cell? ⟨w.heap.size, 3, none⟩ = some (.int .i64 F.res) := fun wx h => cell_on h F4.out.c3
      have A4 : ∀ wx, Below W.heap.size W wx → wx.cell? ⟨w.heap.size, 4, none⟩ = some (.slice F.blk.a F.blk.n F.blk.c) := fun wx h => cell_on h F4.out.c4
      go_wp2_with fail
      go_region_held3 (fun wx => Below W.heap.size W wx) (first | exact st0 | exact st1 | exact st2)
        (first
          | (go_at_call 37; refine (prev_ref F _ (I4.out.on st0) HL.out).mono ?_; rintro e wa ⟨MP, RP, rfl, hpp, hMP, hba⟩; have st1 : Below W.heap.size W wa := View.more st0 hba; have PP := hid hpp; clear hpp hMP hba)
          | (go_at_call 38; refine (reach_ref F _ (I4.out.on st1) HL.out).mono ?_; rintro e wb ⟨rf, ⟨MR, rfl, hrr, hMR, hbb⟩, hrf⟩; have st2 : Below W.heap.size W wb := View.more st1 hbb; have RR := hid hrr; have RF := hid hrf; have PQ := hid (PP.out.on hbb); clear hrr hrf hMR hbb))
      have F5 := hid (F4.out.on st2)
      have I5 := hid (I4.out.on st2)
      have B5 := hid (View.more B4.out st2)
      have S5 := hid (S4.out.on st2)
      have D1 : ∀ wx, Below wb.heap.size wb wx → wx.cell? ⟨M, x, none⟩ = some (.slice (R x).a (R x).n (R x).c) := fun wx h => cell_on h (cell_on st2 E4.out)
      have D2 : ∀ wx, Below wb.heap.size wb wx → wx.cell? ⟨MP, y, none⟩ = some (.slice (RP y).a (RP y).n (RP y).c) := fun wx h => cell_on h (PQ.out.row.cell hy)
      have WR := hid (show ∀ i, i < F.blk.n → (rf i = true ↔ Go.Proofs.Ytahjippocejphaa.Flo.Way (su F) 0 i) from fun i hi => by
        rw [RF.out i hi, suL_neg (show (-1 : Int) < 0 by decide)]
        simp [isB, n0])
      have hlp := pvL_le F F.blk.n y
      obtain ⟨qi, qn⟩ := Pv.ints PQ.out hy (by omega)
      have QI := hid qi
      have QN := hid qn
      have hq16 : (RP y).n ≤ 16 := by omega
      have i2 := row_at (M := MP) hy
      clear A0 A1 A2 A3 A4 st0 st1 st2 F4 I4 B4 S4 E4 F3 I3 B3 PV SI PP RF HB e1 qi qn hlp
      go_wp2_with fail
      go_loopw [12, 13] (fun sv iv wr => ∃ (k : Nat) (q : Bool), k ≤ (RP y).n ∧ iv = .int .i64 k ∧ sv = .bool q ∧ (q = true ↔ ∃ i, i < k ∧ DomR F x ((pvL F F.blk.n y).getD i 0)) ∧ Below wb.heap.size wb wr) (fun _ iv _ => (RP y).n - (intOf iv).toNat)
      case atStart => exact ⟨0, false, Nat.zero_le _, rfl, rfl, by simp, same _⟩
      case round =>
        obtain ⟨k, q, hk, rfl, rfl, hq, hbr⟩ := hrel
        have HB := hid hbr
        have HQ := hid hq
        have e2 := D2 _ hbr
        clear hbr hq
        by_cases lk : k < (RP y).n
        · have hkl : k < (pvL F F.blk.n y).length := by have := QN.out; omega
          have hpl := pvL_lt _ (getD_mem hkl)
          obtain ⟨ja, jo, j1, p1⟩ := Ints.at (QI.out.on HB.out) lk
          obtain ⟨p, hp⟩ : ∃ p, (pvL F F.blk.n y).getD k 0 = p := ⟨_, rfl⟩
          rw [hp] at p1 hpl
          have HP := hid hp
          clear hp hkl
          cases q with
          | true =>
            have HE := hid (HQ.out.1 rfl)
            clear HQ
            go_wp2_with fail
            go_quiet (fail)
            go_wp2_with fail
            go_round
            case rel => exact ⟨k + 1, true, by omega, by go_num, rfl, by obtain ⟨i, h1, h2⟩ := HE.out; simp; exact ⟨i, by omega, h2⟩, View.more HB.out (below_drewN' _ _)⟩
            case measure => simp [intOf]; omega
          | false =>
            have HE := hid (show ¬ ∃ i, i < k ∧ DomR F x ((pvL F F.blk.n y).getD i 0) from fun h => absurd (HQ.out.2 h) (by simp))
            clear HQ
            obtain ⟨W, hW⟩ : ∃ W, wr = W := ⟨_, rfl⟩
            rw [hW] at HB e2 p1
            rw [hW]
            clear hW
            have F6 := hid (F5.out.on HB.out)
            have st0 : Below W.heap.size W W.drew := Below.drew (same _)
            have A0 : ∀ wx, Below W.heap.size W wx → wx.cell? ⟨w.heap.size, 0, none⟩ = some (.string F.name) := fun wx h => cell_on h F6.out.c0
            have A1 : ∀ wx, Below W.heap.size W wx → wx.cell? ⟨w.heap.size, 1, none⟩ = some (.bool F.out) := fun wx h => cell_on h F6.out.c1
            have A2 : ∀ wx, Below W.heap.size W wx → wx.cell? ⟨w.heap.size, 2, none⟩ = some (.slice F.par.a F.par.n F.par.c) := fun wx h => cell_on h F6.out.c2
            have A3 : ∀ wx, Below W.heap.size W wx → wx.cell? ⟨w.heap.size, 3, none⟩ = some (.int .i64 F.res) := fun wx h => cell_on h F6.out.c3
            have A4 : ∀ wx, Below W.heap.size W wx → wx.cell? ⟨w.heap.size, 4, none⟩ = some (.slice F.blk.a F.blk.n F.blk.c) := fun wx h => cell_on h F6.out.c4
            have D3 : ∀ wx, Below W.heap.size W wx → wx.cell? ⟨MP, y, none⟩ = some (.slice (RP y).a (RP y).n (RP y).c) := fun wx h => cell_on h e2
            have D4 : ∀ wx, Below W.heap.size W wx → wx.cell? ⟨ja, jo, none⟩ = some (.int .i64 p) := fun wx h => cell_on h p1
            go_wp2_with fail
            go_region_held3 (fun wx => Below W.heap.size W wx) (first | exact st0 | exact st1)
              (first
                | (go_at_call 25; refine (dom_any F x p _ (I5.out.on (View.more HB.out st0)) HL.out HJ.out).mono ?_; rintro e wd ⟨pd, rfl, hpd, hbd⟩; have PD := hid (ans_dom hx hpl hpd); have st1 : Below W.heap.size W wd := View.more st0 hbd; clear hpd hbd))
            have ST := hid st1
            clear A0 A1 A2 A3 A4 D3 D4 st0 st1
            go_wp2_with fail
            go_round
            case rel => exact ⟨k + 1, pd, by omega, by go_num, rfl, by
              rw [PD.out, ← HP.out]
              constructor
              · exact fun h => ⟨k, by omega, h⟩
              · rintro ⟨i, h1, h2⟩
                rcases Nat.lt_or_eq_of_le (Nat.le_of_lt_succ h1) with h | h
                · exact absurd ⟨i, h, h2⟩ HE.out
                · subst h; exact h2, View.more HB.out ST.out⟩
            case measure => simp [intOf]; omega
        obtain rfl : k = (RP y).n := by omega
        have HS := hid (show q = true ↔ ∃ i, i < (pvL F F.blk.n y).length ∧ DomR F x ((pvL F F.blk.n y).getD i 0) from by rw [HQ.out, QN.out])
        clear HQ hk lk
        obtain ⟨W, hW⟩ : ∃ W, wr = W := ⟨_, rfl⟩
        rw [hW] at HB e2
        rw [hW]
        clear hW
        have F6 := hid (F5.out.on HB.out)
        have I6 := hid (I5.out.on HB.out)
        have S6 := hid (S5.out.on HB.out)
        have B6 := hid (View.more B5.out HB.out)
        have A0 : ∀ wx, Below W.heap.size W wx → wx.cell? ⟨w.heap.size, 0, none⟩ = some (.string F.name) := fun wx h => cell_on h F6.out.c0
        have A1 : ∀ wx, Below W.heap.size W wx → wx.cell? ⟨w.heap.size, 1, none⟩ = some (.bool F.out) := fun wx h => cell_on h F6.out.c1
        have A2 : ∀ wx, Below W.heap.size W wx → wx.cell? ⟨w.heap.size, 2, none⟩ = some (.slice F.par.a F.par.n F.par.c) := fun wx h => cell_on h F6.out.c2
        have A3 : ∀ wx, Below W.heap.size W wx → wx.cell? ⟨w.heap.size, 3, none⟩ = some (.int .i64 F.res) := fun wx h => cell_on h F6.out.c3
        have A4 : ∀ wx, Below W.heap.size W wx → wx.cell? ⟨w.heap.size, 4, none⟩ = some (.slice F.blk.a F.blk.n F.blk.c) := fun wx h => cell_on h F6.out.c4
        have D3 : ∀ wx, Below W.heap.size W wx → wx.cell? ⟨M, x, none⟩ = some (.slice (R x).a (R x).n (R x).c) := fun wx h => cell_on h (D1 _ HB.out)
        have D4 : ∀ wx, Below W.heap.size W wx → wx.cell? ⟨MR, x, none⟩ = some (.bool (rf x)) := fun wx h => cell_on h (cell_on HB.out (RR.out.cell hx))
        have D5 : ∀ wx, Below W.heap.size W wx → wx.cell? ⟨MR, y, none⟩ = some (.bool (rf y)) := fun wx h => cell_on h (cell_on HB.out (RR.out.cell hy))
        have j3 := bool_at (g := MR) hx
        have j4 := bool_at (g := MR) hy
        have WX := hid (WR.out x hx)
        have WY := hid (WR.out y hy)
        obtain ⟨rx, hrx⟩ : ∃ r, rf x = r := ⟨_, rfl⟩
        obtain ⟨ry, hry⟩ : ∃ r, rf y = r := ⟨_, rfl⟩
        rw [hrx] at D4 WX
        rw [hry] at D5 WY
        have MF := hid (show y ∈ frL F F.blk.n x ↔ rx = true ∧ ry = true ∧ q = true ∧ (x = y ∨ ¬ DomR F x y) by
          rw [mem_frL, front_iff, WX.out, WY.out, HS.out]
          exact ⟨fun h => h.2, fun h => ⟨hy, h⟩⟩)
        have st0 : Below W.heap.size W W.drew := Below.drew (same _)
        have hr1000 : (R x).n ≤ 1000 := by omega
        clear hrx hry WX WY HS D1 D2 F5 I5 S5 B5 QI QN PQ RR WR HB
        go_wp2_with fail
        clear e2 i2
        cases rx with
        | false =>
          have HN := hid (show ¬ (false = true ∧ ry = true ∧ q = true ∧ (x = y ∨ ¬ DomR F x y)) from fun h => by simp at h)
          refine wp_region_noPanic ?_
          refine wp_region_held_drew (S := fun wx => Below W.heap.size W wx) (by kernel_rfl) st0 (fun hS => ?_)
          refine takeAt (i := 0) (d := some 94) (v := ?vA0) rfl (by rfl) (by kernel_rfl) (by kernel_rfl) (by kernel_rfl) (fun _ _ _ h => h) (Or.inl ⟨by rfl, ?yA0⟩) hS ?_
          case yA0 => intro wx hSw; (go_simp) <;> with_reducible rfl
          simp only [Act.put, List.setIfInBounds_toArray, List.set_cons_zero, List.set_cons_succ]
          refine takeAt (i := 1) (d := some 95) (v := ?vA1) rfl (by rfl) (by kernel_rfl) (by kernel_rfl) (by kernel_rfl) (fun _ _ _ h => h) (Or.inl ⟨by rfl, ?yA1⟩) hS ?_
          case yA1 => intro wx hSw; (go_simp) <;> with_reducible rfl
          simp only [Act.put, List.setIfInBounds_toArray, List.set_cons_zero, List.set_cons_succ]
          refine takeAt (i := 2) (d := some 96) (v := ?vA2) rfl (by rfl) (by kernel_rfl) (by kernel_rfl) (by kernel_rfl) (fun _ _ _ h => h) (Or.inl ⟨by rfl, ?yA2⟩) hS ?_
          case yA2 => intro wx hSw; (go_simp) <;> with_reducible rfl
          simp only [Act.put, List.setIfInBounds_toArray, List.set_cons_zero, List.set_cons_succ]
          refine takeAt (i := 3) (d := some 97) (v := ?vA3) rfl (by rfl) (by kernel_rfl) (by kernel_rfl) (by kernel_rfl) (fun _ _ _ h => h) (Or.inl ⟨by rfl, ?yA3⟩) hS ?_
          case yA3 => intro wx hSw; (go_simp) <;> with_reducible rfl
          simp only [Act.put, List.setIfInBounds_toArray, List.set_cons_zero, List.set_cons_succ]
          refine takeAt (i := 4) (d := some 98) (v := ?vA4) rfl (by rfl) (by kernel_rfl) (by kernel_rfl) (by kernel_rfl) (fun _ _ _ h => h) (Or.inl ⟨by rfl, ?yA4⟩) hS ?_
          case yA4 => intro wx hSw; (go_simp) <;> with_reducible rfl
          simp only [Act.put, List.setIfInBounds_toArray, List.set_cons_zero, List.set_cons_succ]
          refine takeAt (i := 6) (d := some 100) (v := ?vA6) rfl (by rfl) (by kernel_rfl) (by kernel_rfl) (by kernel_rfl) (fun _ _ _ h => h) (Or.inl ⟨by rfl, ?yA6⟩) hS ?_
          case yA6 => intro wx hSw; (go_simp) <;> with_reducible rfl
          simp only [Act.put, List.setIfInBounds_toArray, List.set_cons_zero, List.set_cons_succ]
          refine takeAt (i := 7) (d := some 101) (v := ?vA7) rfl (by rfl) (by kernel_rfl) (by kernel_rfl) (by kernel_rfl) (fun _ _ _ h => h) (Or.inl ⟨by rfl, ?yA7⟩) hS ?_
          case yA7 => intro wx hSw; (go_simp) <;> with_reducible rfl
          simp only [Act.put, List.setIfInBounds_toArray, List.set_cons_zero, List.set_cons_succ]
          refine takeAt (i := 8) (d := some 102) (v := ?vA8) rfl (by rfl) (by kernel_rfl) (by kernel_rfl) (by kernel_rfl) (fun _ _ _ h => h) (Or.inl ⟨by rfl, ?yA8⟩) hS ?_
          case yA8 => intro wx hSw; (go_simp) <;> with_reducible rfl
          simp only [Act.put, List.setIfInBounds_toArray, List.set_cons_zero, List.set_cons_succ]
          refine takeAt (i := 9) (d := some 103) (v := ?vA9) rfl (by rfl) (by kernel_rfl) (by kernel_rfl) (by kernel_rfl) (fun _ _ _ h => h) (Or.inl ⟨by rfl, ?yA9⟩) hS ?_
          case yA9 => intro wx hSw; (go_simp) <;> with_reducible rfl
          simp only [Act.put, List.setIfInBounds_toArray, List.set_cons_zero, List.set_cons_succ]
          refine wpAnyH_ready (rs := [5]) (by kernel_rfl) (by simp) ?_
          refine AllReadyH.cons rfl (fun K hK => ?_) AllReadyH.nil
          go_simp
          refine (in_any (R x) _ y _ (S6.out.on st0) hr1000).mono ?_
          rintro e wi ⟨r1, rfl, hr1, hbi⟩
          obtain rfl : r1 = false := by
            cases r1 with
            | false => rfl
            | true => exact absurd (MF.out.1 ((ex_mem SN.out y).1 (hr1.1 rfl))) HN.out
          have st1 : Below W.heap.size W wi := View.more st0 hbi
          clear hr1 hbi
          go_wp2_with fail
          refine hK.out _ _ st1 (fun _ => ?_)
          clear hK K
          replace hS := st1
          try simp only [Act.put, List.setIfInBounds_toArray, List.set_cons_zero, List.set_cons_succ]
          refine takeAt (i := 10) (d := some 104) (v := ?vA10) rfl (by rfl) (by kernel_rfl) (by kernel_rfl) (by kernel_rfl) (fun _ _ _ h => h) (Or.inl ⟨by rfl, ?yA10⟩) hS ?_
          case yA10 => intro wx hSw; (go_simp) <;> with_reducible rfl
          simp only [Act.put, List.setIfInBounds_toArray, List.set_cons_zero, List.set_cons_succ]
          refine takeAt (i := 11) (d := some 105) (v := undef) rfl (by rfl) (by kernel_rfl) (by kernel_rfl) (by kernel_rfl) (fun _ _ _ h => h) (Or.inr ⟨by rfl, rfl⟩) hS ?_
          simp only [Act.put, List.setIfInBounds_toArray, List.set_cons_zero, List.set_cons_succ]
          refine takeAt (i := 12) (d := some 106) (v := undef) rfl (by rfl) (by kernel_rfl) (by kernel_rfl) (by kernel_rfl) (fun _ _ _ h => h) (Or.inr ⟨by rfl, rfl⟩) hS ?_
          simp only [Act.put, List.setIfInBounds_toArray, List.set_cons_zero, List.set_cons_succ]
          refine takeAt (i := 13) (d := some 107) (v := undef) rfl (by rfl) (by kernel_rfl) (by kernel_rfl) (by kernel_rfl) (fun _ _ _ h => h) (Or.inr ⟨by rfl, rfl⟩) hS ?_
          simp only [Act.put, List.setIfInBounds_toArray, List.set_cons_zero, List.set_cons_succ]
          refine takeAt (i := 14) (d := some 108) (v := undef) rfl (by rfl) (by kernel_rfl) (by kernel_rfl) (by kernel_rfl) (fun _ _ _ h => h) (Or.inr ⟨by rfl, rfl⟩) hS ?_
          simp only [Act.put, List.setIfInBounds_toArray, List.set_cons_zero, List.set_cons_succ]
          refine takeAt (i := 15) (d := some 109) (v := ?vA15) rfl (by rfl) (by kernel_rfl) (by kernel_rfl) (by kernel_rfl) (fun _ _ _ h => h) (Or.inl ⟨by rfl, ?yA15⟩) hS ?_
          case yA15 => intro wx hSw; (go_simp) <;> with_reducible rfl
          simp only [Act.put, List.setIfInBounds_toArray, List.set_cons_zero, List.set_cons_succ]
          refine takeAt (i := 16) (d := some 110) (v := ?vA16) rfl (by rfl) (by kernel_rfl) (by kernel_rfl) (by kernel_rfl) (fun _ _ _ h => h) (Or.inl ⟨by rfl, ?yA16⟩) hS ?_
          case yA16 => intro wx hSw; (go_simp) <;> with_reducible rfl
          simp only [Act.put, List.setIfInBounds_toArray, List.set_cons_zero, List.set_cons_succ]
          refine takeAt (i := 17) (d := some 111) (v := undef) rfl (by rfl) (by kernel_rfl) (by kernel_rfl) (by kernel_rfl) (fun _ _ _ h => h) (Or.inr ⟨by rfl, rfl⟩) hS ?_
          simp only [Act.put, List.setIfInBounds_toArray, List.set_cons_zero, List.set_cons_succ]
          refine takeAt (i := 18) (d := some 112) (v := ?vA18) rfl (by rfl) (by kernel_rfl) (by kernel_rfl) (by kernel_rfl) (fun _ _ _ h => h) (Or.inl ⟨by rfl, ?yA18⟩) hS ?_
          case yA18 => intro wx hSw; (go_simp) <;> with_reducible rfl
          simp only [Act.put, List.setIfInBounds_toArray, List.set_cons_zero, List.set_cons_succ]
          refine takeAt (i := 19) (d := some 113) (v := ?vA19) rfl (by rfl) (by kernel_rfl) (by kernel_rfl) (by kernel_rfl) (fun _ _ _ h => h) (Or.inl ⟨by rfl, ?yA19⟩) hS ?_
          case yA19 => intro wx hSw; (go_simp) <;> with_reducible rfl
          simp only [Act.put, List.setIfInBounds_toArray, List.set_cons_zero, List.set_cons_succ]
          refine takeAt (i := 20) (d := some 114) (v := undef) rfl (by rfl) (by kernel_rfl) (by kernel_rfl) (by kernel_rfl) (fun _ _ _ h => h) (Or.inr ⟨by rfl, rfl⟩) hS ?_
          simp only [Act.put, List.setIfInBounds_toArray, List.set_cons_zero, List.set_cons_succ]
          refine takeAt (i := 21) (d := some 115) (v := undef) rfl (by rfl) (by kernel_rfl) (by kernel_rfl) (by kernel_rfl) (fun _ _ _ h => h) (Or.inr ⟨by rfl, rfl⟩) hS ?_
          simp only [Act.put, List.setIfInBounds_toArray, List.set_cons_zero, List.set_cons_succ]
          refine takeAt (i := 22) (d := some 116) (v := undef) rfl (by rfl) (by kernel_rfl) (by kernel_rfl) (by kernel_rfl) (fun _ _ _ h => h) (Or.inr ⟨by rfl, rfl⟩) hS ?_
          simp only [Act.put, List.setIfInBounds_toArray, List.set_cons_zero, List.set_cons_succ]
          refine takeAt (i := 23) (d := some 117) (v := undef) rfl (by rfl) (by kernel_rfl) (by kernel_rfl) (by kernel_rfl) (fun _ _ _ h => h) (Or.inr ⟨by rfl, rfl⟩) hS ?_
          simp only [Act.put, List.setIfInBounds_toArray, List.set_cons_zero, List.set_cons_succ]
          refine takeAt (i := 24) (d := some 118) (v := undef) rfl (by rfl) (by kernel_rfl) (by kernel_rfl) (by kernel_rfl) (fun _ _ _ h => h) (Or.inr ⟨by rfl, rfl⟩) hS ?_
          simp only [Act.put, List.setIfInBounds_toArray, List.set_cons_zero, List.set_cons_succ]
          refine takeAt (i := 25) (d := some 119) (v := undef) rfl (by rfl) (by kernel_rfl) (by kernel_rfl) (by kernel_rfl) (fun _ _ _ h => h) (Or.inr ⟨by rfl, rfl⟩) hS ?_
          simp only [Act.put, List.setIfInBounds_toArray, List.set_cons_zero, List.set_cons_succ]
          refine takeAt (i := 26) (d := some 120) (v := undef) rfl (by rfl) (by kernel_rfl) (by kernel_rfl) (by kernel_rfl) (fun _ _ _ h => h) (Or.inr ⟨by rfl, rfl⟩) hS ?_
          simp only [Act.put, List.setIfInBounds_toArray, List.set_cons_zero, List.set_cons_succ]
          refine takeAt (i := 27) (d := some 121) (v := undef) rfl (by rfl) (by kernel_rfl) (by kernel_rfl) (by kernel_rfl) (fun _ _ _ h => h) (Or.inr ⟨by rfl, rfl⟩) hS ?_
          simp only [Act.put, List.setIfInBounds_toArray, List.set_cons_zero, List.set_cons_succ]
          refine takeAt (i := 28) (d := some 122) (v := undef) rfl (by rfl) (by kernel_rfl) (by kernel_rfl) (by kernel_rfl) (fun _ _ _ h => h) (Or.inr ⟨by rfl, rfl⟩) hS ?_
          simp only [Act.put, List.setIfInBounds_toArray, List.set_cons_zero, List.set_cons_succ]
          refine takeAt (i := 29) (d := some 123) (v := undef) rfl (by rfl) (by kernel_rfl) (by kernel_rfl) (by kernel_rfl) (fun _ _ _ h => h) (Or.inr ⟨by rfl, rfl⟩) hS ?_
          simp only [Act.put, List.setIfInBounds_toArray, List.set_cons_zero, List.set_cons_succ]
          refine takeAt (i := 30) (d := some 124) (v := ?vA30) rfl (by rfl) (by kernel_rfl) (by kernel_rfl) (by kernel_rfl) (fun _ _ _ h => h) (Or.inl ⟨by rfl, ?yA30⟩) hS ?_
          case yA30 => intro wx hSw; (go_simp) <;> with_reducible rfl
          simp only [Act.put, List.setIfInBounds_toArray, List.set_cons_zero, List.set_cons_succ]
          refine takeAt (i := 31) (d := some 125) (v := ?vA31) rfl (by rfl) (by kernel_rfl) (by kernel_rfl) (by kernel_rfl) (fun _ _ _ h => h) (Or.inl ⟨by rfl, ?yA31⟩) hS ?_
          case yA31 => intro wx hSw; (go_simp) <;> with_reducible rfl
          simp only [Act.put, List.setIfInBounds_toArray, List.set_cons_zero, List.set_cons_succ]
          refine takeAt (i := 32) (d := some 6) (v := ?vA32) rfl (by rfl) (by kernel_rfl) (by kernel_rfl) (by kernel_rfl) (fun _ _ _ h => h) (Or.inl ⟨by rfl, ?yA32⟩) hS ?_
          case yA32 => intro wx hSw; (go_simp) <;> with_reducible rfl
          simp only [Act.put, List.setIfInBounds_toArray, List.set_cons_zero, List.set_cons_succ]
          refine wpAnyH_done (by kernel_rfl) ?_ _
          refine NoPanic.normal ?_
          go_wp2_with fail
          go_ret
          exact ⟨rfl, View.more B6.out st1⟩
        | true =>
          cases ry with
          | false =>
            have HN := hid (show ¬ (true = true ∧ false = true ∧ q = true ∧ (x = y ∨ ¬ DomR F x y)) from fun h => by simp at h)
            refine wp_region_noPanic ?_
            refine wp_region_held_drew (S := fun wx => Below W.heap.size W wx) (by kernel_rfl) st0 (fun hS => ?_)
            refine takeAt (i := 0) (d := some 94) (v := ?vB0) rfl (by rfl) (by kernel_rfl) (by kernel_rfl) (by kernel_rfl) (fun _ _ _ h => h) (Or.inl ⟨by rfl, ?yB0⟩) hS ?_
            case yB0 => intro wx hSw; (go_simp) <;> with_reducible rfl
            simp only [Act.put, List.setIfInBounds_toArray, List.set_cons_zero, List.set_cons_succ]
            refine takeAt (i := 1) (d := some 95) (v := ?vB1) rfl (by rfl) (by kernel_rfl) (by kernel_rfl) (by kernel_rfl) (fun _ _ _ h => h) (Or.inl ⟨by rfl, ?yB1⟩) hS ?_
            case yB1 => intro wx hSw; (go_simp) <;> with_reducible rfl
            simp only [Act.put, List.setIfInBounds_toArray, List.set_cons_zero, List.set_cons_succ]
            refine takeAt (i := 2) (d := some 96) (v := ?vB2) rfl (by rfl) (by kernel_rfl) (by kernel_rfl) (by kernel_rfl) (fun _ _ _ h => h) (Or.inl ⟨by rfl, ?yB2⟩) hS ?_
            case yB2 => intro wx hSw; (go_simp) <;> with_reducible rfl
            simp only [Act.put, List.setIfInBounds_toArray, List.set_cons_zero, List.set_cons_succ]
            refine takeAt (i := 3) (d := some 97) (v := ?vB3) rfl (by rfl) (by kernel_rfl) (by kernel_rfl) (by kernel_rfl) (fun _ _ _ h => h) (Or.inl ⟨by rfl, ?yB3⟩) hS ?_
            case yB3 => intro wx hSw; (go_simp) <;> with_reducible rfl
            simp only [Act.put, List.setIfInBounds_toArray, List.set_cons_zero, List.set_cons_succ]
            refine takeAt (i := 4) (d := some 98) (v := ?vB4) rfl (by rfl) (by kernel_rfl) (by kernel_rfl) (by kernel_rfl) (fun _ _ _ h => h) (Or.inl ⟨by rfl, ?yB4⟩) hS ?_
            case yB4 => intro wx hSw; (go_simp) <;> with_reducible rfl
            simp only [Act.put, List.setIfInBounds_toArray, List.set_cons_zero, List.set_cons_succ]
            refine takeAt (i := 6) (d := some 100) (v := ?vB6) rfl (by rfl) (by kernel_rfl) (by kernel_rfl) (by kernel_rfl) (fun _ _ _ h => h) (Or.inl ⟨by rfl, ?yB6⟩) hS ?_
            case yB6 => intro wx hSw; (go_simp) <;> with_reducible rfl
            simp only [Act.put, List.setIfInBounds_toArray, List.set_cons_zero, List.set_cons_succ]
            refine takeAt (i := 7) (d := some 101) (v := ?vB7) rfl (by rfl) (by kernel_rfl) (by kernel_rfl) (by kernel_rfl) (fun _ _ _ h => h) (Or.inl ⟨by rfl, ?yB7⟩) hS ?_
            case yB7 => intro wx hSw; (go_simp) <;> with_reducible rfl
            simp only [Act.put, List.setIfInBounds_toArray, List.set_cons_zero, List.set_cons_succ]
            refine takeAt (i := 8) (d := some 102) (v := ?vB8) rfl (by rfl) (by kernel_rfl) (by kernel_rfl) (by kernel_rfl) (fun _ _ _ h => h) (Or.inl ⟨by rfl, ?yB8⟩) hS ?_
            case yB8 => intro wx hSw; (go_simp) <;> with_reducible rfl
            simp only [Act.put, List.setIfInBounds_toArray, List.set_cons_zero, List.set_cons_succ]
            refine takeAt (i := 9) (d := some 103) (v := ?vB9) rfl (by rfl) (by kernel_rfl) (by kernel_rfl) (by kernel_rfl) (fun _ _ _ h => h) (Or.inl ⟨by rfl, ?yB9⟩) hS ?_
            case yB9 => intro wx hSw; (go_simp) <;> with_reducible rfl
            simp only [Act.put, List.setIfInBounds_toArray, List.set_cons_zero, List.set_cons_succ]
            refine wpAnyH_ready (rs := [5]) (by kernel_rfl) (by simp) ?_
            refine AllReadyH.cons rfl (fun K hK => ?_) AllReadyH.nil
            go_simp
            refine (in_any (R x) _ y _ (S6.out.on st0) hr1000).mono ?_
            rintro e wi ⟨r1, rfl, hr1, hbi⟩
            obtain rfl : r1 = false := by
              cases r1 with
              | false => rfl
              | true => exact absurd (MF.out.1 ((ex_mem SN.out y).1 (hr1.1 rfl))) HN.out
            have st1 : Below W.heap.size W wi := View.more st0 hbi
            clear hr1 hbi
            go_wp2_with fail
            refine hK.out _ _ st1 (fun _ => ?_)
            clear hK K
            replace hS := st1
            try simp only [Act.put, List.setIfInBounds_toArray, List.set_cons_zero, List.set_cons_succ]
            refine takeAt (i := 10) (d := some 104) (v := ?vB10) rfl (by rfl) (by kernel_rfl) (by kernel_rfl) (by kernel_rfl) (fun _ _ _ h => h) (Or.inl ⟨by rfl, ?yB10⟩) hS ?_
            case yB10 => intro wx hSw; (go_simp) <;> with_reducible rfl
            simp only [Act.put, List.setIfInBounds_toArray, List.set_cons_zero, List.set_cons_succ]
            refine takeAt (i := 11) (d := some 105) (v := ?vB11) rfl (by rfl) (by kernel_rfl) (by kernel_rfl) (by kernel_rfl) (fun _ _ _ h => h) (Or.inl ⟨by rfl, ?yB11⟩) hS ?_
            case yB11 => intro wx hSw; (go_simp) <;> with_reducible rfl
            simp only [Act.put, List.setIfInBounds_toArray, List.set_cons_zero, List.set_cons_succ]
            refine takeAt (i := 12) (d := some 106) (v := ?vB12) rfl (by rfl) (by kernel_rfl) (by kernel_rfl) (by kernel_rfl) (fun _ _ _ h => h) (Or.inl ⟨by rfl, ?yB12⟩) hS ?_
            case yB12 => intro wx hSw; (go_simp) <;> with_reducible rfl
            simp only [Act.put, List.setIfInBounds_toArray, List.set_cons_zero, List.set_cons_succ]
            refine takeAt (i := 13) (d := some 107) (v := ?vB13) rfl (by rfl) (by kernel_rfl) (by kernel_rfl) (by kernel_rfl) (fun _ _ _ h => h) (Or.inl ⟨by rfl, ?yB13⟩) hS ?_
            case yB13 => intro wx hSw; (go_simp) <;> with_reducible rfl
            simp only [Act.put, List.setIfInBounds_toArray, List.set_cons_zero, List.set_cons_succ]
            refine takeAt (i := 14) (d := some 108) (v := ?vB14) rfl (by rfl) (by kernel_rfl) (by kernel_rfl) (by kernel_rfl) (fun _ _ _ h => h) (Or.inl ⟨by rfl, ?yB14⟩) hS ?_
            case yB14 => intro wx hSw; (go_simp) <;> with_reducible rfl
            simp only [Act.put, List.setIfInBounds_toArray, List.set_cons_zero, List.set_cons_succ]
            refine takeAt (i := 15) (d := some 109) (v := ?vB15) rfl (by rfl) (by kernel_rfl) (by kernel_rfl) (by kernel_rfl) (fun _ _ _ h => h) (Or.inl ⟨by rfl, ?yB15⟩) hS ?_
            case yB15 => intro wx hSw; (go_simp) <;> with_reducible rfl
            simp only [Act.put, List.setIfInBounds_toArray, List.set_cons_zero, List.set_cons_succ]
            refine takeAt (i := 16) (d := some 110) (v := ?vB16) rfl (by rfl) (by kernel_rfl) (by kernel_rfl) (by kernel_rfl) (fun _ _ _ h => h) (Or.inl ⟨by rfl, ?yB16⟩) hS ?_
            case yB16 => intro wx hSw; (go_simp) <;> with_reducible rfl
            simp only [Act.put, List.setIfInBounds_toArray, List.set_cons_zero, List.set_cons_succ]
            refine takeAt (i := 17) (d := some 111) (v := undef) rfl (by rfl) (by kernel_rfl) (by kernel_rfl) (by kernel_rfl) (fun _ _ _ h => h) (Or.inr ⟨by rfl, rfl⟩) hS ?_
            simp only [Act.put, List.setIfInBounds_toArray, List.set_cons_zero, List.set_cons_succ]
            refine takeAt (i := 18) (d := some 112) (v := ?vB18) rfl (by rfl) (by kernel_rfl) (by kernel_rfl) (by kernel_rfl) (fun _ _ _ h => h) (Or.inl ⟨by rfl, ?yB18⟩) hS ?_
            case yB18 => intro wx hSw; (go_simp) <;> with_reducible rfl
            simp only [Act.put, List.setIfInBounds_toArray, List.set_cons_zero, List.set_cons_succ]
            refine takeAt (i := 19) (d := some 113) (v := ?vB19) rfl (by rfl) (by kernel_rfl) (by kernel_rfl) (by kernel_rfl) (fun _ _ _ h => h) (Or.inl ⟨by rfl, ?yB19⟩) hS ?_
            case yB19 => intro wx hSw; (go_simp) <;> with_reducible rfl
            simp only [Act.put, List.setIfInBounds_toArray, List.set_cons_zero, List.set_cons_succ]
            refine takeAt (i := 20) (d := some 114) (v := undef) rfl (by rfl) (by kernel_rfl) (by kernel_rfl) (by kernel_rfl) (fun _ _ _ h => h) (Or.inr ⟨by rfl, rfl⟩) hS ?_
            simp only [Act.put, List.setIfInBounds_toArray, List.set_cons_zero, List.set_cons_succ]
            refine takeAt (i := 21) (d := some 115) (v := undef) rfl (by rfl) (by kernel_rfl) (by kernel_rfl) (by kernel_rfl) (fun _ _ _ h => h) (Or.inr ⟨by rfl, rfl⟩) hS ?_
            simp only [Act.put, List.setIfInBounds_toArray, List.set_cons_zero, List.set_cons_succ]
            refine takeAt (i := 22) (d := some 116) (v := undef) rfl (by rfl) (by kernel_rfl) (by kernel_rfl) (by kernel_rfl) (fun _ _ _ h => h) (Or.inr ⟨by rfl, rfl⟩) hS ?_
            simp only [Act.put, List.setIfInBounds_toArray, List.set_cons_zero, List.set_cons_succ]
            refine takeAt (i := 23) (d := some 117) (v := undef) rfl (by rfl) (by kernel_rfl) (by kernel_rfl) (by kernel_rfl) (fun _ _ _ h => h) (Or.inr ⟨by rfl, rfl⟩) hS ?_
            simp only [Act.put, List.setIfInBounds_toArray, List.set_cons_zero, List.set_cons_succ]
            refine takeAt (i := 24) (d := some 118) (v := undef) rfl (by rfl) (by kernel_rfl) (by kernel_rfl) (by kernel_rfl) (fun _ _ _ h => h) (Or.inr ⟨by rfl, rfl⟩) hS ?_
            simp only [Act.put, List.setIfInBounds_toArray, List.set_cons_zero, List.set_cons_succ]
            refine takeAt (i := 25) (d := some 119) (v := undef) rfl (by rfl) (by kernel_rfl) (by kernel_rfl) (by kernel_rfl) (fun _ _ _ h => h) (Or.inr ⟨by rfl, rfl⟩) hS ?_
            simp only [Act.put, List.setIfInBounds_toArray, List.set_cons_zero, List.set_cons_succ]
            refine takeAt (i := 26) (d := some 120) (v := undef) rfl (by rfl) (by kernel_rfl) (by kernel_rfl) (by kernel_rfl) (fun _ _ _ h => h) (Or.inr ⟨by rfl, rfl⟩) hS ?_
            simp only [Act.put, List.setIfInBounds_toArray, List.set_cons_zero, List.set_cons_succ]
            refine takeAt (i := 27) (d := some 121) (v := undef) rfl (by rfl) (by kernel_rfl) (by kernel_rfl) (by kernel_rfl) (fun _ _ _ h => h) (Or.inr ⟨by rfl, rfl⟩) hS ?_
            simp only [Act.put, List.setIfInBounds_toArray, List.set_cons_zero, List.set_cons_succ]
            refine takeAt (i := 28) (d := some 122) (v := undef) rfl (by rfl) (by kernel_rfl) (by kernel_rfl) (by kernel_rfl) (fun _ _ _ h => h) (Or.inr ⟨by rfl, rfl⟩) hS ?_
            simp only [Act.put, List.setIfInBounds_toArray, List.set_cons_zero, List.set_cons_succ]
            refine takeAt (i := 29) (d := some 123) (v := undef) rfl (by rfl) (by kernel_rfl) (by kernel_rfl) (by kernel_rfl) (fun _ _ _ h => h) (Or.inr ⟨by rfl, rfl⟩) hS ?_
            simp only [Act.put, List.setIfInBounds_toArray, List.set_cons_zero, List.set_cons_succ]
            refine takeAt (i := 30) (d := some 124) (v := ?vB30) rfl (by rfl) (by kernel_rfl) (by kernel_rfl) (by kernel_rfl) (fun _ _ _ h => h) (Or.inl ⟨by rfl, ?yB30⟩) hS ?_
            case yB30 => intro wx hSw; (go_simp) <;> with_reducible rfl
            simp only [Act.put, List.setIfInBounds_toArray, List.set_cons_zero, List.set_cons_succ]
            refine takeAt (i := 31) (d := some 125) (v := ?vB31) rfl (by rfl) (by kernel_rfl) (by kernel_rfl) (by kernel_rfl) (fun _ _ _ h => h) (Or.inl ⟨by rfl, ?yB31⟩) hS ?_
            case yB31 => intro wx hSw; (go_simp) <;> with_reducible rfl
            simp only [Act.put, List.setIfInBounds_toArray, List.set_cons_zero, List.set_cons_succ]
            refine takeAt (i := 32) (d := some 6) (v := ?vB32) rfl (by rfl) (by kernel_rfl) (by kernel_rfl) (by kernel_rfl) (fun _ _ _ h => h) (Or.inl ⟨by rfl, ?yB32⟩) hS ?_
            case yB32 => intro wx hSw; (go_simp) <;> with_reducible rfl
            simp only [Act.put, List.setIfInBounds_toArray, List.set_cons_zero, List.set_cons_succ]
            refine wpAnyH_done (by kernel_rfl) ?_ _
            refine NoPanic.normal ?_
            go_wp2_with fail
            go_ret
            exact ⟨rfl, View.more B6.out st1⟩
          | true =>
            cases q with
            | false =>
              have HN := hid (show ¬ (true = true ∧ true = true ∧ false = true ∧ (x = y ∨ ¬ DomR F x y)) from fun h => by simp at h)
              refine wp_region_noPanic ?_
              refine wp_region_held_drew (S := fun wx => Below W.heap.size W wx) (by kernel_rfl) st0 (fun hS => ?_)
              refine takeAt (i := 0) (d := some 94) (v := ?vC0) rfl (by rfl) (by kernel_rfl) (by kernel_rfl) (by kernel_rfl) (fun _ _ _ h => h) (Or.inl ⟨by rfl, ?yC0⟩) hS ?_
              case yC0 => intro wx hSw; (go_simp) <;> with_reducible rfl
              simp only [Act.put, List.setIfInBounds_toArray, List.set_cons_zero, List.set_cons_succ]
              refine takeAt (i := 1) (d := some 95) (v := ?vC1) rfl (by rfl) (by kernel_rfl) (by kernel_rfl) (by kernel_rfl) (fun _ _ _ h => h) (Or.inl ⟨by rfl, ?yC1⟩) hS ?_
              case yC1 => intro wx hSw; (go_simp) <;> with_reducible rfl
              simp only [Act.put, List.setIfInBounds_toArray, List.set_cons_zero, List.set_cons_succ]
              refine takeAt (i := 2) (d := some 96) (v := ?vC2) rfl (by rfl) (by kernel_rfl) (by kernel_rfl) (by kernel_rfl) (fun _ _ _ h => h) (Or.inl ⟨by rfl, ?yC2⟩) hS ?_
              case yC2 => intro wx hSw; (go_simp) <;> with_reducible rfl
              simp only [Act.put, List.setIfInBounds_toArray, List.set_cons_zero, List.set_cons_succ]
              refine takeAt (i := 3) (d := some 97) (v := ?vC3) rfl (by rfl) (by kernel_rfl) (by kernel_rfl) (by kernel_rfl) (fun _ _ _ h => h) (Or.inl ⟨by rfl, ?yC3⟩) hS ?_
              case yC3 => intro wx hSw; (go_simp) <;> with_reducible rfl
              simp only [Act.put, List.setIfInBounds_toArray, List.set_cons_zero, List.set_cons_succ]
              refine takeAt (i := 4) (d := some 98) (v := ?vC4) rfl (by rfl) (by kernel_rfl) (by kernel_rfl) (by kernel_rfl) (fun _ _ _ h => h) (Or.inl ⟨by rfl, ?yC4⟩) hS ?_
              case yC4 => intro wx hSw; (go_simp) <;> with_reducible rfl
              simp only [Act.put, List.setIfInBounds_toArray, List.set_cons_zero, List.set_cons_succ]
              refine takeAt (i := 6) (d := some 100) (v := ?vC6) rfl (by rfl) (by kernel_rfl) (by kernel_rfl) (by kernel_rfl) (fun _ _ _ h => h) (Or.inl ⟨by rfl, ?yC6⟩) hS ?_
              case yC6 => intro wx hSw; (go_simp) <;> with_reducible rfl
              simp only [Act.put, List.setIfInBounds_toArray, List.set_cons_zero, List.set_cons_succ]
              refine takeAt (i := 7) (d := some 101) (v := ?vC7) rfl (by rfl) (by kernel_rfl) (by kernel_rfl) (by kernel_rfl) (fun _ _ _ h => h) (Or.inl ⟨by rfl, ?yC7⟩) hS ?_
              case yC7 => intro wx hSw; (go_simp) <;> with_reducible rfl
              simp only [Act.put, List.setIfInBounds_toArray, List.set_cons_zero, List.set_cons_succ]
              refine takeAt (i := 8) (d := some 102) (v := ?vC8) rfl (by rfl) (by kernel_rfl) (by kernel_rfl) (by kernel_rfl) (fun _ _ _ h => h) (Or.inl ⟨by rfl, ?yC8⟩) hS ?_
              case yC8 => intro wx hSw; (go_simp) <;> with_reducible rfl
              simp only [Act.put, List.setIfInBounds_toArray, List.set_cons_zero, List.set_cons_succ]
              refine takeAt (i := 9) (d := some 103) (v := ?vC9) rfl (by rfl) (by kernel_rfl) (by kernel_rfl) (by kernel_rfl) (fun _ _ _ h => h) (Or.inl ⟨by rfl, ?yC9⟩) hS ?_
              case yC9 => intro wx hSw; (go_simp) <;> with_reducible rfl
              simp only [Act.put, List.setIfInBounds_toArray, List.set_cons_zero, List.set_cons_succ]
              refine wpAnyH_ready (rs := [5]) (by kernel_rfl) (by simp) ?_
              refine AllReadyH.cons rfl (fun K hK => ?_) AllReadyH.nil
              go_simp
              refine (in_any (R x) _ y _ (S6.out.on st0) hr1000).mono ?_
              rintro e wi ⟨r1, rfl, hr1, hbi⟩
              obtain rfl : r1 = false := by
                cases r1 with
                | false => rfl
                | true => exact absurd (MF.out.1 ((ex_mem SN.out y).1 (hr1.1 rfl))) HN.out
              have st1 : Below W.heap.size W wi := View.more st0 hbi
              clear hr1 hbi
              go_wp2_with fail
              refine hK.out _ _ st1 (fun _ => ?_)
              clear hK K
              replace hS := st1
              try simp only [Act.put, List.setIfInBounds_toArray, List.set_cons_zero, List.set_cons_succ]
              refine takeAt (i := 10) (d := some 104) (v := ?vC10) rfl (by rfl) (by kernel_rfl) (by kernel_rfl) (by kernel_rfl) (fun _ _ _ h => h) (Or.inl ⟨by rfl, ?yC10⟩) hS ?_
              case yC10 => intro wx hSw; (go_simp) <;> with_reducible rfl
              simp only [Act.put, List.setIfInBounds_toArray, List.set_cons_zero, List.set_cons_succ]
              refine takeAt (i := 11) (d := some 105) (v := ?vC11) rfl (by rfl) (by kernel_rfl) (by kernel_rfl) (by kernel_rfl) (fun _ _ _ h => h) (Or.inl ⟨by rfl, ?yC11⟩) hS ?_
              case yC11 => intro wx hSw; (go_simp) <;> with_reducible rfl
              simp only [Act.put, List.setIfInBounds_toArray, List.set_cons_zero, List.set_cons_succ]
              refine takeAt (i := 12) (d := some 106) (v := ?vC12) rfl (by rfl) (by kernel_rfl) (by kernel_rfl) (by kernel_rfl) (fun _ _ _ h => h) (Or.inl ⟨by rfl, ?yC12⟩) hS ?_
              case yC12 => intro wx hSw; (go_simp) <;> with_reducible rfl
              simp only [Act.put, List.setIfInBounds_toArray, List.set_cons_zero, List.set_cons_succ]
              refine takeAt (i := 13) (d := some 107) (v := ?vC13) rfl (by rfl) (by kernel_rfl) (by kernel_rfl) (by kernel_rfl) (fun _ _ _ h => h) (Or.inl ⟨by rfl, ?yC13⟩) hS ?_
              case yC13 => intro wx hSw; (go_simp) <;> with_reducible rfl
              simp only [Act.put, List.setIfInBounds_toArray, List.set_cons_zero, List.set_cons_succ]
              refine takeAt (i := 14) (d := some 108) (v := ?vC14) rfl (by rfl) (by kernel_rfl) (by kernel_rfl) (by kernel_rfl) (fun _ _ _ h => h) (Or.inl ⟨by rfl, ?yC14⟩) hS ?_
              case yC14 => intro wx hSw; (go_simp) <;> with_reducible rfl
              simp only [Act.put, List.setIfInBounds_toArray, List.set_cons_zero, List.set_cons_succ]
              refine takeAt (i := 15) (d := some 109) (v := ?vC15) rfl (by rfl) (by kernel_rfl) (by kernel_rfl) (by kernel_rfl) (fun _ _ _ h => h) (Or.inl ⟨by rfl, ?yC15⟩) hS ?_
              case yC15 => intro wx hSw; (go_simp) <;> with_reducible rfl
              simp only [Act.put, List.setIfInBounds_toArray, List.set_cons_zero, List.set_cons_succ]
              refine takeAt (i := 16) (d := some 110) (v := ?vC16) rfl (by rfl) (by kernel_rfl) (by kernel_rfl) (by kernel_rfl) (fun _ _ _ h => h) (Or.inl ⟨by rfl, ?yC16⟩) hS ?_
              case yC16 => intro wx hSw; (go_simp) <;> with_reducible rfl
              simp only [Act.put, List.setIfInBounds_toArray, List.set_cons_zero, List.set_cons_succ]
              refine takeAt (i := 17) (d := some 111) (v := ?vC17) rfl (by rfl) (by kernel_rfl) (by kernel_rfl) (by kernel_rfl) (fun _ _ _ h => h) (Or.inl ⟨by rfl, ?yC17⟩) hS ?_
              case yC17 => intro wx hSw; (go_simp) <;> with_reducible rfl
              simp only [Act.put, List.setIfInBounds_toArray, List.set_cons_zero, List.set_cons_succ]
              refine takeAt (i := 18) (d := some 112) (v := ?vC18) rfl (by rfl) (by kernel_rfl) (by kernel_rfl) (by kernel_rfl) (fun _ _ _ h => h) (Or.inl ⟨by rfl, ?yC18⟩) hS ?_
              case yC18 => intro wx hSw; (go_simp) <;> with_reducible rfl
              simp only [Act.put, List.setIfInBounds_toArray, List.set_cons_zero, List.set_cons_succ]
              refine takeAt (i := 19) (d := some 113) (v := ?vC19) rfl (by rfl) (by kernel_rfl) (by kernel_rfl) (by kernel_rfl) (fun _ _ _ h => h) (Or.inl ⟨by rfl, ?yC19⟩) hS ?_
              case yC19 => intro wx hSw; (go_simp) <;> with_reducible rfl
              simp only [Act.put, List.setIfInBounds_toArray, List.set_cons_zero, List.set_cons_succ]
              refine takeAt (i := 20) (d := some 114) (v := undef) rfl (by rfl) (by kernel_rfl) (by kernel_rfl) (by kernel_rfl) (fun _ _ _ h => h) (Or.inr ⟨by rfl, rfl⟩) hS ?_
              simp only [Act.put, List.setIfInBounds_toArray, List.set_cons_zero, List.set_cons_succ]
              refine takeAt (i := 21) (d := some 115) (v := undef) rfl (by rfl) (by kernel_rfl) (by kernel_rfl) (by kernel_rfl) (fun _ _ _ h => h) (Or.inr ⟨by rfl, rfl⟩) hS ?_
              simp only [Act.put, List.setIfInBounds_toArray, List.set_cons_zero, List.set_cons_succ]
              refine takeAt (i := 22) (d := some 116) (v := undef) rfl (by rfl) (by kernel_rfl) (by kernel_rfl) (by kernel_rfl) (fun _ _ _ h => h) (Or.inr ⟨by rfl, rfl⟩) hS ?_
              simp only [Act.put, List.setIfInBounds_toArray, List.set_cons_zero, List.set_cons_succ]
              refine takeAt (i := 23) (d := some 117) (v := undef) rfl (by rfl) (by kernel_rfl) (by kernel_rfl) (by kernel_rfl) (fun _ _ _ h => h) (Or.inr ⟨by rfl, rfl⟩) hS ?_
              simp only [Act.put, List.setIfInBounds_toArray, List.set_cons_zero, List.set_cons_succ]
              refine takeAt (i := 24) (d := some 118) (v := undef) rfl (by rfl) (by kernel_rfl) (by kernel_rfl) (by kernel_rfl) (fun _ _ _ h => h) (Or.inr ⟨by rfl, rfl⟩) hS ?_
              simp only [Act.put, List.setIfInBounds_toArray, List.set_cons_zero, List.set_cons_succ]
              refine takeAt (i := 25) (d := some 119) (v := undef) rfl (by rfl) (by kernel_rfl) (by kernel_rfl) (by kernel_rfl) (fun _ _ _ h => h) (Or.inr ⟨by rfl, rfl⟩) hS ?_
              simp only [Act.put, List.setIfInBounds_toArray, List.set_cons_zero, List.set_cons_succ]
              refine takeAt (i := 26) (d := some 120) (v := undef) rfl (by rfl) (by kernel_rfl) (by kernel_rfl) (by kernel_rfl) (fun _ _ _ h => h) (Or.inr ⟨by rfl, rfl⟩) hS ?_
              simp only [Act.put, List.setIfInBounds_toArray, List.set_cons_zero, List.set_cons_succ]
              refine takeAt (i := 27) (d := some 121) (v := undef) rfl (by rfl) (by kernel_rfl) (by kernel_rfl) (by kernel_rfl) (fun _ _ _ h => h) (Or.inr ⟨by rfl, rfl⟩) hS ?_
              simp only [Act.put, List.setIfInBounds_toArray, List.set_cons_zero, List.set_cons_succ]
              refine takeAt (i := 28) (d := some 122) (v := undef) rfl (by rfl) (by kernel_rfl) (by kernel_rfl) (by kernel_rfl) (fun _ _ _ h => h) (Or.inr ⟨by rfl, rfl⟩) hS ?_
              simp only [Act.put, List.setIfInBounds_toArray, List.set_cons_zero, List.set_cons_succ]
              refine takeAt (i := 29) (d := some 123) (v := undef) rfl (by rfl) (by kernel_rfl) (by kernel_rfl) (by kernel_rfl) (fun _ _ _ h => h) (Or.inr ⟨by rfl, rfl⟩) hS ?_
              simp only [Act.put, List.setIfInBounds_toArray, List.set_cons_zero, List.set_cons_succ]
              refine takeAt (i := 30) (d := some 124) (v := ?vC30) rfl (by rfl) (by kernel_rfl) (by kernel_rfl) (by kernel_rfl) (fun _ _ _ h => h) (Or.inl ⟨by rfl, ?yC30⟩) hS ?_
              case yC30 => intro wx hSw; (go_simp) <;> with_reducible rfl
              simp only [Act.put, List.setIfInBounds_toArray, List.set_cons_zero, List.set_cons_succ]
              refine takeAt (i := 31) (d := some 125) (v := ?vC31) rfl (by rfl) (by kernel_rfl) (by kernel_rfl) (by kernel_rfl) (fun _ _ _ h => h) (Or.inl ⟨by rfl, ?yC31⟩) hS ?_
              case yC31 => intro wx hSw; (go_simp) <;> with_reducible rfl
              simp only [Act.put, List.setIfInBounds_toArray, List.set_cons_zero, List.set_cons_succ]
              refine takeAt (i := 32) (d := some 6) (v := ?vC32) rfl (by rfl) (by kernel_rfl) (by kernel_rfl) (by kernel_rfl) (fun _ _ _ h => h) (Or.inl ⟨by rfl, ?yC32⟩) hS ?_
              case yC32 => intro wx hSw; (go_simp) <;> with_reducible rfl
              simp only [Act.put, List.setIfInBounds_toArray, List.set_cons_zero, List.set_cons_succ]
              refine wpAnyH_done (by kernel_rfl) ?_ _
              refine NoPanic.normal ?_
              go_wp2_with fail
              go_ret
              exact ⟨rfl, View.more B6.out st1⟩
            | true =>
              by_cases hxy : x = y
              · have t1 : ((x : Int) == (y : Int)) = true := by simp [hxy]
                have HN := hid (show true = true ∧ true = true ∧ true = true ∧ (x = y ∨ ¬ DomR F x y) from ⟨rfl, rfl, rfl, .inl hxy⟩)
                clear hxy
                refine wp_region_noPanic ?_
                refine wp_region_held_drew (S := fun wx => Below W.heap.size W wx) (by kernel_rfl) st0 (fun hS => ?_)
                refine takeAt (i := 0) (d := some 94) (v := ?vD0) rfl (by rfl) (by kernel_rfl) (by kernel_rfl) (by kernel_rfl) (fun _ _ _ h => h) (Or.inl ⟨by rfl, ?yD0⟩) hS ?_
                case yD0 => intro wx hSw; (go_simp) <;> with_reducible rfl
                simp only [Act.put, List.setIfInBounds_toArray, List.set_cons_zero, List.set_cons_succ]
                refine takeAt (i := 1) (d := some 95) (v := ?vD1) rfl (by rfl) (by kernel_rfl) (by kernel_rfl) (by kernel_rfl) (fun _ _ _ h => h) (Or.inl ⟨by rfl, ?yD1⟩) hS ?_
                case yD1 => intro wx hSw; (go_simp) <;> with_reducible rfl
                simp only [Act.put, List.setIfInBounds_toArray, List.set_cons_zero, List.set_cons_succ]
                refine takeAt (i := 2) (d := some 96) (v := ?vD2) rfl (by rfl) (by kernel_rfl) (by kernel_rfl) (by kernel_rfl) (fun _ _ _ h => h) (Or.inl ⟨by rfl, ?yD2⟩) hS ?_
                case yD2 => intro wx hSw; (go_simp) <;> with_reducible rfl
                simp only [Act.put, List.setIfInBounds_toArray, List.set_cons_zero, List.set_cons_succ]
                refine takeAt (i := 3) (d := some 97) (v := ?vD3) rfl (by rfl) (by kernel_rfl) (by kernel_rfl) (by kernel_rfl) (fun _ _ _ h => h) (Or.inl ⟨by rfl, ?yD3⟩) hS ?_
                case yD3 => intro wx hSw; (go_simp) <;> with_reducible rfl
                simp only [Act.put, List.setIfInBounds_toArray, List.set_cons_zero, List.set_cons_succ]
                refine takeAt (i := 4) (d := some 98) (v := ?vD4) rfl (by rfl) (by kernel_rfl) (by kernel_rfl) (by kernel_rfl) (fun _ _ _ h => h) (Or.inl ⟨by rfl, ?yD4⟩) hS ?_
                case yD4 => intro wx hSw; (go_simp) <;> with_reducible rfl
                simp only [Act.put, List.setIfInBounds_toArray, List.set_cons_zero, List.set_cons_succ]
                refine takeAt (i := 6) (d := some 100) (v := ?vD6) rfl (by rfl) (by kernel_rfl) (by kernel_rfl) (by kernel_rfl) (fun _ _ _ h => h) (Or.inl ⟨by rfl, ?yD6⟩) hS ?_
                case yD6 => intro wx hSw; (go_simp) <;> with_reducible rfl
                simp only [Act.put, List.setIfInBounds_toArray, List.set_cons_zero, List.set_cons_succ]
                refine takeAt (i := 7) (d := some 101) (v := ?vD7) rfl (by rfl) (by kernel_rfl) (by kernel_rfl) (by kernel_rfl) (fun _ _ _ h => h) (Or.inl ⟨by rfl, ?yD7⟩) hS ?_
                case yD7 => intro wx hSw; (go_simp) <;> with_reducible rfl
                simp only [Act.put, List.setIfInBounds_toArray, List.set_cons_zero, List.set_cons_succ]
                refine takeAt (i := 8) (d := some 102) (v := ?vD8) rfl (by rfl) (by kernel_rfl) (by kernel_rfl) (by kernel_rfl) (fun _ _ _ h => h) (Or.inl ⟨by rfl, ?yD8⟩) hS ?_
                case yD8 => intro wx hSw; (go_simp) <;> with_reducible rfl
                simp only [Act.put, List.setIfInBounds_toArray, List.set_cons_zero, List.set_cons_succ]
                refine takeAt (i := 9) (d := some 103) (v := ?vD9) rfl (by rfl) (by kernel_rfl) (by kernel_rfl) (by kernel_rfl) (fun _ _ _ h => h) (Or.inl ⟨by rfl, ?yD9⟩) hS ?_
                case yD9 => intro wx hSw; (go_simp) <;> with_reducible rfl
                simp only [Act.put, List.setIfInBounds_toArray, List.set_cons_zero, List.set_cons_succ]
                refine wpAnyH_ready (rs := [5]) (by kernel_rfl) (by simp) ?_
                refine AllReadyH.cons rfl (fun K hK => ?_) AllReadyH.nil
                go_simp
                refine (in_any (R x) _ y _ (S6.out.on st0) hr1000).mono ?_
                rintro e wi ⟨r1, rfl, hr1, hbi⟩
                obtain rfl : r1 = true := by
                  exact hr1.2 ((ex_mem SN.out y).2 (MF.out.2 HN.out))
                have st1 : Below W.heap.size W wi := View.more st0 hbi
                clear hr1 hbi
                go_wp2_with fail
                refine hK.out _ _ st1 (fun _ => ?_)
                clear hK K
                replace hS := st1
                try simp only [Act.put, List.setIfInBounds_toArray, List.set_cons_zero, List.set_cons_succ]
                refine takeAt (i := 10) (d := some 104) (v := ?vD10) rfl (by rfl) (by kernel_rfl) (by kernel_rfl) (by kernel_rfl) (fun _ _ _ h => h) (Or.inl ⟨by rfl, ?yD10⟩) hS ?_
                case yD10 => intro wx hSw; (go_simp) <;> with_reducible rfl
                simp only [Act.put, List.setIfInBounds_toArray, List.set_cons_zero, List.set_cons_succ]
                refine takeAt (i := 11) (d := some 105) (v := ?vD11) rfl (by rfl) (by kernel_rfl) (by kernel_rfl) (by kernel_rfl) (fun _ _ _ h => h) (Or.inl ⟨by rfl, ?yD11⟩) hS ?_
                case yD11 => intro wx hSw; (go_simp) <;> with_reducible rfl
                simp only [Act.put, List.setIfInBounds_toArray, List.set_cons_zero, List.set_cons_succ]
                refine takeAt (i := 12) (d := some 106) (v := ?vD12) rfl (by rfl) (by kernel_rfl) (by kernel_rfl) (by kernel_rfl) (fun _ _ _ h => h) (Or.inl ⟨by rfl, ?yD12⟩) hS ?_
                case yD12 => intro wx hSw; (go_simp) <;> with_reducible rfl
                simp only [Act.put, List.setIfInBounds_toArray, List.set_cons_zero, List.set_cons_succ]
                refine takeAt (i := 13) (d := some 107) (v := ?vD13) rfl (by rfl) (by kernel_rfl) (by kernel_rfl) (by kernel_rfl) (fun _ _ _ h => h) (Or.inl ⟨by rfl, ?yD13⟩) hS ?_
                case yD13 => intro wx hSw; (go_simp) <;> with_reducible rfl
                simp only [Act.put, List.setIfInBounds_toArray, List.set_cons_zero, List.set_cons_succ]
                refine takeAt (i := 14) (d := some 108) (v := ?vD14) rfl (by rfl) (by kernel_rfl) (by kernel_rfl) (by kernel_rfl) (fun _ _ _ h => h) (Or.inl ⟨by rfl, ?yD14⟩) hS ?_
                case yD14 => intro wx hSw; (go_simp) <;> with_reducible rfl
                simp only [Act.put, List.setIfInBounds_toArray, List.set_cons_zero, List.set_cons_succ]
                refine takeAt (i := 15) (d := some 109) (v := ?vD15) rfl (by rfl) (by kernel_rfl) (by kernel_rfl) (by kernel_rfl) (fun _ _ _ h => h) (Or.inl ⟨by rfl, ?yD15⟩) hS ?_
                case yD15 => intro wx hSw; (go_simp) <;> with_reducible rfl
                simp only [Act.put, List.setIfInBounds_toArray, List.set_cons_zero, List.set_cons_succ]
                refine takeAt (i := 16) (d := some 110) (v := ?vD16) rfl (by rfl) (by kernel_rfl) (by kernel_rfl) (by kernel_rfl) (fun _ _ _ h => h) (Or.inl ⟨by rfl, ?yD16⟩) hS ?_
                case yD16 => intro wx hSw; (go_simp) <;> with_reducible rfl
                simp only [Act.put, List.setIfInBounds_toArray, List.set_cons_zero, List.set_cons_succ]
                refine takeAt (i := 17) (d := some 111) (v := ?vD17) rfl (by rfl) (by kernel_rfl) (by kernel_rfl) (by kernel_rfl) (fun _ _ _ h => h) (Or.inl ⟨by rfl, ?yD17⟩) hS ?_
                case yD17 => intro wx hSw; (go_simp) <;> with_reducible rfl
                simp only [Act.put, List.setIfInBounds_toArray, List.set_cons_zero, List.set_cons_succ]
                refine takeAt (i := 18) (d := some 112) (v := ?vD18) rfl (by rfl) (by kernel_rfl) (by kernel_rfl) (by kernel_rfl) (fun _ _ _ h => h) (Or.inl ⟨by rfl, ?yD18⟩) hS ?_
                case yD18 => intro wx hSw; (go_simp) <;> with_reducible rfl
                simp only [Act.put, List.setIfInBounds_toArray, List.set_cons_zero, List.set_cons_succ]
                refine takeAt (i := 19) (d := some 113) (v := ?vD19) rfl (by rfl) (by kernel_rfl) (by kernel_rfl) (by kernel_rfl) (fun _ _ _ h => h) (Or.inl ⟨by rfl, ?yD19⟩) hS ?_
                case yD19 => intro wx hSw; (go_simp) <;> with_reducible rfl
                simp only [Act.put, List.setIfInBounds_toArray, List.set_cons_zero, List.set_cons_succ]
                refine takeAt (i := 20) (d := some 114) (v := ?vD20) rfl (by rfl) (by kernel_rfl) (by kernel_rfl) (by kernel_rfl) (fun _ _ _ h => h) (Or.inl ⟨by rfl, ?yD20⟩) hS ?_
                case yD20 => intro wx hSw; (go_simp) <;> with_reducible rfl
                simp only [Act.put, List.setIfInBounds_toArray, List.set_cons_zero, List.set_cons_succ]
                refine takeAt (i := 21) (d := some 115) (v := ?vD21) rfl (by rfl) (by kernel_rfl) (by kernel_rfl) (by kernel_rfl) (fun _ _ _ h => h) (Or.inl ⟨by rfl, ?yD21⟩) hS ?_
                case yD21 => intro wx hSw; (go_simp) <;> with_reducible rfl
                simp only [Act.put, List.setIfInBounds_toArray, List.set_cons_zero, List.set_cons_succ]
                refine takeAt (i := 22) (d := some 116) (v := ?vD22) rfl (by rfl) (by kernel_rfl) (by kernel_rfl) (by kernel_rfl) (fun _ _ _ h => h) (Or.inl ⟨by rfl, ?yD22⟩) hS ?_
                case yD22 => intro wx hSw; (go_simp) <;> with_reducible rfl
                simp only [Act.put, List.setIfInBounds_toArray, List.set_cons_zero, List.set_cons_succ]
                refine takeAt (i := 23) (d := some 117) (v := ?vD23) rfl (by rfl) (by kernel_rfl) (by kernel_rfl) (by kernel_rfl) (fun _ _ _ h => h) (Or.inl ⟨by rfl, ?yD23⟩) hS ?_
                case yD23 => intro wx hSw; (go_simp) <;> with_reducible rfl
                simp only [Act.put, List.setIfInBounds_toArray, List.set_cons_zero, List.set_cons_succ]
                refine takeAt (i := 24) (d := some 118) (v := undef) rfl (by rfl) (by kernel_rfl) (by kernel_rfl) (by kernel_rfl) (fun _ _ _ h => h) (Or.inr ⟨by rfl, rfl⟩) hS ?_
                simp only [Act.put, List.setIfInBounds_toArray, List.set_cons_zero, List.set_cons_succ]
                refine takeAt (i := 25) (d := some 119) (v := undef) rfl (by rfl) (by kernel_rfl) (by kernel_rfl) (by kernel_rfl) (fun _ _ _ h => h) (Or.inr ⟨by rfl, rfl⟩) hS ?_
                simp only [Act.put, List.setIfInBounds_toArray, List.set_cons_zero, List.set_cons_succ]
                refine takeAt (i := 26) (d := some 120) (v := undef) rfl (by rfl) (by kernel_rfl) (by kernel_rfl) (by kernel_rfl) (fun _ _ _ h => h) (Or.inr ⟨by rfl, rfl⟩) hS ?_
                simp only [Act.put, List.setIfInBounds_toArray, List.set_cons_zero, List.set_cons_succ]
                refine takeAt (i := 27) (d := some 121) (v := undef) rfl (by rfl) (by kernel_rfl) (by kernel_rfl) (by kernel_rfl) (fun _ _ _ h => h) (Or.inr ⟨by rfl, rfl⟩) hS ?_
                simp only [Act.put, List.setIfInBounds_toArray, List.set_cons_zero, List.set_cons_succ]
                refine takeAt (i := 28) (d := some 122) (v := undef) rfl (by rfl) (by kernel_rfl) (by kernel_rfl) (by kernel_rfl) (fun _ _ _ h => h) (Or.inr ⟨by rfl, rfl⟩) hS ?_
                simp only [Act.put, List.setIfInBounds_toArray, List.set_cons_zero, List.set_cons_succ]
                refine takeAt (i := 29) (d := some 123) (v := ?vD29) rfl (by rfl) (by kernel_rfl) (by kernel_rfl) (by kernel_rfl) (fun _ _ _ h => h) (Or.inl ⟨by rfl, ?yD29⟩) hS ?_
                case yD29 => intro wx hSw; (go_simp) <;> with_reducible rfl
                simp only [Act.put, List.setIfInBounds_toArray, List.set_cons_zero, List.set_cons_succ]
                refine takeAt (i := 30) (d := some 124) (v := ?vD30) rfl (by rfl) (by kernel_rfl) (by kernel_rfl) (by kernel_rfl) (fun _ _ _ h => h) (Or.inl ⟨by rfl, ?yD30⟩) hS ?_
                case yD30 => intro wx hSw; (go_simp) <;> with_reducible rfl
                simp only [Act.put, List.setIfInBounds_toArray, List.set_cons_zero, List.set_cons_succ]
                refine takeAt (i := 31) (d := some 125) (v := ?vD31) rfl (by rfl) (by kernel_rfl) (by kernel_rfl) (by kernel_rfl) (fun _ _ _ h => h) (Or.inl ⟨by rfl, ?yD31⟩) hS ?_
                case yD31 => intro wx hSw; (go_simp) <;> with_reducible rfl
                simp only [Act.put, List.setIfInBounds_toArray, List.set_cons_zero, List.set_cons_succ]
                refine takeAt (i := 32) (d := some 6) (v := ?vD32) rfl (by rfl) (by kernel_rfl) (by kernel_rfl) (by kernel_rfl) (fun _ _ _ h => h) (Or.inl ⟨by rfl, ?yD32⟩) hS ?_
                case yD32 => intro wx hSw; (go_simp) <;> with_reducible rfl
                simp only [Act.put, List.setIfInBounds_toArray, List.set_cons_zero, List.set_cons_succ]
                refine wpAnyH_done (by kernel_rfl) ?_ _
                refine NoPanic.normal ?_
                go_wp2_with fail
                go_ret
                exact ⟨rfl, View.more B6.out st1⟩
              have t1 : ((x : Int) == (y : Int)) = false := by simp; omega
              by_cases hd : DomR F x y
              · have HN := hid (show ¬ (true = true ∧ true = true ∧ true = true ∧ (x = y ∨ ¬ DomR F x y)) from fun h => by
                  rcases h.2.2.2 with z | z
                  · exact hxy z
                  · exact z hd)
                have HD := hid hd
                clear hd hxy
                refine wp_region_noPanic ?_
                refine wp_region_held_drew (S := fun wx => Below W.heap.size W wx) (by kernel_rfl) st0 (fun hS => ?_)
                refine takeAt (i := 0) (d := some 94) (v := ?vE0) rfl (by rfl) (by kernel_rfl) (by kernel_rfl) (by kernel_rfl) (fun _ _ _ h => h) (Or.inl ⟨by rfl, ?yE0⟩) hS ?_
                case yE0 => intro wx hSw; (go_simp) <;> with_reducible rfl
                simp only [Act.put, List.setIfInBounds_toArray, List.set_cons_zero, List.set_cons_succ]
                refine takeAt (i := 1) (d := some 95) (v := ?vE1) rfl (by rfl) (by kernel_rfl) (by kernel_rfl) (by kernel_rfl) (fun _ _ _ h => h) (Or.inl ⟨by rfl, ?yE1⟩) hS ?_
                case yE1 => intro wx hSw; (go_simp) <;> with_reducible rfl
                simp only [Act.put, List.setIfInBounds_toArray, List.set_cons_zero, List.set_cons_succ]
                refine takeAt (i := 2) (d := some 96) (v := ?vE2) rfl (by rfl) (by kernel_rfl) (by kernel_rfl) (by kernel_rfl) (fun _ _ _ h => h) (Or.inl ⟨by rfl, ?yE2⟩) hS ?_
                case yE2 => intro wx hSw; (go_simp) <;> with_reducible rfl
                simp only [Act.put, List.setIfInBounds_toArray, List.set_cons_zero, List.set_cons_succ]
                refine takeAt (i := 3) (d := some 97) (v := ?vE3) rfl (by rfl) (by kernel_rfl) (by kernel_rfl) (by kernel_rfl) (fun _ _ _ h => h) (Or.inl ⟨by rfl, ?yE3⟩) hS ?_
                case yE3 => intro wx hSw; (go_simp) <;> with_reducible rfl
                simp only [Act.put, List.setIfInBounds_toArray, List.set_cons_zero, List.set_cons_succ]
                refine takeAt (i := 4) (d := some 98) (v := ?vE4) rfl (by rfl) (by kernel_rfl) (by kernel_rfl) (by kernel_rfl) (fun _ _ _ h => h) (Or.inl ⟨by rfl, ?yE4⟩) hS ?_
                case yE4 => intro wx hSw; (go_simp) <;> with_reducible rfl
                simp only [Act.put, List.setIfInBounds_toArray, List.set_cons_zero, List.set_cons_succ]
                refine takeAt (i := 6) (d := some 100) (v := ?vE6) rfl (by rfl) (by kernel_rfl) (by kernel_rfl) (by kernel_rfl) (fun _ _ _ h => h) (Or.inl ⟨by rfl, ?yE6⟩) hS ?_
                case yE6 => intro wx hSw; (go_simp) <;> with_reducible rfl
                simp only [Act.put, List.setIfInBounds_toArray, List.set_cons_zero, List.set_cons_succ]
                refine takeAt (i := 7) (d := some 101) (v := ?vE7) rfl (by rfl) (by kernel_rfl) (by kernel_rfl) (by kernel_rfl) (fun _ _ _ h => h) (Or.inl ⟨by rfl, ?yE7⟩) hS ?_
                case yE7 => intro wx hSw; (go_simp) <;> with_reducible rfl
                simp only [Act.put, List.setIfInBounds_toArray, List.set_cons_zero, List.set_cons_succ]
                refine takeAt (i := 8) (d := some 102) (v := ?vE8) rfl (by rfl) (by kernel_rfl) (by kernel_rfl) (by kernel_rfl) (fun _ _ _ h => h) (Or.inl ⟨by rfl, ?yE8⟩) hS ?_
                case yE8 => intro wx hSw; (go_simp) <;> with_reducible rfl
                simp only [Act.put, List.setIfInBounds_toArray, List.set_cons_zero, List.set_cons_succ]
                refine takeAt (i := 9) (d := some 103) (v := ?vE9) rfl (by rfl) (by kernel_rfl) (by kernel_rfl) (by kernel_rfl) (fun _ _ _ h => h) (Or.inl ⟨by rfl, ?yE9⟩) hS ?_
                case yE9 => intro wx hSw; (go_simp) <;> with_reducible rfl
                simp only [Act.put, List.setIfInBounds_toArray, List.set_cons_zero, List.set_cons_succ]
                refine wpAnyH_ready (rs := [5]) (by kernel_rfl) (by simp) ?_
                refine AllReadyH.cons rfl (fun K hK => ?_) AllReadyH.nil
                go_simp
                refine (in_any (R x) _ y _ (S6.out.on st0) hr1000).mono ?_
                rintro e wi ⟨r1, rfl, hr1, hbi⟩
                obtain rfl : r1 = false := by
                  cases r1 with
                  | false => rfl
                  | true => exact absurd (MF.out.1 ((ex_mem SN.out y).1 (hr1.1 rfl))) HN.out
                have st1 : Below W.heap.size W wi := View.more st0 hbi
                clear hr1 hbi
                go_wp2_with fail
                refine hK.out _ _ st1 (fun _ => ?_)
                clear hK K
                replace hS := st1
                try simp only [Act.put, List.setIfInBounds_toArray, List.set_cons_zero, List.set_cons_succ]
                refine takeAt (i := 10) (d := some 104) (v := ?vE10) rfl (by rfl) (by kernel_rfl) (by kernel_rfl) (by kernel_rfl) (fun _ _ _ h => h) (Or.inl ⟨by rfl, ?yE10⟩) hS ?_
                case yE10 => intro wx hSw; (go_simp) <;> with_reducible rfl
                simp only [Act.put, List.setIfInBounds_toArray, List.set_cons_zero, List.set_cons_succ]
                refine takeAt (i := 11) (d := some 105) (v := ?vE11) rfl (by rfl) (by kernel_rfl) (by kernel_rfl) (by kernel_rfl) (fun _ _ _ h => h) (Or.inl ⟨by rfl, ?yE11⟩) hS ?_
                case yE11 => intro wx hSw; (go_simp) <;> with_reducible rfl
                simp only [Act.put, List.setIfInBounds_toArray, List.set_cons_zero, List.set_cons_succ]
                refine takeAt (i := 12) (d := some 106) (v := ?vE12) rfl (by rfl) (by kernel_rfl) (by kernel_rfl) (by kernel_rfl) (fun _ _ _ h => h) (Or.inl ⟨by rfl, ?yE12⟩) hS ?_
                case yE12 => intro wx hSw; (go_simp) <;> with_reducible rfl
                simp only [Act.put, List.setIfInBounds_toArray, List.set_cons_zero, List.set_cons_succ]
                refine takeAt (i := 13) (d := some 107) (v := ?vE13) rfl (by rfl) (by kernel_rfl) (by kernel_rfl) (by kernel_rfl) (fun _ _ _ h => h) (Or.inl ⟨by rfl, ?yE13⟩) hS ?_
                case yE13 => intro wx hSw; (go_simp) <;> with_reducible rfl
                simp only [Act.put, List.setIfInBounds_toArray, List.set_cons_zero, List.set_cons_succ]
                refine takeAt (i := 14) (d := some 108) (v := ?vE14) rfl (by rfl) (by kernel_rfl) (by kernel_rfl) (by kernel_rfl) (fun _ _ _ h => h) (Or.inl ⟨by rfl, ?yE14⟩) hS ?_
                case yE14 => intro wx hSw; (go_simp) <;> with_reducible rfl
                simp only [Act.put, List.setIfInBounds_toArray, List.set_cons_zero, List.set_cons_succ]
                refine takeAt (i := 15) (d := some 109) (v := ?vE15) rfl (by rfl) (by kernel_rfl) (by kernel_rfl) (by kernel_rfl) (fun _ _ _ h => h) (Or.inl ⟨by rfl, ?yE15⟩) hS ?_
                case yE15 => intro wx hSw; (go_simp) <;> with_reducible rfl
                simp only [Act.put, List.setIfInBounds_toArray, List.set_cons_zero, List.set_cons_succ]
                refine takeAt (i := 16) (d := some 110) (v := ?vE16) rfl (by rfl) (by kernel_rfl) (by kernel_rfl) (by kernel_rfl) (fun _ _ _ h => h) (Or.inl ⟨by rfl, ?yE16⟩) hS ?_
                case yE16 => intro wx hSw; (go_simp) <;> with_reducible rfl
                simp only [Act.put, List.setIfInBounds_toArray, List.set_cons_zero, List.set_cons_succ]
                refine takeAt (i := 17) (d := some 111) (v := ?vE17) rfl (by rfl) (by kernel_rfl) (by kernel_rfl) (by kernel_rfl) (fun _ _ _ h => h) (Or.inl ⟨by rfl, ?yE17⟩) hS ?_
                case yE17 => intro wx hSw; (go_simp) <;> with_reducible rfl
                simp only [Act.put, List.setIfInBounds_toArray, List.set_cons_zero, List.set_cons_succ]
                refine takeAt (i := 18) (d := some 112) (v := ?vE18) rfl (by rfl) (by kernel_rfl) (by kernel_rfl) (by kernel_rfl) (fun _ _ _ h => h) (Or.inl ⟨by rfl, ?yE18⟩) hS ?_
                case yE18 => intro wx hSw; (go_simp) <;> with_reducible rfl
                simp only [Act.put, List.setIfInBounds_toArray, List.set_cons_zero, List.set_cons_succ]
                refine takeAt (i := 19) (d := some 113) (v := ?vE19) rfl (by rfl) (by kernel_rfl) (by kernel_rfl) (by kernel_rfl) (fun _ _ _ h => h) (Or.inl ⟨by rfl, ?yE19⟩) hS ?_
                case yE19 => intro wx hSw; (go_simp) <;> with_reducible rfl
                simp only [Act.put, List.setIfInBounds_toArray, List.set_cons_zero, List.set_cons_succ]
                refine takeAt (i := 20) (d := some 114) (v := ?vE20) rfl (by rfl) (by kernel_rfl) (by kernel_rfl) (by kernel_rfl) (fun _ _ _ h => h) (Or.inl ⟨by rfl, ?yE20⟩) hS ?_
                case yE20 => intro wx hSw; (go_simp) <;> with_reducible rfl
                simp only [Act.put, List.setIfInBounds_toArray, List.set_cons_zero, List.set_cons_succ]
                refine takeAt (i := 21) (d := some 115) (v := ?vE21) rfl (by rfl) (by kernel_rfl) (by kernel_rfl) (by kernel_rfl) (fun _ _ _ h => h) (Or.inl ⟨by rfl, ?yE21⟩) hS ?_
                case yE21 => intro wx hSw; (go_simp) <;> with_reducible rfl
                simp only [Act.put, List.setIfInBounds_toArray, List.set_cons_zero, List.set_cons_succ]
                refine takeAt (i := 22) (d := some 116) (v := ?vE22) rfl (by rfl) (by kernel_rfl) (by kernel_rfl) (by kernel_rfl) (fun _ _ _ h => h) (Or.inl ⟨by rfl, ?yE22⟩) hS ?_
                case yE22 => intro wx hSw; (go_simp) <;> with_reducible rfl
                simp only [Act.put, List.setIfInBounds_toArray, List.set_cons_zero, List.set_cons_succ]
                refine takeAt (i := 23) (d := some 117) (v := ?vE23) rfl (by rfl) (by kernel_rfl) (by kernel_rfl) (by kernel_rfl) (fun _ _ _ h => h) (Or.inl ⟨by rfl, ?yE23⟩) hS ?_
                case yE23 => intro wx hSw; (go_simp) <;> with_reducible rfl
                simp only [Act.put, List.setIfInBounds_toArray, List.set_cons_zero, List.set_cons_succ]
                refine takeAt (i := 24) (d := some 118) (v := ?vE24) rfl (by rfl) (by kernel_rfl) (by kernel_rfl) (by kernel_rfl) (fun _ _ _ h => h) (Or.inl ⟨by rfl, ?yE24⟩) hS ?_
                case yE24 => intro wx hSw; (go_simp) <;> with_reducible rfl
                simp only [Act.put, List.setIfInBounds_toArray, List.set_cons_zero, List.set_cons_succ]
                refine takeAt (i := 25) (d := some 119) (v := ?vE25) rfl (by rfl) (by kernel_rfl) (by kernel_rfl) (by kernel_rfl) (fun _ _ _ h => h) (Or.inl ⟨by rfl, ?yE25⟩) hS ?_
                case yE25 => intro wx hSw; (go_simp) <;> with_reducible rfl
                simp only [Act.put, List.setIfInBounds_toArray, List.set_cons_zero, List.set_cons_succ]
                refine takeAt (i := 26) (d := some 120) (v := ?vE26) rfl (by rfl) (by kernel_rfl) (by kernel_rfl) (by kernel_rfl) (fun _ _ _ h => h) (Or.inl ⟨by rfl, ?yE26⟩) hS ?_
                case yE26 => intro wx hSw; (go_simp) <;> with_reducible rfl
                simp only [Act.put, List.setIfInBounds_toArray, List.set_cons_zero, List.set_cons_succ]
                refine wpAnyH_ready (rs := [27]) (by kernel_rfl) (by simp) ?_
                refine AllReadyH.cons rfl (fun K hK => ?_) AllReadyH.nil
                go_simp
                refine (dom_any F x y _ (I6.out.on st1) HL.out HJ.out).mono ?_
                rintro e wd ⟨pd, rfl, hpd, hbd⟩
                obtain rfl : pd = true := by
                  exact (ans_dom hx hy hpd).2 HD.out
                have st2 : Below W.heap.size W wd := View.more st1 hbd
                clear hpd hbd
                go_wp2_with fail
                refine hK.out _ _ st2 (fun _ => ?_)
                clear hK K
                replace hS := st2
                try simp only [Act.put, List.setIfInBounds_toArray, List.set_cons_zero, List.set_cons_succ]
                refine takeAt (i := 28) (d := some 122) (v := ?vE28) rfl (by rfl) (by kernel_rfl) (by kernel_rfl) (by kernel_rfl) (fun _ _ _ h => h) (Or.inl ⟨by rfl, ?yE28⟩) hS ?_
                case yE28 => intro wx hSw; (go_simp) <;> with_reducible rfl
                simp only [Act.put, List.setIfInBounds_toArray, List.set_cons_zero, List.set_cons_succ]
                refine takeAt (i := 29) (d := some 123) (v := ?vE29) rfl (by rfl) (by kernel_rfl) (by kernel_rfl) (by kernel_rfl) (fun _ _ _ h => h) (Or.inl ⟨by rfl, ?yE29⟩) hS ?_
                case yE29 => intro wx hSw; (go_simp) <;> with_reducible rfl
                simp only [Act.put, List.setIfInBounds_toArray, List.set_cons_zero, List.set_cons_succ]
                refine takeAt (i := 30) (d := some 124) (v := ?vE30) rfl (by rfl) (by kernel_rfl) (by kernel_rfl) (by kernel_rfl) (fun _ _ _ h => h) (Or.inl ⟨by rfl, ?yE30⟩) hS ?_
                case yE30 => intro wx hSw; (go_simp) <;> with_reducible rfl
                simp only [Act.put, List.setIfInBounds_toArray, List.set_cons_zero, List.set_cons_succ]
                refine takeAt (i := 31) (d := some 125) (v := ?vE31) rfl (by rfl) (by kernel_rfl) (by kernel_rfl) (by kernel_rfl) (fun _ _ _ h => h) (Or.inl ⟨by rfl, ?yE31⟩) hS ?_
                case yE31 => intro wx hSw; (go_simp) <;> with_reducible rfl
                simp only [Act.put, List.setIfInBounds_toArray, List.set_cons_zero, List.set_cons_succ]
                refine takeAt (i := 32) (d := some 6) (v := ?vE32) rfl (by rfl) (by kernel_rfl) (by kernel_rfl) (by kernel_rfl) (fun _ _ _ h => h) (Or.inl ⟨by rfl, ?yE32⟩) hS ?_
                case yE32 => intro wx hSw; (go_simp) <;> with_reducible rfl
                simp only [Act.put, List.setIfInBounds_toArray, List.set_cons_zero, List.set_cons_succ]
                refine wpAnyH_done (by kernel_rfl) ?_ _
                refine NoPanic.normal ?_
                go_wp2_with fail
                go_ret
                exact ⟨rfl, View.more B6.out st2⟩
              · have HN := hid (show true = true ∧ true = true ∧ true = true ∧ (x = y ∨ ¬ DomR F x y) from ⟨rfl, rfl, rfl, .inr hd⟩)
                have HD := hid hd
                clear hd hxy
                refine wp_region_noPanic ?_
                refine wp_region_held_drew (S := fun wx => Below W.heap.size W wx) (by kernel_rfl) st0 (fun hS => ?_)
                refine takeAt (i := 0) (d := some 94) (v := ?vG0) rfl (by rfl) (by kernel_rfl) (by kernel_rfl) (by kernel_rfl) (fun _ _ _ h => h) (Or.inl ⟨by rfl, ?yG0⟩) hS ?_
                case yG0 => intro wx hSw; (go_simp) <;> with_reducible rfl
                simp only [Act.put, List.setIfInBounds_toArray, List.set_cons_zero, List.set_cons_succ]
                refine takeAt (i := 1) (d := some 95) (v := ?vG1) rfl (by rfl) (by kernel_rfl) (by kernel_rfl) (by kernel_rfl) (fun _ _ _ h => h) (Or.inl ⟨by rfl, ?yG1⟩) hS ?_
                case yG1 => intro wx hSw; (go_simp) <;> with_reducible rfl
                simp only [Act.put, List.setIfInBounds_toArray, List.set_cons_zero, List.set_cons_succ]
                refine takeAt (i := 2) (d := some 96) (v := ?vG2) rfl (by rfl) (by kernel_rfl) (by kernel_rfl) (by kernel_rfl) (fun _ _ _ h => h) (Or.inl ⟨by rfl, ?yG2⟩) hS ?_
                case yG2 => intro wx hSw; (go_simp) <;> with_reducible rfl
                simp only [Act.put, List.setIfInBounds_toArray, List.set_cons_zero, List.set_cons_succ]
                refine takeAt (i := 3) (d := some 97) (v := ?vG3) rfl (by rfl) (by kernel_rfl) (by kernel_rfl) (by kernel_rfl) (fun _ _ _ h => h) (Or.inl ⟨by rfl, ?yG3⟩) hS ?_
                case yG3 => intro wx hSw; (go_simp) <;> with_reducible rfl
                simp only [Act.put, List.setIfInBounds_toArray, List.set_cons_zero, List.set_cons_succ]
                refine takeAt (i := 4) (d := some 98) (v := ?vG4) rfl (by rfl) (by kernel_rfl) (by kernel_rfl) (by kernel_rfl) (fun _ _ _ h => h) (Or.inl ⟨by rfl, ?yG4⟩) hS ?_
                case yG4 => intro wx hSw; (go_simp) <;> with_reducible rfl
                simp only [Act.put, List.setIfInBounds_toArray, List.set_cons_zero, List.set_cons_succ]
                refine takeAt (i := 6) (d := some 100) (v := ?vG6) rfl (by rfl) (by kernel_rfl) (by kernel_rfl) (by kernel_rfl) (fun _ _ _ h => h) (Or.inl ⟨by rfl, ?yG6⟩) hS ?_
                case yG6 => intro wx hSw; (go_simp) <;> with_reducible rfl
                simp only [Act.put, List.setIfInBounds_toArray, List.set_cons_zero, List.set_cons_succ]
                refine takeAt (i := 7) (d := some 101) (v := ?vG7) rfl (by rfl) (by kernel_rfl) (by kernel_rfl) (by kernel_rfl) (fun _ _ _ h => h) (Or.inl ⟨by rfl, ?yG7⟩) hS ?_
                case yG7 => intro wx hSw; (go_simp) <;> with_reducible rfl
                simp only [Act.put, List.setIfInBounds_toArray, List.set_cons_zero, List.set_cons_succ]
                refine takeAt (i := 8) (d := some 102) (v := ?vG8) rfl (by rfl) (by kernel_rfl) (by kernel_rfl) (by kernel_rfl) (fun _ _ _ h => h) (Or.inl ⟨by rfl, ?yG8⟩) hS ?_
                case yG8 => intro wx hSw; (go_simp) <;> with_reducible rfl
                simp only [Act.put, List.setIfInBounds_toArray, List.set_cons_zero, List.set_cons_succ]
                refine takeAt (i := 9) (d := some 103) (v := ?vG9) rfl (by rfl) (by kernel_rfl) (by kernel_rfl) (by kernel_rfl) (fun _ _ _ h => h) (Or.inl ⟨by rfl, ?yG9⟩) hS ?_
                case yG9 => intro wx hSw; (go_simp) <;> with_reducible rfl
                simp only [Act.put, List.setIfInBounds_toArray, List.set_cons_zero, List.set_cons_succ]
                refine wpAnyH_ready (rs := [5]) (by kernel_rfl) (by simp) ?_
                refine AllReadyH.cons rfl (fun K hK => ?_) AllReadyH.nil
                go_simp
                refine (in_any (R x) _ y _ (S6.out.on st0) hr1000).mono ?_
                rintro e wi ⟨r1, rfl, hr1, hbi⟩
                obtain rfl : r1 = true := by
                  exact hr1.2 ((ex_mem SN.out y).2 (MF.out.2 HN.out))
                have st1 : Below W.heap.size W wi := View.more st0 hbi
                clear hr1 hbi
                go_wp2_with fail
                refine hK.out _ _ st1 (fun _ => ?_)
                clear hK K
                replace hS := st1
                try simp only [Act.put, List.setIfInBounds_toArray, List.set_cons_zero, List.set_cons_succ]
                refine takeAt (i := 10) (d := some 104) (v := ?vG10) rfl (by rfl) (by kernel_rfl) (by kernel_rfl) (by kernel_rfl) (fun _ _ _ h => h) (Or.inl ⟨by rfl, ?yG10⟩) hS ?_
                case yG10 => intro wx hSw; (go_simp) <;> with_reducible rfl
                simp only [Act.put, List.setIfInBounds_toArray, List.set_cons_zero, List.set_cons_succ]
                refine takeAt (i := 11) (d := some 105) (v := ?vG11) rfl (by rfl) (by kernel_rfl) (by kernel_rfl) (by kernel_rfl) (fun _ _ _ h => h) (Or.inl ⟨by rfl, ?yG11⟩) hS ?_
                case yG11 => intro wx hSw; (go_simp) <;> with_reducible rfl
                simp only [Act.put, List.setIfInBounds_toArray, List.set_cons_zero, List.set_cons_succ]
                refine takeAt (i := 12) (d := some 106) (v := ?vG12) rfl (by rfl) (by kernel_rfl) (by kernel_rfl) (by kernel_rfl) (fun _ _ _ h => h) (Or.inl ⟨by rfl, ?yG12⟩) hS ?_
                case yG12 => intro wx hSw; (go_simp) <;> with_reducible rfl
                simp only [Act.put, List.setIfInBounds_toArray, List.set_cons_zero, List.set_cons_succ]
                refine takeAt (i := 13) (d := some 107) (v := ?vG13) rfl (by rfl) (by kernel_rfl) (by kernel_rfl) (by kernel_rfl) (fun _ _ _ h => h) (Or.inl ⟨by rfl, ?yG13⟩) hS ?_
                case yG13 => intro wx hSw; (go_simp) <;> with_reducible rfl
                simp only [Act.put, List.setIfInBounds_toArray, List.set_cons_zero, List.set_cons_succ]
                refine takeAt (i := 14) (d := some 108) (v := ?vG14) rfl (by rfl) (by kernel_rfl) (by kernel_rfl) (by kernel_rfl) (fun _ _ _ h => h) (Or.inl ⟨by rfl, ?yG14⟩) hS ?_
                case yG14 => intro wx hSw; (go_simp) <;> with_reducible rfl
                simp only [Act.put, List.setIfInBounds_toArray, List.set_cons_zero, List.set_cons_succ]
                refine takeAt (i := 15) (d := some 109) (v := ?vG15) rfl (by rfl) (by kernel_rfl) (by kernel_rfl) (by kernel_rfl) (fun _ _ _ h => h) (Or.inl ⟨by rfl, ?yG15⟩) hS ?_
                case yG15 => intro wx hSw; (go_simp) <;> with_reducible rfl
                simp only [Act.put, List.setIfInBounds_toArray, List.set_cons_zero, List.set_cons_succ]
                refine takeAt (i := 16) (d := some 110) (v := ?vG16) rfl (by rfl) (by kernel_rfl) (by kernel_rfl) (by kernel_rfl) (fun _ _ _ h => h) (Or.inl ⟨by rfl, ?yG16⟩) hS ?_
                case yG16 => intro wx hSw; (go_simp) <;> with_reducible rfl
                simp only [Act.put, List.setIfInBounds_toArray, List.set_cons_zero, List.set_cons_succ]
                refine takeAt (i := 17) (d := some 111) (v := ?vG17) rfl (by rfl) (by kernel_rfl) (by kernel_rfl) (by kernel_rfl) (fun _ _ _ h => h) (Or.inl ⟨by rfl, ?yG17⟩) hS ?_
                case yG17 => intro wx hSw; (go_simp) <;> with_reducible rfl
                simp only [Act.put, List.setIfInBounds_toArray, List.set_cons_zero, List.set_cons_succ]
                refine takeAt (i := 18) (d := some 112) (v := ?vG18) rfl (by rfl) (by kernel_rfl) (by kernel_rfl) (by kernel_rfl) (fun _ _ _ h => h) (Or.inl ⟨by rfl, ?yG18⟩) hS ?_
                case yG18 => intro wx hSw; (go_simp) <;> with_reducible rfl
                simp only [Act.put, List.setIfInBounds_toArray, List.set_cons_zero, List.set_cons_succ]
                refine takeAt (i := 19) (d := some 113) (v := ?vG19) rfl (by rfl) (by kernel_rfl) (by kernel_rfl) (by kernel_rfl) (fun _ _ _ h => h) (Or.inl ⟨by rfl, ?yG19⟩) hS ?_
                case yG19 => intro wx hSw; (go_simp) <;> with_reducible rfl
                simp only [Act.put, List.setIfInBounds_toArray, List.set_cons_zero, List.set_cons_succ]
                refine takeAt (i := 20) (d := some 114) (v := ?vG20) rfl (by rfl) (by kernel_rfl) (by kernel_rfl) (by kernel_rfl) (fun _ _ _ h => h) (Or.inl ⟨by rfl, ?yG20⟩) hS ?_
                case yG20 => intro wx hSw; (go_simp) <;> with_reducible rfl
                simp only [Act.put, List.setIfInBounds_toArray, List.set_cons_zero, List.set_cons_succ]
                refine takeAt (i := 21) (d := some 115) (v := ?vG21) rfl (by rfl) (by kernel_rfl) (by kernel_rfl) (by kernel_rfl) (fun _ _ _ h => h) (Or.inl ⟨by rfl, ?yG21⟩) hS ?_
                case yG21 => intro wx hSw; (go_simp) <;> with_reducible rfl
                simp only [Act.put, List.setIfInBounds_toArray, List.set_cons_zero, List.set_cons_succ]
                refine takeAt (i := 22) (d := some 116) (v := ?vG22) rfl (by rfl) (by kernel_rfl) (by kernel_rfl) (by kernel_rfl) (fun _ _ _ h => h) (Or.inl ⟨by rfl, ?yG22⟩) hS ?_
                case yG22 => intro wx hSw; (go_simp) <;> with_reducible rfl
                simp only [Act.put, List.setIfInBounds_toArray, List.set_cons_zero, List.set_cons_succ]
                refine takeAt (i := 23) (d := some 117) (v := ?vG23) rfl (by rfl) (by kernel_rfl) (by kernel_rfl) (by kernel_rfl) (fun _ _ _ h => h) (Or.inl ⟨by rfl, ?yG23⟩) hS ?_
                case yG23 => intro wx hSw; (go_simp) <;> with_reducible rfl
                simp only [Act.put, List.setIfInBounds_toArray, List.set_cons_zero, List.set_cons_succ]
                refine takeAt (i := 24) (d := some 118) (v := ?vG24) rfl (by rfl) (by kernel_rfl) (by kernel_rfl) (by kernel_rfl) (fun _ _ _ h => h) (Or.inl ⟨by rfl, ?yG24⟩) hS ?_
                case yG24 => intro wx hSw; (go_simp) <;> with_reducible rfl
                simp only [Act.put, List.setIfInBounds_toArray, List.set_cons_zero, List.set_cons_succ]
                refine takeAt (i := 25) (d := some 119) (v := ?vG25) rfl (by rfl) (by kernel_rfl) (by kernel_rfl) (by kernel_rfl) (fun _ _ _ h => h) (Or.inl ⟨by rfl, ?yG25⟩) hS ?_
                case yG25 => intro wx hSw; (go_simp) <;> with_reducible rfl
                simp only [Act.put, List.setIfInBounds_toArray, List.set_cons_zero, List.set_cons_succ]
                refine takeAt (i := 26) (d := some 120) (v := ?vG26) rfl (by rfl) (by kernel_rfl) (by kernel_rfl) (by kernel_rfl) (fun _ _ _ h => h) (Or.inl ⟨by rfl, ?yG26⟩) hS ?_
                case yG26 => intro wx hSw; (go_simp) <;> with_reducible rfl
                simp only [Act.put, List.setIfInBounds_toArray, List.set_cons_zero, List.set_cons_succ]
                refine wpAnyH_ready (rs := [27]) (by kernel_rfl) (by simp) ?_
                refine AllReadyH.cons rfl (fun K hK => ?_) AllReadyH.nil
                go_simp
                refine (dom_any F x y _ (I6.out.on st1) HL.out HJ.out).mono ?_
                rintro e wd ⟨pd, rfl, hpd, hbd⟩
                obtain rfl : pd = false := by
                  cases pd with
                  | false => rfl
                  | true => exact absurd ((ans_dom hx hy hpd).1 rfl) HD.out
                have st2 : Below W.heap.size W wd := View.more st1 hbd
                clear hpd hbd
                go_wp2_with fail
                refine hK.out _ _ st2 (fun _ => ?_)
                clear hK K
                replace hS := st2
                try simp only [Act.put, List.setIfInBounds_toArray, List.set_cons_zero, List.set_cons_succ]
                refine takeAt (i := 28) (d := some 122) (v := ?vG28) rfl (by rfl) (by kernel_rfl) (by kernel_rfl) (by kernel_rfl) (fun _ _ _ h => h) (Or.inl ⟨by rfl, ?yG28⟩) hS ?_
                case yG28 => intro wx hSw; (go_simp) <;> with_reducible rfl
                simp only [Act.put, List.setIfInBounds_toArray, List.set_cons_zero, List.set_cons_succ]
                refine takeAt (i := 29) (d := some 123) (v := ?vG29) rfl (by rfl) (by kernel_rfl) (by kernel_rfl) (by kernel_rfl) (fun _ _ _ h => h) (Or.inl ⟨by rfl, ?yG29⟩) hS ?_
                case yG29 => intro wx hSw; (go_simp) <;> with_reducible rfl
                simp only [Act.put, List.setIfInBounds_toArray, List.set_cons_zero, List.set_cons_succ]
                refine takeAt (i := 30) (d := some 124) (v := ?vG30) rfl (by rfl) (by kernel_rfl) (by kernel_rfl) (by kernel_rfl) (fun _ _ _ h => h) (Or.inl ⟨by rfl, ?yG30⟩) hS ?_
                case yG30 => intro wx hSw; (go_simp) <;> with_reducible rfl
                simp only [Act.put, List.setIfInBounds_toArray, List.set_cons_zero, List.set_cons_succ]
                refine takeAt (i := 31) (d := some 125) (v := ?vG31) rfl (by rfl) (by kernel_rfl) (by kernel_rfl) (by kernel_rfl) (fun _ _ _ h => h) (Or.inl ⟨by rfl, ?yG31⟩) hS ?_
                case yG31 => intro wx hSw; (go_simp) <;> with_reducible rfl
                simp only [Act.put, List.setIfInBounds_toArray, List.set_cons_zero, List.set_cons_succ]
                refine takeAt (i := 32) (d := some 6) (v := ?vG32) rfl (by rfl) (by kernel_rfl) (by kernel_rfl) (by kernel_rfl) (fun _ _ _ h => h) (Or.inl ⟨by rfl, ?yG32⟩) hS ?_
                case yG32 => intro wx hSw; (go_simp) <;> with_reducible rfl
                simp only [Act.put, List.setIfInBounds_toArray, List.set_cons_zero, List.set_cons_succ]
                refine wpAnyH_done (by kernel_rfl) ?_ _
                refine NoPanic.normal ?_
                go_wp2_with fail
                go_ret
                exact ⟨rfl, View.more B6.out st2⟩

end Go.Proofs.Ytahjippocejphaa.Dm
