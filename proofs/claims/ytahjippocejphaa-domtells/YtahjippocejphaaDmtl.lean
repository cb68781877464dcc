/-
  plnlaw5.DomTells answers true.
-/
import Derived.Test.YtahjippocejphaaDmw
import Derived.Test.YtahjippocejphaaDmv
import Derived.Test.YtahjippocejphaaDmia
import Derived.Test.YtahjippocejphaaDmt
import Derived.Deep.RegionHeld3
import Derived.BigQuiet
import Derived.Deep.QuietTactic
namespace Go.Proofs.Ytahjippocejphaa.Dm
open Go.RowKit View Rd Copy Num Ty Srt Go.Proofs.Ytahjippocejphaa.Flo Go.Proofs.Ytahjippocejphaa.Lt

set_option linter.unusedVariables false

theorem over_all (F : FV) (w : World) (hF : In w F) (hl : Light F) (hj : Jng F) : Calls Try.prog 28 #[F.val] w fun e w' => OverGives F w e w' := by
  by_cases h : F.blk.n = 0
  · exact over_zero F w hF hl hj h
  · exact over_any F w hF hl hj (by omega)

theorem under_all (F : FV) (w : World) (hF : In w F) (hl : Light F) (hj : Jng F) : Calls Try.prog 31 #[F.val] w fun e w' => UnderGives F w e w' := by
  by_cases h : F.blk.n = 0
  · exact under_zero F w hF hl hj h
  · exact under_any F w hF hl hj (by omega)

theorem front_all (F : FV) (w : World) (hF : In w F) (hl : Light F) (hj : Jng F) : Calls Try.prog 33 #[F.val] w fun e w' => FrontGives F w e w' := by
  by_cases h : F.blk.n = 0
  · exact front_zero F w hF hl hj h
  · exact front_any F w hF hl hj (by omega)

theorem undL_same {ov ov' : Nat → Int} {n : Nat} (h : ∀ b, b < n → ov b = ov' b) (a : Nat) : undL ov n a = undL ov' n a := by
  unfold undL
  refine List.filter_congr (fun b hb => ?_)
  rw [h b (List.mem_range.1 hb)]

set_option maxRecDepth 10000 in
set_option maxHeartbeats 4000000 in
theorem domTells_any (F : FV) (a b : Int) (w : World) (hF : In w F) (hj : Jng F) :
    Calls Try.prog 5 #[F.val, .int .i64 a, .int .i64 b] w fun e w' => e = .returned (.bool true) ∧ Below w.heap.size w w' := by
  have HF := hid hF
  have HJ := hid hj
  clear hF hj
  go_enter Try.func5, Try.ntmps5
  go_wp2_with fail
  refine (first_any _).mono ?_
  rintro e w1 ⟨rfl, hb1⟩
  have f1 : FuncAt w1 w.heap.size F := (FuncAt.alloc w F).on hb1
  have hb1' := View.more (new (same w) _) hb1
  have B1 := hid hb1'
  have F1 := hid f1
  obtain ⟨c0, c1, c2, c3, c4⟩ := f1
  clear hb1 hb1'
  go_wp2_with fail
  refine (light_any F _ (HF.out.on B1.out)).mono ?_
  rintro e w2 ⟨r, rfl, hr, hb2⟩
  have B2 := hid (View.more B1.out hb2)
  have F2 := hid (F1.out.on hb2)
  clear c0 c1 c2 c3 c4 hb2 B1 F1
  cases r with
  | false =>
    go_wp2_with fail
    refine (first_any _).mono ?_
    rintro e w3 ⟨rfl, hb3⟩
    go_wp2_with fail
    go_ret
    exact ⟨rfl, View.more B2.out hb3⟩
  | true =>
    have hl := hr rfl
    have HL := hid hl
    have gb := hl.blk
    clear hl hr
    have F2' := F2.out
    obtain ⟨c0, c1, c2, c3, c4⟩ := F2'
    go_wp2_with fail
    refine (doms_ref F _ (HF.out.on B2.out) HL.out).mono ?_
    rintro e w3 ⟨O, RO, D, rfl, hsq, hD, hb3⟩
    have F3 := hid (F2.out.on hb3)
    have B3 := hid (View.more B2.out hb3)
    have I3 := hid (HF.out.on B3.out)
    have SQ := hid hsq
    have HD := hid hD
    clear hsq hD hb3 c0 c1 c2 c3 c4 F2 B2
    go_wp2_with fail
    go_loopw [8] (fun iv wr => ∃ i : Nat, i ≤ F.blk.n ∧ iv = .int .i64 i ∧ Below w3.heap.size w3 wr) (fun iv _ => F.blk.n - (intOf iv).toNat)
    case atStart => exact ⟨0, Nat.zero_le _, rfl, same _⟩
    case round =>
      obtain ⟨i, hi, rfl, hbr⟩ := hrel
      have HB := hid hbr
      clear hbr
      by_cases li : i < F.blk.n
      · go_wp2_with fail
        go_loopw [9] (fun jv wx => ∃ k : Nat, k ≤ F.blk.n ∧ jv = .int .i64 k ∧ Below w3.heap.size w3 wx) (fun jv _ => F.blk.n - (intOf jv).toNat)
        case atStart => exact ⟨0, Nat.zero_le _, rfl, HB.out⟩
        case round =>
          clear HB
          obtain ⟨k, hk, rfl, hbx⟩ := hrel
          have HX := hid hbx
          clear hbx
          by_cases lk : k < F.blk.n
          · obtain ⟨W, hW⟩ : ∃ W, wr = W := ⟨_, rfl⟩
            rw [hW] at HX
            rw [hW]
            clear hW
            have F4 := hid (F3.out.on HX.out)
            have I4 := hid (I3.out.on HX.out)
            have sq := SQ.out.on HX.out
            have i1 := rows_at (g := O) li
            have p1 := sq.row.cell li
            rw [if_pos li] at p1
            have i2 := bool_at (g := RO i) lk
            have p2 := (sq.rows i li).cell lk
            obtain ⟨q, hq⟩ : ∃ q, D i k = q := ⟨_, rfl⟩
            have DQ := hid (HD.out i li k lk)
            rw [hq] at p2 DQ
            have hqq : (q != q) = false := by simp
            have st0 : Below W.heap.size W W.drew := Below.drew (same _)
            have A0 : ∀ wx, Below W.heap.size W wx → wx.cell? ⟨w.heap.size, 0, none⟩ = some (.string F.name) := fun wx h => cell_on h F4.out.c0
            have A1 : ∀ wx, Below W.heap.size W wx → wx.cell? ⟨w.heap.size, 1, none⟩ = some (.bool F.out) := fun wx h => cell_on h F4.out.c1
            have A2 : ∀ wx, Below W.heap.size W wx → wx.cell? ⟨w.heap.size, 2, none⟩ = some (.slice F.par.a F.par.n F.par.c) := fun wx h => cell_on h F4.out.c2
            have A3 : ∀ wx, Below W.heap.size W wx → wx.cell? ⟨w.heap.size, 3, none⟩ = some (.int .i64 F.res) := fun wx h => cell_on h F4.out.c3
            have A4 : ∀ wx, Below W.heap.size W wx → wx.cell? ⟨w.heap.size, 4, none⟩ = some (.slice F.blk.a F.blk.n F.blk.c) := fun wx h => cell_on h F4.out.c4
            have D1 : ∀ wx, Below W.heap.size W wx → wx.cell? ⟨O, i, none⟩ = some (.slice (some ⟨RO i, 0, none⟩) F.blk.n F.blk.n) := fun wx h => cell_on h p1
            have D2 : ∀ wx, Below W.heap.size W wx → wx.cell? ⟨RO i, k, none⟩ = some (.bool q) := fun wx h => cell_on h p2
            clear sq hq p1 p2
            go_wp2_with fail
            go_region_held3 (fun wx => Below W.heap.size W wx) (first | exact st0 | exact st1)
              (first
                | (go_at_call 25; refine (dom_any F i k _ (I4.out.on st0) HL.out HJ.out).mono ?_; rintro e wd ⟨pd, rfl, hpd, hbd⟩; obtain rfl : pd = q := bool_iff ((ans_dom li lk hpd).trans DQ.out.symm); have st1 : Below W.heap.size W wd := View.more st0 hbd; clear hpd hbd))
            have ST := hid (View.more HX.out st1)
            clear A0 A1 A2 A3 A4 D1 D2 st0 st1
            go_wp2_with fail
            go_round
            case rel => exact ⟨k + 1, by omega, by go_num, ST.out⟩
            case measure => simp [intOf]; omega
          · obtain rfl : k = F.blk.n := by omega
            go_wp2_with fail
            go_round
            case rel =>
              first
                | exact ⟨i + 1, by omega, by go_num, HX.out⟩
                | ((repeat apply Exists.intro); exact ⟨⟨i + 1, by omega, by go_num, HX.out⟩, rfl⟩)
            case measure => simp [intOf]; omega
      · obtain rfl : i = F.blk.n := by omega
        clear hi li
        obtain ⟨W, hW⟩ : ∃ W, wr = W := ⟨_, rfl⟩
        rw [hW] at HB
        rw [hW]
        clear hW
        have F4 := hid (F3.out.on HB.out)
        have I4 := hid (I3.out.on HB.out)
        have B4 := hid (View.more B3.out HB.out)
        clear SQ HD F3 I3 B3 HB
        have hor : ∃ p : Bool, p = true ↔ DomI F a b := by
          by_cases h : DomI F a b
          · exact ⟨true, by simp [h]⟩
          · exact ⟨false, by simp [h]⟩
        obtain ⟨p, hp⟩ := hor
        have HP := hid hp
        have hpp : (p == p) = true := by simp
        have st0 : Below W.heap.size W W.drew := Below.drew (same _)
        clear hp
        have A0 : ∀ wx, Below W.heap.size W wx → wx.cell? ⟨w.heap.size, 0, none⟩ = some (.string F.name) := fun wx h => cell_on h F4.out.c0
        have A1 : ∀ wx, Below W.heap.size W wx → wx.cell? ⟨w.heap.size, 1, none⟩ = some (.bool F.out) := fun wx h => cell_on h F4.out.c1
        have A2 : ∀ wx, Below W.heap.size W wx → wx.cell? ⟨w.heap.size, 2, none⟩ = some (.slice F.par.a F.par.n F.par.c) := fun wx h => cell_on h F4.out.c2
        have A3 : ∀ wx, Below W.heap.size W wx → wx.cell? ⟨w.heap.size, 3, none⟩ = some (.int .i64 F.res) := fun wx h => cell_on h F4.out.c3
        have A4 : ∀ wx, Below W.heap.size W wx → wx.cell? ⟨w.heap.size, 4, none⟩ = some (.slice F.blk.a F.blk.n F.blk.c) := fun wx h => cell_on h F4.out.c4
        go_wp2_with fail
        go_region_held3 (fun wx => Below W.heap.size W wx) (first | exact st0 | exact st1 | exact st2 | exact st3 | exact st4 | exact st5 | exact st6 | exact st7 | exact st8 | exact st9 | exact st10 | exact st11)
          (first
            | (go_at_call 25; refine (dom_any F a b _ (I4.out.on st0) HL.out HJ.out).mono ?_; rintro e x1 ⟨pd, rfl, hpd, hbd⟩; obtain rfl : p = pd := bool_iff (HP.out.trans hpd.symm); have st1 : Below W.heap.size W x1 := View.more st0 hbd; clear hpd hbd)
            | (go_at_call 26; refine (dom_ref F a b _ (I4.out.on st1) HL.out).mono ?_; rintro e x2 ⟨pd, rfl, hpd, hbd⟩; obtain rfl : p = pd := bool_iff (HP.out.trans hpd.symm); have st2 : Below W.heap.size W x2 := View.more st1 hbd; clear hpd hbd)
            | (go_at_call 28; refine (over_all F _ (I4.out.on st2) HL.out HJ.out).mono ?_; rintro e x3 ⟨go, co, ov, rfl, hro, hov, hgo, hbd⟩; have R3 := hid (hro.ints hgo.2 (by omega)); have O3 := hid hov; have st3 : Below W.heap.size W x3 := View.more st2 hbd; clear hro hov hgo hbd)
            | (go_at_call 29; refine (over_ref F _ (I4.out.on st3) HL.out).mono ?_; rintro e x4 ⟨gp, ov', rfl, hro, hov, hgo, hbd⟩; have R4 := hid (hro.ints (Nat.le_refl _) (by omega)); have R3' := hid (R3.out.on hbd); have OE := hid (overIs_unique HL.out O3.out hov); have st4 : Below W.heap.size W x4 := View.more st3 hbd; clear hro hov hgo hbd)
            | (go_at_call 27; refine (ints_any ⟨some ⟨go, 0, none⟩, F.blk.n, co⟩ ⟨some ⟨gp, 0, none⟩, F.blk.n, F.blk.n⟩ ov ov' _ R3'.out R4.out (by show F.blk.n ≤ 1000; omega)).mono ?_; rintro e x5 ⟨pe, rfl, hpe, qq, hqq⟩; obtain rfl : pe = true := hpe.2 ⟨rfl, fun i hi => OE.out i hi⟩; have st5 : Below W.heap.size W x5 := (by rw [hqq]; exact View.more st4 (below_drewN' _ _)); clear hpe hqq)
            | (go_at_call 31; refine (under_all F _ (I4.out.on st5) HL.out HJ.out).mono ?_; rintro e x6 ⟨M6, R6, ov6, rfl, hpv, hov, hM, hbd⟩; have P6 := hid hpv; have O6 := hid hov; have st6 : Below W.heap.size W x6 := View.more st5 hbd; clear hpv hov hM hbd)
            | (go_at_call 32; refine (under_ref F _ (I4.out.on st6) HL.out).mono ?_; rintro e x7 ⟨M7, R7, ov7, rfl, hpv, hov, hM, hbd⟩; have P7 := hid hpv; have P6' := hid ((P6.out.on hbd).congr (fun i _ => undL_same (overIs_unique HL.out O6.out hov) i)); have st7 : Below W.heap.size W x7 := View.more st6 hbd; clear hpv hov hM hbd)
            | (go_at_call 30; have hh := st10; refine (rows_any F.blk.n M9 M10 R9 R10 _ _ P9'.out P10.out (by omega) (fun i hi => by have := frL_le F F.blk.n i; omega)).mono ?_; rintro e x11 ⟨rfl, hbd⟩; have st11 : Below W.heap.size W x11 := View.more st10 hbd; clear hh hbd)
            | (go_at_call 30; refine (rows_any F.blk.n M6 M7 R6 R7 _ _ P6'.out P7.out (by omega) (fun i hi => by have := undL_le ov7 F.blk.n i; omega)).mono ?_; rintro e x8 ⟨rfl, hbd⟩; have st8 : Below W.heap.size W x8 := View.more st7 hbd; clear hbd)
            | (go_at_call 33; refine (front_all F _ (I4.out.on st8) HL.out HJ.out).mono ?_; rintro e x9 ⟨M9, R9, rfl, hpv, hM, hbd⟩; have P9 := hid hpv; have st9 : Below W.heap.size W x9 := View.more st8 hbd; clear hpv hM hbd)
            | (go_at_call 34; refine (front_ref F _ (I4.out.on st9) HL.out).mono ?_; rintro e x10 ⟨M10, R10, rfl, hpv, hM, hbd⟩; have P10 := hid hpv; have P9' := hid (P9.out.on hbd); have st10 : Below W.heap.size W x10 := View.more st9 hbd; clear hpv hM hbd))
        have ST := hid (View.more B4.out st11)
        clear A0 A1 A2 A3 A4
        go_wp2_with fail
        go_ret
        exact ⟨rfl, ST.out⟩

end Go.Proofs.Ytahjippocejphaa.Dm
