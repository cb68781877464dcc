/-
  dom.Front, walked.
-/
import Derived.Test.YtahjippocejphaaDmp
import Derived.Test.YtahjippocejphaaDmj
namespace Go.Proofs.Ytahjippocejphaa.Dm
open Go.RowKit View Rd Copy Num Ty Srt Go.Proofs.Ytahjippocejphaa.Flo Go.Proofs.Ytahjippocejphaa.Lt

set_option linter.unusedVariables false

/-- What Front hands back. -/
def FrontGives (F : FV) (w : World) (e : Ending) (w' : World) : Prop := ∃ (M : Nat) (R : Nat → Sl), e = .returned (.slice (some ⟨M, 0, none⟩) F.blk.n F.blk.n) ∧ Pv w' M F.blk.n R (frL F F.blk.n) ∧ w.heap.size ≤ M ∧ Below w.heap.size w w'

/-- Where the rows stand, w4 being where the walk began. -/
def FSt (F : FV) (M : Nat) (w w4 wr : World) (R : Nat → Sl) (Lf : Nat → List Nat) : Prop := Pv wr M F.blk.n R Lf ∧ (∀ i, i < F.blk.n → ∀ g, (Sl.val (R i)).ownBlock = some g → w4.heap.size ≤ g) ∧ Kept (fun q => q < w4.heap.size ∧ q ≠ M) w4 wr ∧ Below w.heap.size w wr

set_option maxRecDepth 10000 in
set_option maxHeartbeats 4000000 in
theorem front_any (F : FV) (w : World) (hF : In w F) (hl : Light F) (hj : Jng F) (h0 : 0 < F.blk.n) : Calls Try.prog 33 #[F.val] w fun e w' => FrontGives F w e w' := by
  have HF := hid hF
  have HL := hid hl
  have HJ := hid hj
  have gb := hl.blk
  obtain ⟨LL, par, hgr⟩ := gro_ex hl h0
  have GR := hid hgr
  obtain ⟨L, hL⟩ := ord_ex F
  have HOR := hid hL
  have hmk := run_make_row' (P := Try.prog) 56 30 (.slice none 0 0) 24 underlying56 info30 rfl .i64 .i64 F.blk.n (by omega) (by omega)
  clear hF hl hj hgr hL
  go_enter Try.func33, Try.ntmps33
  go_wp2_with fail
  clear hmk
  obtain ⟨w1, hw1⟩ : ∃ w1, (w.alloc (.cells (fcells F) 33)).alloc (.cells (madeCells #[.slice none 0 0] F.blk.n) 30) = w1 := ⟨_, rfl⟩
  obtain ⟨M, hM⟩ : ∃ M, w.heap.size + 1 = M := ⟨_, rfl⟩
  have B1 := hid (show Below w.heap.size w w1 by rw [← hw1]; exact new (new (same w) _) _)
  have P1 := hid (show Pv w1 M F.blk.n (fun _ => ⟨none, 0, 0⟩) (fun _ => []) by
    rw [← hw1, ← hM]
    refine ⟨?_, fun i hi => by simp; exact World.ownsRow_nil _ _ _ _, fun i j _ _ _ g h => by simp [Value.ownBlock] at h⟩
    have := World.rowIs_made (w.alloc (.cells (fcells F) 33)) (.slice none 0 0) F.blk.n 30
    simpa using this)
  have FA1 := hid (show FuncAt w1 w.heap.size F by rw [← hw1]; exact (FuncAt.alloc w F).on (new (same _) _))
  have Z1 := hid (show w1.heap.size = w.heap.size + 2 by rw [← hw1]; simp)
  simp only [hw1, hM]
  clear hw1
  have f0 : ∀ wx, Below w1.heap.size w1 wx → wx.cell? ⟨w.heap.size, 0, none⟩ = some (.string F.name) := fun wx h => (FA1.out.on h).c0
  have f1 : ∀ wx, Below w1.heap.size w1 wx → wx.cell? ⟨w.heap.size, 1, none⟩ = some (.bool F.out) := fun wx h => (FA1.out.on h).c1
  have f2 : ∀ wx, Below w1.heap.size w1 wx → wx.cell? ⟨w.heap.size, 2, none⟩ = some (.slice F.par.a F.par.n F.par.c) := fun wx h => (FA1.out.on h).c2
  have f3 : ∀ wx, Below w1.heap.size w1 wx → wx.cell? ⟨w.heap.size, 3, none⟩ = some (.int .i64 F.res) := fun wx h => (FA1.out.on h).c3
  have f4 : ∀ wx, Below w1.heap.size w1 wx → wx.cell? ⟨w.heap.size, 4, none⟩ = some (.slice F.blk.a F.blk.n F.blk.c) := fun wx h => (FA1.out.on h).c4
  have st0 : Below w1.heap.size w1 w1.drew := Below.drew (same _)
  go_region_held3 (fun wx => Below w1.heap.size w1 wx) (first | exact st0 | exact st1 | exact st2)
    (first
      | (go_at_call 28; refine (over_any F _ (HF.out.on (View.more B1.out st0)) HL.out HJ.out h0).mono ?_; rintro e w2 ⟨go, co, ov, rfl, hro, hov, hgo, hb2⟩; have st1 : Below w1.heap.size w1 w2 := View.more st0 hb2; have RO := hid hro; have OV := hid hov; have gol := hro.lt; have hgo1 := Nat.le_trans st0.size hgo.1; clear hro hov hgo hb2)
      | (go_at_call 56; refine (reach_flow F L _ HOR.out (HF.out.on (View.more B1.out st1)) HL.out HJ.out).mono ?_; rintro e w3 ⟨gr, rfl, hrr, hgr, hb3⟩; have st2 : Below w1.heap.size w1 w3 := View.more st1 hb3; have RR := hid hrr; have RO3 := hid (RO.out.on hb3); have z3 := hb3.size; have grl := hrr.lt; clear hrr hb3))
  have B3 := hid (View.more B1.out st2)
  have P3 := hid (P1.out.on st2)
  have z1 := Z1.out
  have FA3 := hid (FA1.out.on st2)
  clear f0 f1 f2 f3 f4 RO
  obtain ⟨c0, c1, c2, c3, c4⟩ := FA3.out
  go_wp2_with fail
  refine (prev_flow F _ (HF.out.on B3.out) HL.out HJ.out).mono ?_
  rintro e w4 ⟨Mp, Rp, rfl, hpp, hMp, hb4⟩
  have PP := hid hpp
  have P4 := hid (P3.out.on hb4)
  have B4 := hid (View.more B3.out hb4)
  have RO4 := hid (RO3.out.on hb4)
  have RR4 := hid (RR.out.of_block (hb4.block _ RR.out.lt))
  have mpl := hpp.row.lt
  have z4 := hb4.size
  clear hpp hb4 c0 c1 c2 c3 c4 FA3 P3 RO3 B3 RR
  go_wp2_with fail
  have Z := hid (And.intro z1 (And.intro hgo1 (And.intro gol (And.intro hgr (And.intro grl (And.intro hMp (And.intro mpl (And.intro z3 z4))))))))
  have hM1 : M < w1.heap.size := by omega
  have hs12 := st1.size
  have hgm : go ≠ M := by omega
  have hrm : gr ≠ M := by omega
  have hpm : Mp ≠ M := by omega
  have hg4 : go < w4.heap.size := by omega
  have hr4 : gr < w4.heap.size := by omega
  have hm4 : M < w4.heap.size := by omega
  clear st0 st1 st2 hs12
  go_loopw [21] (fun iv wr => ∃ (k : Nat) (R : Nat → Sl), k ≤ F.blk.n ∧ iv = .int .i64 k ∧ FSt F M w w4 wr R (frL F k)) (fun iv _ => F.blk.n - (intOf iv).toNat)
  case atStart => exact ⟨0, _, Nat.zero_le _, rfl, P4.out.congr (fun i _ => by simp [frL]), fun i _ g h => by simp [Value.ownBlock] at h, Kept.refl _ _, B4.out⟩
  case round =>
    clear P4 B4
    obtain ⟨b, R, hk, rfl, hst⟩ := hrel
    have HS := hid hst
    by_cases lk : b < F.blk.n
    · have i1 := row_at (M := Mp) lk
      have p1 : wr.cell? ⟨Mp, b, none⟩ = some (Sl.val (Rp b)) := cell_kept hst.2.2.1 ⟨mpl, hpm⟩ (PP.out.row.cell lk)
      have RI := hid (show Ints w4 (Rp b) (fun i => (((pvL F F.blk.n b).getD i 0 : Nat) : Int)) ∧ (Rp b).n = (pvL F F.blk.n b).length ∧ Mine (Mp + 1) w4.heap.size w4 (Rp b) by
        obtain ⟨s, hs, hn, hI, hmi⟩ := ints_of_owns (PP.out.own b lk) (by simp; have := pvL_le F F.blk.n b; omega)
        have e : Rp b = s := by
          have h1 : (Rp b).a = s.a ∧ (Rp b).n = s.n ∧ (Rp b).c = s.c := by simpa [Sl.val] using hs
          cases hR : Rp b; cases s; rw [hR] at h1; simp at h1; simp [h1]
        rw [e]
        exact ⟨hI.congr (fun i hi => getD_ints _ _ (by rw [hn] at hi; simpa using hi)), by simpa using hn, hmi⟩)
      have rn20 : (Rp b).n ≤ 16 := by rw [RI.out.2.1]; have := pvL_le F F.blk.n b; omega
      clear hst
      go_wp2_with fail
      go_loopw [28] (fun iv wx => ∃ (t : Nat) (R : Nat → Sl), t ≤ (Rp b).n ∧ iv = .int .i64 t ∧ FSt F M w w4 wx R (frT F b t)) (fun iv _ => (Rp b).n - (intOf iv).toNat)
      case atStart => exact ⟨0, R, Nat.zero_le _, rfl, HS.out.1.congr (fun i _ => (frT_zero F b i).symm), HS.out.2⟩
      case round =>
        clear HS p1
        obtain ⟨t, R, ht, rfl, hst⟩ := hrel
        have HS := hid hst
        by_cases lt : t < (Rp b).n
        · obtain ⟨ib, io, hix, hci⟩ := (RI.out.1.kept' RI.out.2.2 hst.2.2.1 (fun q h1 h2 => ⟨h2, by omega⟩)).at lt
          obtain ⟨p, hp⟩ : ∃ p, (pvL F F.blk.n b).getD t 0 = p := ⟨_, rfl⟩
          rw [hp] at hci
          have hpl : p ∈ pvL F F.blk.n b := by
            have h1 : t < (pvL F F.blk.n b).length := by rw [← RI.out.2.1]; exact lt
            rw [← hp]; exact getD_mem h1
          have hpn := (mem_pvL.1 hpl).1
          have hpe := (mem_pvL.1 hpl).2
          have i2 := bool_at (g := gr) hpn
          have p2 : wr.cell? ⟨gr, p, none⟩ = some (.bool (decide (p ∈ L))) := cell_kept hst.2.2.1 ⟨hr4, hrm⟩ (RR4.out.cell hpn)
          have HP := hid hp
          have HPE := hid hpe
          clear hst hp hpl hpe
          by_cases hin : p ∈ L
          · rw [show decide (p ∈ L) = true by simp [hin]] at p2
            have HW := hid ((ord_mem HOR.out h0 p).1 hin)
            clear hin
            go_wp2_with fail
            refine (putAbove_any GR.out OV.out HW.out HPE.out h0 gb M w4.heap.size go co R (frT F b t) (FrA F b t) wr HS.out.1 HS.out.2.1 ((RO4.out).at_block (HS.out.2.2.1.block go ⟨hg4, hgm⟩)) hg4 hgm hm4 HS.out.2.2.1.size (fun a _ => ends_frT F b t a) (fun x y h1 h2 h3 => frA_close GR.out x y h1 h2 h3) (fun a _ => by have := frT_le F b t a; omega)).mono ?_
            rintro e wy ⟨R', Lg, rfl, hpv, hfar, hfr, hput, hsz, hbl⟩
            have HT := hid (show FSt F M w w4 wy R' (frT F b (t + 1)) from ⟨hpv.congr (fun a ha => frT_put HP.out HW.out hput a ha), hfar, ⟨Nat.le_trans HS.out.2.2.1.size hsz, fun q hq => by rw [hfr q hq.1 hq.2]; exact HS.out.2.2.1.block q hq⟩, HS.out.2.2.2.trans (hbl _ (by omega))⟩)
            clear hpv hfar hfr hput hsz hbl p2 hci
            go_wp2_with fail
            go_round
            case rel => exact ⟨t + 1, R', by omega, by go_num, HT.out⟩
            case measure => simp [intOf]; omega
          · rw [show decide (p ∈ L) = false by simp [hin]] at p2
            have HW := hid (show ¬ Go.Proofs.Ytahjippocejphaa.Flo.Way (su F) 0 ((pvL F F.blk.n b).getD t 0) by rw [HP.out]; exact fun h => hin ((ord_mem HOR.out h0 p).2 h))
            clear hin
            go_wp2_with fail
            go_round
            case rel => exact ⟨t + 1, R, by omega, by go_num, HS.out.1.congr (fun a _ => (frT_skip HW.out a).symm), HS.out.2⟩
            case measure => simp [intOf]; omega
        · obtain rfl : t = (Rp b).n := by omega
          clear hst
          go_wp2_with fail
          go_round
          case rel => exact ⟨b + 1, R, by omega, by go_num, HS.out.1.congr (fun a _ => by rw [frL_next, RI.out.2.1]), HS.out.2⟩
          case measure => simp [intOf]; omega
    · obtain rfl : b = F.blk.n := by omega
      clear hst
      go_wp2_with fail
      go_ret
      exact ⟨M, R, rfl, HS.out.1, by omega, HS.out.2.2.2⟩

end Go.Proofs.Ytahjippocejphaa.Dm
