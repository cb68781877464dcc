/-
  wf: the walk of WfSteps.
-/
import Derived.Test.YtbmfimojhcdnbaaJ2
import Derived.Test.YtbmfimojhcdnbaaJ8
import Derived.Test.YtbmfimojhcdnbaaJ0
namespace Go.Proofs.Ytbmfimojhcdnbaa.Wf
open Go.RowKit View Rd Num Opn Copy Srt Go.Proofs.Ytbmfimojhcdnbaa.Mod Go.Proofs.Ytbmfimojhcdnbaa.Chk Go.Proofs.Ytbmfimojhcdnbaa.Flo

set_option linter.unusedVariables false

theorem jng_fits {M : MV} (h : FitsM M) : ∀ i, i < M.fns.n → Jng (M.F i) := fun i hi j hj k hk t ht => (h.fns i hi).into j hj k hk t ht

set_option maxRecDepth 10000 in
set_option maxHeartbeats 1000000 in
theorem whole_any (M : MV) (w : World) (hM : InM w M) (hs : SmallM M) : Calls Try.prog 17 #[M.val] w fun e w' => Ans (fun _ => True) w e w' := by
  have x4 := hs.fns
  obtain ⟨W, hW⟩ : ∃ W, w.alloc (.cells (mcells M) 27) = W := ⟨_, rfl⟩
  have LW := hid (show Below w.heap.size w W by rw [← hW]; exact new (same w) _)
  have MC := hid (show MCell M W w.heap.size by rw [← hW]; exact mcell_alloc M w _ rfl)
  have HM := hid (hM.on LW.out)
  have HS := hid hs
  obtain ⟨m0, m1, m2, m3⟩ := MC.out
  clear hM hs
  go_enter Try.func17, Try.ntmps17
  go_wp2_with fail
  clear hW
  go_loopw [3] (fun iv wr => ∃ i : Nat, i ≤ M.fns.n ∧ iv = .int .i64 i ∧ wr = W) (fun iv _ => M.fns.n - (intOf iv).toNat)
  case atStart => exact ⟨0, Nat.zero_le _, rfl, rfl⟩
  case round =>
    obtain ⟨i, hi, rfl, rfl⟩ := hrel
    by_cases li : i < M.fns.n
    · obtain ⟨fb, fo, hfx, hFA⟩ := HM.out.fns.at underlying25 size33 li
      obtain ⟨f0, f1, f2, f3, f4⟩ := hFA
      have gb := (HS.out.light i li).blk
      by_cases h0 : (M.F i).blk.n = 0
      · have t1 : (((M.F i).blk.n : Int) == 0) = true := by simp [h0]
        clear h0
        go_wp2_with fail
        go_ret
        exact ⟨false, rfl, trivial, LW.out⟩
      have t1 : (((M.F i).blk.n : Int) == 0) = false := by simp [h0]
      clear h0
      go_wp2_with fail
      go_loopw [4] (fun iv wx => ∃ j : Nat, j ≤ (M.F i).blk.n ∧ iv = .int .i64 j ∧ wx = wr) (fun iv _ => (M.F i).blk.n - (intOf iv).toNat)
      case atStart => exact ⟨0, Nat.zero_le _, rfl, rfl⟩
      case round =>
        obtain ⟨j, hj, rfl, rfl⟩ := hrel
        by_cases lj : j < (M.F i).blk.n
        · obtain ⟨bb, bo, hbx, hbc⟩ := (HM.out.fnI i li).blk.at lj
          by_cases h0 : ((M.F i).B j).n = 0
          · have t2 : ((((M.F i).B j).n : Int) == 0) = true := by simp [h0]
            clear h0
            go_wp2_with fail
            go_ret
            exact ⟨false, rfl, trivial, LW.out⟩
          have t2 : ((((M.F i).B j).n : Int) == 0) = false := by simp [h0]
          clear h0
          go_wp2_with fail
          go_round
          case rel => exact ⟨j + 1, by omega, by go_num, (by first | rfl | trivial)⟩
          case measure => simp [intOf]; omega
        · obtain rfl : j = (M.F i).blk.n := by omega
          go_wp2_with fail
          go_round
          case rel =>
            first
              | exact ⟨i + 1, by omega, by go_num, (by first | rfl | trivial)⟩
              | (refine ⟨_, _, _, _, _, _, _, _, _, _, _, _, _, _, _, _, _, _, _, _, _, _, _, _, ⟨i + 1, by omega, by go_num, (by first | rfl | trivial)⟩, rfl⟩)
              | ((repeat apply Exists.intro); exact ⟨⟨i + 1, by omega, by go_num, (by first | rfl | trivial)⟩, rfl⟩)
              | trace_state
          case measure => simp [intOf]; omega
    · obtain rfl : i = M.fns.n := by omega
      go_wp2_with fail
      go_ret
      exact ⟨true, rfl, trivial, LW.out⟩

set_option maxRecDepth 20000 in
set_option maxHeartbeats 8000000 in
theorem wfSteps_any (M : MV) (k : Int) (st : Sl) (sf : Nat → Int) (w : World) (hM : InM w M) (hf : FitsM M) (hst : Ints w st sf) : Calls Try.prog 4 #[M.val, .int .i64 k, .slice st.a st.n st.c] w fun e w' => e = .returned (.bool true) ∧ Below w.heap.size w w' := by
  obtain ⟨W, hW⟩ : ∃ W, w.alloc (.cells (mcells M) 27) = W := ⟨_, rfl⟩
  have LW := hid (show Below w.heap.size w W by rw [← hW]; exact new (same w) _)
  have MC := hid (show MCell M W w.heap.size by rw [← hW]; exact mcell_alloc M w _ rfl)
  have HM := hid (hM.on LW.out)
  have HST := hid (hst.on LW.out)
  have HJ := hid (jng_fits hf)
  have q2 := hst.2.1
  clear hM hf hst
  go_enter Try.func4, Try.ntmps4
  go_wp2_with fail
  clear hW
  refine (first_any W).mono ?_
  rintro e w1 ⟨rfl, hb⟩
  have B1 := hid hb
  obtain ⟨m0, m1, m2, m3⟩ := MC.out.on hb
  clear hb
  go_wp2_with fail
  clear m0 m1 m2 m3
  refine (small_any M w1 (HM.out.on B1.out)).mono ?_
  rintro e w2 ⟨r, rfl, hr, hb⟩
  have B2 := hid (View.more B1.out hb)
  have HR := hid hr
  clear hb hr
  have FIN := hid (fun (wx : World) (h : Below W.heap.size W wx) => View.more LW.out h)
  cases r with
  | false =>
    go_wp2_with fail
    refine (first_any w2).mono ?_
    rintro e w3 ⟨rfl, hb⟩
    have B3 := hid (View.more B2.out hb)
    clear hb
    go_wp2_with fail
    go_ret
    exact ⟨rfl, FIN.out _ B3.out⟩
  | true =>
  have HS := hid (HR.out rfl)
  have x4 := HS.out.fns
  clear HR
  obtain ⟨m0, m1, m2, m3⟩ := MC.out.on B2.out
  by_cases h0 : M.fns.n = 0
  · have t1 : ((M.fns.n : Int) == 0) = true := by simp [h0]
    clear h0
    go_wp2_with fail
    refine (first_any w2).mono ?_
    rintro e w3 ⟨rfl, hb⟩
    have B3 := hid (View.more B2.out hb)
    clear hb
    go_wp2_with fail
    go_ret
    exact ⟨rfl, FIN.out _ B3.out⟩
  have t1 : ((M.fns.n : Int) == 0) = false := by simp [h0]
  by_cases hs : 40 < st.n
  · have t2 : decide ((40 : Int) < st.n) = true := by simp; omega
    clear hs h0
    go_wp2_with fail
    refine (first_any w2).mono ?_
    rintro e w3 ⟨rfl, hb⟩
    have B3 := hid (View.more B2.out hb)
    clear hb
    go_wp2_with fail
    go_ret
    exact ⟨rfl, FIN.out _ B3.out⟩
  have t2 : decide ((40 : Int) < st.n) = false := by simp; omega
  have hs40 : st.n ≤ 40 := by omega
  clear hs
  go_wp2_with fail
  refine (wcheck_any M w2 (HM.out.on B2.out) HS.out HJ.out).mono ?_
  rintro e w3 ⟨r, rfl, hr, hb⟩
  have B3 := hid (View.more B2.out hb)
  have HR := hid hr
  clear hr hb m0 m1 m2 m3
  by_cases hr0 : r = 0
  case neg =>
    have t3 : (r != 0) = true := by simpa using hr0
    clear hr0 h0
    go_wp2_with fail
    refine (first_any w3).mono ?_
    rintro e w4 ⟨rfl, hb⟩
    have B4 := hid (View.more B3.out hb)
    clear hb
    go_wp2_with fail
    go_ret
    exact ⟨rfl, FIN.out _ B4.out⟩
  have FT := hid (fit_iff.1 (show errM M = 0 by rw [← HR.out]; exact hr0))
  subst hr0
  clear HR
  obtain ⟨m0, m1, m2, m3⟩ := MC.out.on B3.out
  go_wp2_with fail
  clear m0 m1 m2 m3
  refine (whole_any M w3 (HM.out.on B3.out) HS.out).mono ?_
  rintro e w4 ⟨r, rfl, _, hb⟩
  have B4 := hid (View.more B3.out hb)
  clear hb
  cases r with
  | false =>
    go_wp2_with fail
    refine (first_any w4).mono ?_
    rintro e w5 ⟨rfl, hb⟩
    have B5 := hid (View.more B4.out hb)
    clear hb
    go_wp2_with fail
    go_ret
    exact ⟨rfl, FIN.out _ B5.out⟩
  | true =>
  obtain ⟨x, hx, a0, hk1, hk2⟩ := Low.red16 k (show 0 < M.fns.n by omega)
  have hc : IntKind.i64.wrap (M.fns.n : Int) = M.fns.n := by simp only [IntKind.wrap_i64]; omega
  obtain ⟨fb, fo, hfx, hFA⟩ := HM.out.fns.at underlying25 size33 hx
  obtain ⟨f0, f1, f2, f3, f4⟩ := hFA.on B4.out
  obtain ⟨m0, m1, m2, m3⟩ := MC.out.on B4.out
  have z4 : ((M.fns.n : Int) != 0) = true := by simp; omega
  clear hFA
  have ne1 : M.fns.n ≠ 0 := by omega
  have l1 := World.block_lt_of_cell? _ _ m3
  have l2 := World.block_lt_of_cell? _ _ f0
  go_wp2_with fail
  go_region
  obtain ⟨W6, hW6⟩ : ∃ W6, (w4.alloc (.cells (fcells (M.F x)) 33)).drew = W6 := ⟨_, rfl⟩
  rw [hW6]
  have FX0 : FuncAt W6 w4.heap.size (M.F x) := by rw [← hW6]; exact (FuncAt.alloc w4 (M.F x)).on (Below.drew (same _))
  have B6 := hid (show Below W.heap.size W W6 by rw [← hW6]; exact Below.drew (new B4.out _))
  clear hW6 m0 m1 m2 m3 f0 f1 f2 f3 f4
  obtain ⟨F, hF⟩ : ∃ F, M.F x = F := ⟨_, rfl⟩
  simp only [hF]
  rw [hF] at FX0
  have IF := hid (show In W F by rw [← hF]; exact HM.out.fnI x hx)
  have LF := hid (show Light F by rw [← hF]; exact HS.out.light x hx)
  have UF := hid (show UseF F by rw [← hF]; exact FT.out.use x hx)
  have FF := hid (show FlowF F by rw [← hF]; exact FT.out.flow x hx)
  have OF := hid (show FormF F by rw [← hF]; exact FT.out.form.fns x hx)
  have one := (FT.out.lim.fnI x hx).one
  rw [hF] at one
  have gp := LF.out.par
  have gb := LF.out.blk
  have gv : allV F ≤ 10000 := allV_le LF.out
  clear hF hfx HS FT HJ h0 t1 t2 z4 hc hk1 hk2 x4 ne1 l1 l2
  have FX := hid FX0
  obtain ⟨f0, f1, f2, f3, f4⟩ := FX0
  go_wp2_with fail
  clear f0 f1 f2 f3 f4
  refine (Go.Proofs.Ytbmfimojhcdnbaa.Ty.values_ref F W6 (IF.out.on B6.out) LF.out).mono ?_
  rintro e w7 ⟨rfl, hb⟩
  obtain ⟨V, hV⟩ : ∃ V, allV F = V := ⟨_, rfl⟩
  rw [hV] at gv
  have HV := hid hV
  rw [show ((F.par.n : Int) + (cnt (fun j => giv (F.I j) (F.B j).n) F.blk.n : Nat)) = (V : Int) by rw [← hV]; unfold allV; push_cast; rfl]
  have B7 := hid (View.more B6.out hb)
  have FX7 := hid (FX.out.on hb)
  clear hb hV FX
  obtain ⟨N, hN⟩ : ∃ N, V + 1 = N := ⟨_, rfl⟩
  have hNb : N ≤ 10001 := by omega
  have c1 : IntKind.i64.wrap ((V : Int) + 1) = (N : Int) := by simp only [IntKind.wrap_i64]; omega
  have c2 : wrap64 ((V : Int) + 1) = (N : Int) := by unfold wrap64; omega
  have HN := hid hN
  clear hN
  have hmk := run_make_row' (P := Try.prog) 45 4 (.bool false) 1 underlying45 info4 rfl .i64 .i64 N (by omega) (by omega)
  obtain ⟨W8, hW8⟩ : ∃ W8, w7.alloc (.cells (madeCells #[.bool false] N) 4) = W8 := ⟨_, rfl⟩
  have R8 := hid (show W8.rowIs w7.heap.size 4 N (fun i => .bool ((fun _ => false) i)) by rw [← hW8]; exact World.rowIs_made w7 (.bool false) N 4)
  have L8 := hid (show Below w7.heap.size w7 W8 by rw [← hW8]; exact new (same _) _)
  obtain ⟨f0, f1, f2, f3, f4⟩ := FX7.out.on L8.out
  go_wp2_with fail
  have IF7 := hid (IF.out.on B7.out)
  have HST7 := hid (HST.out.on B7.out)
  have FIN7 := hid (fun (wx : World) (h : Below w7.heap.size w7 wx) => FIN.out _ (View.more B7.out h))
  have l7 : w4.heap.size < w7.heap.size := World.block_lt_of_cell? _ _ FX7.out.c0
  have VN := hid (show N = allV F + 1 by rw [HV.out]; exact HN.out.symm)
  obtain ⟨HB, hHB⟩ : ∃ HB, w7.heap.size = HB := ⟨_, rfl⟩
  rw [hHB] at R8 ⊢
  have HBE := hid hHB
  clear hmk hW8 c1 c2 f0 f1 f2 f3 f4 hHB
  go_loopw [9] (fun iv wr => ∃ (v : Nat) (h : Nat → Bool), 1 ≤ v ∧ v ≤ F.par.n + 1 ∧ iv = .int .i64 v ∧ (∀ i, 1 ≤ i → i < v → h i = true) ∧ wr.rowIs HB 4 N (fun i => .bool (h i)) ∧ Below w7.heap.size w7 wr) (fun iv _ => F.par.n + 1 - (intOf iv).toNat)
  case atStart => exact ⟨1, fun _ => false, Nat.le_refl _, by omega, rfl, fun i h1 h2 => by omega, R8.out, L8.out⟩
  case round =>
    clear R8 L8
    obtain ⟨v, h, hv1, hv, rfl, hh, hr, hb⟩ := hrel
    have HR := hid hr
    have HH := hid hh
    have HB1 := hid hb
    obtain ⟨f0, f1, f2, f3, f4⟩ := FX7.out.on hb
    by_cases lv : v ≤ F.par.n
    · have lvN : v < N := by have := VN.out; unfold allV at this; omega
      have hbx := bool_at (g := HB) lvN
      have hrx := hr.cell lvN
      have hrf := hr.frozen v
      have hlt := hr.lt
      clear hh hr hb
      go_wp2_with fail
      go_round
      case rel =>
        refine ⟨v + 1, updB h v, by omega, by omega, by go_num, fun i h1 h2 => ?_, (HR.out.set v (.bool true)).congr (fun i hi => by unfold updB; split <;> rfl), Below.setCell HB1.out (by rw [HBE.out]; exact Nat.le_refl _) _⟩
        unfold updB
        split
        · rfl
        · exact HH.out i h1 (by omega)
      case measure => simp [intOf]; omega
    · obtain rfl : v = F.par.n + 1 := by omega
      have H1 := hid (show HaveB F h (fun _ => False) 0 0 from have_start (fun v h1 h2 => HH.out v h1 (by omega)))
      clear hh hr hb HH
      go_wp2_with fail
      clear f0 f1 f2 f3 f4
      go_loopw [10, 11, 12] (fun av fv iv wr => ∃ (p i : Nat) (h : Nat → Bool) (D : Nat → Prop) (xf : Int), p < F.blk.n ∧ i ≤ st.n ∧ av = .int .i64 p ∧ fv = .int .i64 xf ∧ iv = .int .i64 i ∧ MissD F D p ∧ HaveB F h D p 0 ∧ FromB F D xf ∧ wr.rowIs HB 4 N (fun i => .bool (h i)) ∧ Below w7.heap.size w7 wr) (fun _ _ iv _ => st.n - (intOf iv).toNat)
      case atStart => exact ⟨0, 0, h, fun _ => False, -1, by omega, Nat.zero_le _, rfl, rfl, rfl, miss_start F, H1.out, .inl rfl, HR.out, HB1.out⟩
      case round =>
        clear H1 HR HB1
        obtain ⟨p, i, h, D, xf, lp, hi, rfl, rfl, rfl, hm, hh, hx, hr, hb⟩ := hrel
        have MD := hid hm
        have FD := hid hx
        have HS := hid (And.intro hh (And.intro hr hb))
        have t5 : decide ((i : Int) ≤ st.n) = true := by simp; omega
        obtain ⟨f0, f1, f2, f3, f4⟩ := FX7.out.on hb
        obtain ⟨rb, ro, hrx, hrc0⟩ := IF7.out.blk.at lp
        have hrc := cell_on hb hrc0
        have gi := LF.out.ins p lp
        clear hm hx hh hr hb hrc0
        go_wp2_with fail
        clear f0 f1 f2 f3 f4 hrc
        go_loopw [14] (fun jv wx => ∃ (j : Nat) (h : Nat → Bool), j ≤ (F.B p).n ∧ jv = .int .i64 j ∧ HaveB F h D p j ∧ wx.rowIs HB 4 N (fun i => .bool (h i)) ∧ Below w7.heap.size w7 wx) (fun jv _ => (F.B p).n - (intOf jv).toNat)
        case atStart => exact ⟨0, h, Nat.zero_le _, rfl, HS.out.1, HS.out.2.1, HS.out.2.2⟩
        case round =>
          clear HS
          obtain ⟨j, h, hj, rfl, hh, hr, hb⟩ := hrel
          have HS := hid (And.intro hh (And.intro hr hb))
          by_cases lj : j < (F.B p).n
          · obtain ⟨ib, io, hiy, hIA⟩ := (IF7.out.ins p lp).at lj
            have XI := hid hIA
            have ga := LF.out.args p lp j lj
            have gin := LF.out.into p lp j lj
            clear hh hr hb hIA
            have k0 := (XI.out.on HS.out.2.2).c0
            have k5 := (XI.out.on HS.out.2.2).c5
            go_wp2_with fail
            clear k0 k5
            go_loopw [15] (fun qv wy => ∃ q : Nat, q ≤ (F.I p j).args.n ∧ qv = .int .i64 q ∧ wy.rowIs HB 4 N (fun i => .bool (h i)) ∧ Below w7.heap.size w7 wy) (fun qv _ => (F.I p j).args.n - (intOf qv).toNat)
            case atStart => exact ⟨0, Nat.zero_le _, rfl, HS.out.2.1, HS.out.2.2⟩
            case round =>
              obtain ⟨q, hq, rfl, hr, hb⟩ := hrel
              have HQ := hid (And.intro hr hb)
              have X := XI.out.on hb
              have k0 := X.c0
              have k1 := X.c1
              have k2 := X.c2
              have k5 := X.c5
              have k6 := X.c6
              clear hr hb X
              by_cases lq : q < (F.I p j).args.n
              · by_cases ho : (F.I p j).op = 26
                · have hin := phi_into (OF.out.2.2 p lp j lj) ho
                  have lqi : q < (F.I p j).into.n := by omega
                  obtain ⟨jb, jo, hjx, hjc⟩ := ((IF7.out.into p lp j lj).on HQ.out.2).at lqi
                  have e0 : decide (((F.I p j).into.n : Int) ≤ (q : Int)) = false := by simp; omega
                  have e0' : decide ((F.I p j).into.n ≤ q) = false := by simp; omega
                  have hJ0 : 0 ≤ F.J p j q := by
                    obtain ⟨_, _, h3⟩ := (FF.out.2 p lp).2 j lj ho
                    rw [h3 q lqi]; omega
                  by_cases hj2 : F.J p j q = xf
                  · have HV1 := have_phi UF.out lp lj lq HS.out.1 ho FD.out hj2 hJ0
                    have e4 : (F.J p j q != xf) = false := by simpa using hj2
                    rw [ho] at k0
                    clear ho hin hJ0 hj2
                    obtain ⟨pb, po, hpx, hpc⟩ := ((IF7.out.args p lp j lj).on HQ.out.2).at lq
                    obtain ⟨u1, u2, _⟩ := UF.out.2 p lp j lj q lq
                    obtain ⟨a, hae⟩ : ∃ a : Nat, F.A p j q = a := ⟨(F.A p j q).toNat, by omega⟩
                    rw [hae] at hpc HV1 u1 u2
                    simp only [Int.toNat_natCast] at HV1
                    have la : a < N := by have := VN.out; omega
                    have hax := bool_at (g := HB) la
                    have hac := HQ.out.1.cell la
                    simp only [HV1] at hac
                    have e1 : decide ((a : Int) < 1) = false := by simp; omega
                    have e2 : decide ((N : Int) ≤ (a : Int)) = false := by simp; omega
                    have e3 : decide (N ≤ a) = false := by simp; omega
                    clear hae HV1 u1 u2
                    go_wp2_with fail
                    go_round
                    case rel =>
                      first
                        | exact ⟨q + 1, by omega, by go_num, HQ.out.1, HQ.out.2⟩
                        | ((repeat apply Exists.intro); exact ⟨⟨q + 1, by omega, by go_num, HQ.out.1, HQ.out.2⟩, rfl⟩)
                    case measure => simp [intOf]; omega
                  · have e4 : (F.J p j q != xf) = true := by simpa using hj2
                    rw [ho] at k0
                    clear ho hin hJ0 hj2
                    go_wp2_with fail
                    go_round
                    case rel =>
                      first
                        | exact ⟨q + 1, by omega, by go_num, HQ.out.1, HQ.out.2⟩
                        | ((repeat apply Exists.intro); exact ⟨⟨q + 1, by omega, by go_num, HQ.out.1, HQ.out.2⟩, rfl⟩)
                    case measure => simp [intOf]; omega
                · have HV1 := have_use UF.out lp lj lq MD.out HS.out.1 ho
                  have e0 : ((F.I p j).op == 26) = false := by simpa using ho
                  clear ho
                  obtain ⟨pb, po, hpx, hpc⟩ := ((IF7.out.args p lp j lj).on HQ.out.2).at lq
                  obtain ⟨u1, u2, _⟩ := UF.out.2 p lp j lj q lq
                  obtain ⟨a, hae⟩ : ∃ a : Nat, F.A p j q = a := ⟨(F.A p j q).toNat, by omega⟩
                  rw [hae] at hpc HV1 u1 u2
                  simp only [Int.toNat_natCast] at HV1
                  have la : a < N := by have := VN.out; omega
                  have hax := bool_at (g := HB) la
                  have hac := HQ.out.1.cell la
                  simp only [HV1] at hac
                  have e1 : decide ((a : Int) < 1) = false := by simp; omega
                  have e2 : decide ((N : Int) ≤ (a : Int)) = false := by simp; omega
                  have e3 : decide (N ≤ a) = false := by simp; omega
                  clear hae HV1 u1 u2
                  go_wp2_with fail
                  go_round
                  case rel =>
                    first
                      | exact ⟨q + 1, by omega, by go_num, HQ.out.1, HQ.out.2⟩
                      | ((repeat apply Exists.intro); exact ⟨⟨q + 1, by omega, by go_num, HQ.out.1, HQ.out.2⟩, rfl⟩)
                  case measure => simp [intOf]; omega
              · obtain rfl : q = (F.I p j).args.n := by omega
                by_cases hty : (F.I p j).ty = 0
                · have e0 : ((F.I p j).ty != 0) = false := by simpa using hty
                  have HN1 := hid (have_skip HS.out.1 hty)
                  clear hty
                  go_wp2_with fail
                  go_round
                  case rel =>
                    first
                      | exact ⟨j + 1, h, by omega, by go_num, HN1.out, HQ.out.1, HQ.out.2⟩
                      | ((repeat apply Exists.intro); exact ⟨⟨j + 1, h, by omega, by go_num, HN1.out, HQ.out.1, HQ.out.2⟩, rfl⟩)
                  case measure => simp [intOf]; omega
                · have e0 : ((F.I p j).ty != 0) = true := by simpa using hty
                  have hto := UF.out.1 p lp j lj hty
                  have g1 := idx_all F lp lj
                  have g2 : 1 ≤ idx F p j := by have := idx_eq F hty; omega
                  have HN1 := hid (have_put (F := F) (k := j) HS.out.1)
                  obtain ⟨t, ht⟩ : ∃ t, idx F p j = t := ⟨_, rfl⟩
                  rw [ht] at hto HN1 g1 g2
                  rw [hto] at k2
                  have lt : t < N := by have := VN.out; omega
                  have e1 : decide ((t : Int) < 1) = false := by simp; omega
                  have e2 : decide ((N : Int) ≤ (t : Int)) = false := by simp; omega
                  have e3 : decide (N ≤ t) = false := by simp; omega
                  have hax := bool_at (g := HB) lt
                  have hac := HQ.out.1.cell lt
                  have haf := HQ.out.1.frozen t
                  have hal := HQ.out.1.lt
                  clear hty hto ht g1 g2
                  go_wp2_with fail
                  go_round
                  case rel =>
                    have r9 := (HQ.out.1.set t (.bool true)).congr (g := fun i => .bool (updB h t i)) (fun i hi => by unfold updB; split <;> rfl)
                    have b9 : Below w7.heap.size w7 (wr.setCell ⟨HB, t, none⟩ (.bool true)) := Below.setCell HQ.out.2 (by rw [HBE.out]; exact Nat.le_refl _) _
                    first
                      | exact ⟨j + 1, updB h t, by omega, by go_num, HN1.out, r9, b9⟩
                      | ((repeat apply Exists.intro); exact ⟨⟨j + 1, updB h t, by omega, by go_num, HN1.out, r9, b9⟩, rfl⟩)
                  case measure => simp [intOf]; omega
          · obtain rfl : j = (F.B p).n := by omega
            obtain ⟨f0, f1, f2, f3, f4⟩ := FX7.out.on hb
            clear hh hr hb
            go_wp2_with fail
            clear f0 f1 f2 f3 f4
            refine (next_ref F (p : Int) _ (IF7.out.on HS.out.2.2) LF.out).mono ?_
            rintro e w9 ⟨s9, rfl, hn9, hi9, hm9, hb9⟩
            rw [suI_nat] at hn9 hi9
            have hlt9 := HS.out.2.1.lt
            have R9 := hid (HS.out.2.1.of_block (hb9.block HB hlt9))
            have B9 := hid (View.more HS.out.2.2 hb9)
            have I9 := hid hi9
            have N9 := hid hn9
            have H9 := hid HS.out.1
            have s20 : s9.n ≤ 20 := by rw [hn9]; exact su_le LF.out p
            clear hn9 hi9 hm9 hb9 hlt9
            by_cases h9 : s9.n = 0
            · have e1 : ((s9.n : Int) == 0) = true := by simp [h9]
              clear h9
              go_wp2_with fail
              go_ret
              exact ⟨rfl, FIN7.out _ B9.out⟩
            have e1 : ((s9.n : Int) == 0) = false := by simp [h9]
            by_cases hil : i = st.n
            · have e2 : ((i : Int) == (st.n : Int)) = true := by simp [hil]
              clear h9 hil
              go_wp2_with fail
              go_ret
              exact ⟨rfl, FIN7.out _ B9.out⟩
            have e2 : ((i : Int) == (st.n : Int)) = false := by simp; omega
            have li : i < st.n := by omega
            obtain ⟨b1, o1, i1, p1⟩ := (HST7.out.on B9.out).at li
            obtain ⟨y0, hy0, q0, hq0, hq1⟩ := Low.red16 (sf i) (show 0 < s9.n by omega)
            obtain ⟨b2, o2, i2, p2⟩ := I9.out.at hy0
            have hn0 : ((s9.n : Int) = 0) = False := by simp; omega
            have ne9 : s9.n ≠ 0 := h9
            obtain ⟨y, hy⟩ : ∃ y, (su F p).getD y0 0 = y := ⟨_, rfl⟩
            rw [hy] at p2
            have hys : y ∈ su F p := by rw [← hy]; exact getD_mem (by have := N9.out; omega)
            have ly := su_lt F p _ hys
            have M9 := hid (miss_step MD.out hys)
            have F9 := hid (from_step (F := F) MD.out)
            have H10 := hid (have_step (c := y) H9.out)
            clear hys hy hil h9
            go_wp2_with fail
            go_round
            case rel =>
              first
                | exact ⟨y, i + 1, h, _, (p : Int), ly, by omega, rfl, rfl, by go_num, M9.out, H10.out, F9.out, R9.out, B9.out⟩
                | ((repeat apply Exists.intro); exact ⟨⟨y, i + 1, h, _, (p : Int), ly, by omega, rfl, rfl, by go_num, M9.out, H10.out, F9.out, R9.out, B9.out⟩, rfl⟩)
            case measure => simp [intOf]; omega

end Go.Proofs.Ytbmfimojhcdnbaa.Wf
