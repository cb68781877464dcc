/-
  plnlaw3.IrShuffled, walked.
-/
import Derived.Test.YtahjippocejphaaShf0
import Derived.Test.YtahjippocejphaaCopyH
import Derived.Test.YtahjippocejphaaNeatLaw
import Derived.Test.YtahjippocejphaaFirst
import Derived.Test.YtahjippocejphaaSmall
import Derived.Test.YtahjippocejphaaLow
import Derived.Deep.RegionHeld3
import Derived.Deep.CutRange
import Derived.BigRegion
namespace Go.Proofs.Ytahjippocejphaa.Shf
open Go.RowKit View Rd Copy Srt Num Ty Own Go.Proofs.Ytahjippocejphaa.Chk Go.Proofs.Ytahjippocejphaa.Mod

set_option linter.unusedVariables false

set_option maxRecDepth 10000 in
set_option maxHeartbeats 60000000 in
theorem irShuffled_walk (M : MV) (k y0 : Int) (w : World) (hM : InM w M)
    (hfit : ∀ wx, InM wx M → Calls Try.prog 12 #[M.val] wx fun e w' => Ans (fun r => r = true → SmallM M ∧ ∀ i, i < M.fns.n → Ok3 (M.F i)) wx e w') :
    Calls Try.prog 3 #[M.val, .int .i64 k, .int .i64 y0] w fun e w' => e = .returned (.bool true) ∧ Below w.heap.size w w' := by
  have HM := hid hM
  have FIT := hid hfit
  clear hM hfit
  go_enter Try.func3, Try.ntmps3
  go_wp2_with fail
  refine (First.first_any _).mono ?_
  rintro e w1 ⟨rfl, hb1⟩
  have B1 := hid (View.more (new (same w) _) hb1)
  have MW := hid (show w1.cell? ⟨w.heap.size, 0, none⟩ = some (.slice M.ext.a M.ext.n M.ext.c) ∧ w1.cell? ⟨w.heap.size, 1, none⟩ = some (.slice M.glo.a M.glo.n M.glo.c) ∧ w1.cell? ⟨w.heap.size, 2, none⟩ = some (.slice M.tab.a M.tab.n M.tab.c) ∧ w1.cell? ⟨w.heap.size, 3, none⟩ = some (.slice M.fns.a M.fns.n M.fns.c) from
    ⟨cell_on hb1 (show (w.alloc (.cells (mcells M) 27)).cell? ⟨w.heap.size, 0, none⟩ = some (.slice M.ext.a M.ext.n M.ext.c) by simp), cell_on hb1 (show (w.alloc (.cells (mcells M) 27)).cell? ⟨w.heap.size, 1, none⟩ = some (.slice M.glo.a M.glo.n M.glo.c) by simp), cell_on hb1 (show (w.alloc (.cells (mcells M) 27)).cell? ⟨w.heap.size, 2, none⟩ = some (.slice M.tab.a M.tab.n M.tab.c) by simp), cell_on hb1 (show (w.alloc (.cells (mcells M) 27)).cell? ⟨w.heap.size, 3, none⟩ = some (.slice M.fns.a M.fns.n M.fns.c) by simp)⟩)
  obtain ⟨m0, m1, m2, m3⟩ := MW.out
  clear hb1
  go_wp2_with fail
  refine (FIT.out _ (HM.out.on B1.out)).mono ?_
  rintro e w2 ⟨r, rfl, hr, hb2⟩
  have B2 := hid (View.more B1.out hb2)
  have HR := hid hr
  have MX := hid (And.intro (cell_on hb2 MW.out.1) (And.intro (cell_on hb2 MW.out.2.1) (And.intro (cell_on hb2 MW.out.2.2.1) (cell_on hb2 MW.out.2.2.2))))
  clear m0 m1 m2 m3 hr hb2 B1 MW FIT
  cases r with
  | false =>
    go_wp2_with fail
    refine (First.first_any _).mono ?_
    rintro e w3 ⟨rfl, hb3⟩
    go_wp2_with fail
    go_ret
    exact ⟨rfl, View.more B2.out hb3⟩
  | true =>
  obtain ⟨m0, m1, m2, m3⟩ := MX.out
  by_cases h0 : M.fns.n = 0
  · have t0 : ((M.fns.n : Int) == 0) = true := by simp [h0]
    have H0 := hid h0
    clear h0
    go_wp2_with fail
    refine (First.first_any _).mono ?_
    rintro e w3 ⟨rfl, hb3⟩
    go_wp2_with fail
    go_ret
    exact ⟨rfl, View.more B2.out hb3⟩
  have t0 : ((M.fns.n : Int) == 0) = false := by simp [h0]
  obtain ⟨x, hx, k1, hk1, hx0⟩ := Low.red16 k (show 0 < M.fns.n by omega)
  have hn0 : ((M.fns.n : Int) = 0) = False := by simp; omega
  have SM := hid (HR.out rfl).1
  have OK := hid ((HR.out rfl).2 x hx)
  have gf := SM.out.fns
  obtain ⟨fb, fo, hfx, q0, q1, q2, q3, q4⟩ := (HM.out.on B2.out).fns.at underlying25 size33 hx
  have LF := hid (SM.out.light x hx)
  have IF := hid ((HM.out.on B2.out).fnI x hx)
  obtain ⟨F, hF⟩ : ∃ F, M.F x = F := ⟨_, rfl⟩
  rw [hF] at q0 q1 q2 q3 q4 OK LF IF
  have hwl : w.heap.size < w2.heap.size := World.block_lt_of_cell? _ _ m0
  have hfl : fb < w2.heap.size := World.block_lt_of_cell? _ _ q0
  clear hF HR
  go_wp2_with fail
  go_region
  go_wp2_with fail
  have IF2 := hid IF.out
  have B2z := B2.out.size
  have I2 := hid (IF.out.on (Below.drew (new (same w2) (.cells (fcells F) 33))))
  have F2 := hid (show FuncAt (w2.alloc (.cells (fcells F) 33)).drew w2.heap.size F from (FuncAt.alloc w2 F).on (Below.drew (same _)))
  have B2' := hid (show Below w.heap.size w (w2.alloc (.cells (fcells F) 33)).drew from Below.drew (new B2.out _))
  clear m0 m1 m2 m3 MX q0 q1 q2 q3 q4 hfx hk1 hx0 hn0 t0 h0 hwl hfl B2 IF
  refine (copyFunc_ref F _ I2.out LF.out).mono ?_
  rintro e w3 ⟨T, at_, rfl, own, lT, tw, hb3⟩
  obtain ⟨bs, hbs⟩ : ∃ bs, (w2.alloc (.cells (fcells F) 33)).drew.heap.size = bs := ⟨_, rfl⟩
  have hbs2 : bs = w2.heap.size + 1 := by rw [← hbs]; simp
  rw [hbs] at own
  have OW := hid own
  have LT := hid lT
  have TW := hid tw
  have F3 := hid (F2.out.on hb3)
  have I3 := hid (I2.out.on hb3)
  have B3 := hid (View.more B2'.out hb3)
  have C3 := hid (show Below w2.heap.size w2 w3 from View.more (Below.drew (new (same w2) (.cells (fcells F) 33))) hb3)
  have z3 := hb3.size
  have o3 : w2.heap.size < w3.heap.size := by simp at z3; omega
  clear own lT tw hb3 I2 F2 B2' z3 hbs
  go_wp2_with fail
  obtain ⟨fB, hfB⟩ : ∃ fB, w2.heap.size = fB := ⟨_, rfl⟩
  obtain ⟨gB, hgB⟩ : ∃ gB, w3.heap.size = gB := ⟨_, rfl⟩
  obtain ⟨W, hW⟩ : ∃ W, w3.alloc (.cells (fcells T) 33) = W := ⟨_, rfl⟩
  have OW4 := hid (show Own bs W T at_ by rw [← hW]; exact OW.out.on (new (same _) _))
  have LOW := hid (show ∀ x, has T x → 0 < (sl T x).n → fB < at_ x ∧ at_ x < gB from fun x h1 h2 => ⟨by have := OW.out.ge x h1 h2; omega, by rw [← hgB]; exact OW.out.lt x h1 h2⟩)
  have F4 := hid (show FuncAt W fB F by rw [← hW, ← hfB]; exact F3.out.on (new (same _) _))
  have G4 := hid (show FuncAt W gB T by rw [← hW, ← hgB]; exact FuncAt.alloc w3 T)
  have I4 := hid (show In W F by rw [← hW]; exact I3.out.on (new (same _) _))
  have B4 := hid (show Below w.heap.size w W by rw [← hW]; exact new B3.out _)
  have C4 := hid (show Below w2.heap.size w2 W by rw [← hW]; exact new C3.out _)
  simp only [hfB, hgB, hW]
  rw [hfB, hgB] at o3
  clear hW hgB F3 I3 B3 OW
  have nv98 := NeatLaw.total_le LF.out
  obtain ⟨nv, hnv⟩ : ∃ nv, allV F = nv := ⟨_, rfl⟩
  have hnv' : ((F.par.n : Int) + (cnt (fun j => giv (F.I j) (F.B j).n) F.blk.n : Int)) = (nv : Int) := by rw [← hnv]; unfold allV; push_cast; rfl
  have hnle : nv ≤ 98 := by rw [← hnv]; exact nv98
  have hpnv : F.par.n ≤ nv := by rw [← hnv]; unfold allV; omega
  have NV := hid hnv
  clear hnv nv98
  have st0 : Below W.heap.size W W.drew := Below.drew (same _)
  have A0 : ∀ wx, Below W.heap.size W wx → wx.cell? ⟨fB, 0, none⟩ = some (.string F.name) := fun wx h => cell_on h F4.out.c0
  have A1 : ∀ wx, Below W.heap.size W wx → wx.cell? ⟨fB, 1, none⟩ = some (.bool F.out) := fun wx h => cell_on h F4.out.c1
  have A2 : ∀ wx, Below W.heap.size W wx → wx.cell? ⟨fB, 2, none⟩ = some (.slice F.par.a F.par.n F.par.c) := fun wx h => cell_on h F4.out.c2
  have A3 : ∀ wx, Below W.heap.size W wx → wx.cell? ⟨fB, 3, none⟩ = some (.int .i64 F.res) := fun wx h => cell_on h F4.out.c3
  have A4 : ∀ wx, Below W.heap.size W wx → wx.cell? ⟨fB, 4, none⟩ = some (.slice F.blk.a F.blk.n F.blk.c) := fun wx h => cell_on h F4.out.c4
  go_region_held3 (fun wx => Below W.heap.size W wx) (first | exact st0 | exact st1)
    (first
      | (go_at_call 14; refine (values_ref F _ (I4.out.on st0) LF.out).mono ?_; rintro e x1 ⟨rfl, hb⟩; rw [hnv']; have st1 : Below W.heap.size W x1 := View.more st0 hb; clear hb))
  have S1 := hid st1
  have F5 := hid (F4.out.on st1)
  have I5 := hid (I4.out.on st1)
  have G5 := hid (G4.out.on st1)
  have O5 := hid (OW4.out.on st1)
  have B5 := hid (View.more B4.out st1)
  have C5 := hid (View.more C4.out st1)
  have gl5 : gB < x1.heap.size := World.block_lt_of_cell? _ _ G5.out.c0
  clear A0 A1 A2 A3 A4 st0 st1 F4 I4 G4 OW4 B4 S1
  by_cases hnp : nv = F.par.n
  · have t1 : ((nv : Int) == (F.par.n : Int)) = true := by simp [hnp]
    have HNP := hid hnp
    clear hnp
    have st0 : Below x1.heap.size x1 x1.drew := Below.drew (same _)
    have A0 : ∀ wx, Below x1.heap.size x1 wx → wx.cell? ⟨fB, 0, none⟩ = some (.string F.name) := fun wx h => cell_on h F5.out.c0
    have A1 : ∀ wx, Below x1.heap.size x1 wx → wx.cell? ⟨fB, 1, none⟩ = some (.bool F.out) := fun wx h => cell_on h F5.out.c1
    have A2 : ∀ wx, Below x1.heap.size x1 wx → wx.cell? ⟨fB, 2, none⟩ = some (.slice F.par.a F.par.n F.par.c) := fun wx h => cell_on h F5.out.c2
    have A3 : ∀ wx, Below x1.heap.size x1 wx → wx.cell? ⟨fB, 3, none⟩ = some (.int .i64 F.res) := fun wx h => cell_on h F5.out.c3
    have A4 : ∀ wx, Below x1.heap.size x1 wx → wx.cell? ⟨fB, 4, none⟩ = some (.slice F.blk.a F.blk.n F.blk.c) := fun wx h => cell_on h F5.out.c4
    go_wp2_with fail
    go_region_held3 (fun wx => Below x1.heap.size x1 wx) (first | exact st0 | exact st1 | exact st2)
      (first
        | (go_at_call 16; refine (neat_any F _ (I5.out.on st0) LF.out (OK.out.rng (by rw [NV.out]; omega))).mono ?_; rintro e x2 ⟨H, aH, rfl, ownH, neH, hb⟩; have IH := hid ownH.inn; have NH := hid (OK.out.neat F H _ (fun u v _ _ _ _ h => h) (fun v _ => rfl) (shuf_id F) neH); have LH := hid (neats_light neH LF.out); have st1 : Below x1.heap.size x1 x2 := View.more st0 hb; clear hb ownH neH)
        | (go_at_call 15; refine (NeatLaw.same_true H F _ IH.out (I5.out.on st1) LH.out NH.out).mono ?_; rintro e x3 ⟨rfl, hb⟩; have st2 : Below x1.heap.size x1 x3 := View.more st1 hb; clear hb))
    have ST := hid (View.more B5.out st2)
    clear A0 A1 A2 A3 A4 st0 st1 st2
    go_wp2_with fail
    go_ret
    exact ⟨rfl, ST.out⟩
  have t1 : ((nv : Int) == (F.par.n : Int)) = false := by simp; omega
  obtain ⟨y, hy, hy'⟩ : ∃ y : Nat, bits .and .i64 y0 255 = (y : Int) ∧ y < 256 := ⟨(y0 % 256).toNat, by rw [Low.low8]; omega, by omega⟩
  have KF : Hid (∀ wr, Turn (rowsOf T at_) x1 wr → FuncAt wr fB F ∧ FuncAt wr gB T ∧ Below w.heap.size w wr ∧ In wr F) := fun wr t => by
    have nf : ¬ rowsOf T at_ fB := fun ⟨q, h1, h2, h3⟩ => by have := (LOW.out q h1 h2).1; omega
    have ng : ¬ rowsOf T at_ gB := fun ⟨q, h1, h2, h3⟩ => by have := (LOW.out q h1 h2).2; omega
    have nl : ∀ q, q < w2.heap.size → ¬ rowsOf T at_ q := fun q hq ⟨r, h1, h2, h3⟩ => by have := (LOW.out r h1 h2).1; omega
    have c := below_turn C5.out t nl C5.out.size
    have zw := B2z
    exact ⟨F5.out.kept t.kept ⟨by omega, nf⟩, G5.out.kept t.kept ⟨gl5, ng⟩, below_turn B5.out t (fun q hq => nl q (by omega)) (by omega), IF2.out.on c⟩
  have OKT := hid (show ∀ b, b < T.blk.n → ∀ t, t < (T.B b).n → ((T.I b t).ty ≠ 0 → (F.par.n : Int) < (T.I b t).to ∧ (T.I b t).to ≤ (nv : Int)) ∧ (∀ i, i < (T.I b t).args.n → 1 ≤ T.A b t i ∧ T.A b t i ≤ (nv : Int)) ∧ ((T.I b t).op = 26 → (T.I b t).into.n = (T.I b t).args.n) from fun b hb t ht => by
    have hbF : b < F.blk.n := by rw [← TW.out.blk]; exact hb
    have htF : t < (F.B b).n := by rw [← TW.out.B b hbF]; exact ht
    rw [TW.out.ty b hbF t htF, TW.out.to b hbF t htF, TW.out.an b hbF t htF, TW.out.op b hbF t htF, TW.out.jn b hbF t htF, TW.out.A, ← NV.out]
    exact ⟨OK.out.to b hbF t htF, OK.out.arg b hbF t htF, OK.out.phi b hbF t htF⟩)
  have ST0 := hid (show Own bs x1 { T with I := T.I, A := T.A, J := T.J } at_ from O5.out)
  obtain ⟨sf, hsf⟩ : ∃ sf : Int → Int, sA F.par.n (nv - F.par.n) y = sf := ⟨_, rfl⟩
  have SF := hid hsf
  obtain ⟨c0, c1, c2, c3, c4⟩ := G5.out
  clear hsf
  go_wp2_with fail
  clear c0 c1 c2 c3 c4 hy
  go_loopw [11] (fun iv wr => ∃ (b : Nat) (I : Nat → Nat → IV) (A J : Nat → Nat → Nat → Int), b ≤ T.blk.n ∧ iv = .int .i64 b ∧ Own bs wr { T with I := I, A := A, J := J } at_ ∧ UpS T sf b 0 I A J ∧ Turn (rowsOf T at_) x1 wr) (fun iv _ => T.blk.n - (intOf iv).toNat)
  case atStart => exact ⟨0, T.I, T.A, T.J, Nat.zero_le _, rfl, ST0.out, UpS.start T sf, Turn.refl _ _⟩
  case round =>
    as_aux_lemma =>
    clear ST0
    obtain ⟨b, I, A, J, hb, rfl, ho, hup, htu⟩ := hrel
    have HS := hid (And.intro ho (And.intro hup htu))
    obtain ⟨c0, c1, c2, c3, c4⟩ := (KF.out wr htu).2.1
    have gbT := LT.out.blk
    clear ho hup htu
    by_cases lb : b < T.blk.n
    · have gi := LT.out.ins b lb
      go_wp2_with fail
      clear c0 c1 c2 c3 c4
      go_loopw [12] (fun iv wx => ∃ (t : Nat) (I : Nat → Nat → IV) (A J : Nat → Nat → Nat → Int), t ≤ (T.B b).n ∧ iv = .int .i64 t ∧ Own bs wx { T with I := I, A := A, J := J } at_ ∧ UpS T sf b t I A J ∧ Turn (rowsOf T at_) x1 wx) (fun iv _ => (T.B b).n - (intOf iv).toNat)
      case atStart => exact ⟨0, I, A, J, Nat.zero_le _, rfl, HS.out.1, HS.out.2.1, HS.out.2.2⟩
      case round =>
        as_aux_lemma =>
        clear HS
        obtain ⟨t, I, A, J, ht, rfl, ho, hup, htu⟩ := hrel
        have HS := hid (And.intro ho (And.intro hup htu))
        obtain ⟨c0, c1, c2, c3, c4⟩ := (KF.out wr htu).2.1
        obtain ⟨bb, oo, hix, hck⟩ := ho.inn.blk.at lb
        by_cases lt : t < (T.B b).n
        · have hE := hup b lb t lt
          rw [if_neg (by omega)] at hE
          obtain ⟨hi0, hiy⟩ := ho.insAt (j := b) (k := t) lb lt
          have okv := OKT.out b lb t lt
          have glt := LT.out.args b lb t lt
          have glj := LT.out.into b lb t lt
          obtain ⟨v, hv⟩ : ∃ v, T.I b t = v := ⟨_, rfl⟩
          rw [hv] at okv glt glj
          have hI : InsAt wr (at_ (.row b)) (t * 7) v := by
            have h := hi0
            simp only [hE.1, hv] at h
            exact h
          obtain ⟨R, hR⟩ : ∃ R, at_ (.row b) = R := ⟨_, rfl⟩
          have rlow := LOW.out (.row b) lb (show 0 < (T.B b).n by omega)
          have hfr : ∀ i, wr.frozen? ⟨at_ (.row b), i, none⟩ = false := ho.fz (.row b) lb (by show 0 < (T.B b).n; omega)
          rw [hR] at hI hiy rlow hfr
          have HRq := hid hR
          have HV := hid hv
          have HE := hid hE
          have OKV := hid okv
          obtain ⟨d0, d1, d2, d3, d4, d5, d6⟩ := hI
          clear ho hup htu hE hi0 hv hR okv
          go_upto_if 84 with fail
          go_cut [] from 61 to 213 (fun wx => ∃ t' : Int, t' = (if v.ty = 0 then v.to else sf v.to) ∧ Own bs wx { T with I := updTo I b t t', A := A, J := J } at_ ∧ Turn (rowsOf T at_) x1 wx)
          case first =>
            as_aux_lemma =>
            by_cases hty : v.ty = 0
            · have tt : (v.ty != 0) = false := by simp [hty]
              have HTY := hid hty
              clear hty
              go_wp2_with fail
              go_meet
              case rel => exact ⟨v.to, by rw [if_pos HTY.out], by rw [updTo_self (by rw [HE.out.1, HV.out])]; exact HS.out.1, HS.out.2.2⟩
            · have tt : (v.ty != 0) = true := by simp [hty]
              have hto := OKV.out.1 hty
              obtain ⟨r, hm, hr1, hr2⟩ := modE (p := F.par.n) (N := nv - F.par.n) (y := y) (v := v.to) (nvi := (nv : Int)) (by omega) hto.1 (by omega)
              have hr2' : (F.par.n : Int) + 1 + (r : Int) = sf v.to := by rw [hr2, SF.out]
              have HTY := hid hty
              have HR2 := hid hr2'
              have hd0 : (((nv : Int) - (F.par.n : Int)) = 0) = False := by simp; omega
              clear hty hr2 hr2'
              go_wp2_with fail
              go_meet
              case rel =>
                have o1 := HS.out.1.setTo (j := b) (k := t) lb lt ((F.par.n : Int) + 1 + (r : Int))
                rw [HRq.out] at o1
                exact ⟨_, by rw [if_neg HTY.out]; exact HR2.out, o1, HS.out.2.2.setCell (x := ⟨R, t * 7 + 2, none⟩) (.inl ⟨.row b, lb, by show 0 < (T.B b).n; omega, HRq.out.symm⟩) _⟩
          case rest =>
            as_aux_lemma =>
            clear d0 d1 d2 d3 d4 d5 d6 hfr hck c0 c1 c2 c3 c4
            obtain ⟨t', ht', oc, tc⟩ := hcut
            obtain ⟨wc0, hwc0⟩ : ∃ wc0, wc = wc0 := ⟨_, rfl⟩
            rw [hwc0] at oc tc
            rw [hwc0]
            clear hwc0
            have OC := hid oc
            have TC := hid tc
            have HT' := hid ht'
            have hI1 : InsAt wc0 R (t * 7) { v with «to» := t' } := by
              have h := (oc.insAt (j := b) (k := t) lb lt).1
              simp only [updTo_same, HE.out.1, HV.out, HRq.out] at h
              exact h
            have IA := hid (show Ints wc0 v.args (T.A b t) by
              have h := oc.inn.args b lb t lt
              simp only [updTo_args, HE.out.1, HE.out.2.1, HV.out] at h
              exact h)
            have IJ := hid (show Ints wc0 v.into (T.J b t) by
              have h := oc.inn.into b lb t lt
              simp only [updTo_into, HE.out.1, HE.out.2.2, HV.out] at h
              exact h)
            obtain ⟨Q, hQ⟩ : ∃ Q, at_ (.arg b t) = Q := ⟨_, rfl⟩
            obtain ⟨P, hP⟩ : ∃ P, at_ (.int b t) = P := ⟨_, rfl⟩
            have HQ := hid hQ
            have HP := hid hP
            have haS : (sl { T with I := updTo I b t t', A := A, J := J } (.arg b t)) = v.args := by
              show (updTo I b t t' b t).args = v.args
              rw [updTo_args, HE.out.1, HV.out]
            have hjS : (sl { T with I := updTo I b t t', A := A, J := J } (.int b t)) = v.into := by
              show (updTo I b t t' b t).into = v.into
              rw [updTo_into, HE.out.1, HV.out]
            have argf := hid (show 0 < v.args.n → v.args.a = some ⟨Q, 0, none⟩ ∧ Q < gB ∧ fB < Q ∧ (∀ i, wc0.frozen? ⟨Q, i, none⟩ = false) ∧ R ≠ Q from fun h0 => by
              have e := oc.adr (.arg b t) ⟨lb, lt⟩ (by rw [haS]; exact h0)
              have f := oc.fz (.arg b t) ⟨lb, lt⟩ (by rw [haS]; exact h0)
              have l := LOW.out (.arg b t) ⟨lb, lt⟩ (by show 0 < (T.I b t).args.n; rw [HV.out]; exact h0)
              rw [haS, hQ] at e
              rw [hQ] at f l
              refine ⟨e, l.2, l.1, f, fun q => ?_⟩
              have := oc.sep (.row b) (.arg b t) lb ⟨lb, lt⟩ (by show 0 < (T.B b).n; omega) (by rw [haS]; exact h0) (by rw [HRq.out, hQ]; exact q)
              cases this)
            have intf := hid (show 0 < v.into.n → v.into.a = some ⟨P, 0, none⟩ ∧ P < gB ∧ fB < P ∧ (∀ i, wc0.frozen? ⟨P, i, none⟩ = false) ∧ R ≠ P ∧ (0 < v.args.n → P ≠ Q) from fun h0 => by
              have e := oc.adr (.int b t) ⟨lb, lt⟩ (by rw [hjS]; exact h0)
              have f := oc.fz (.int b t) ⟨lb, lt⟩ (by rw [hjS]; exact h0)
              have l := LOW.out (.int b t) ⟨lb, lt⟩ (by show 0 < (T.I b t).into.n; rw [HV.out]; exact h0)
              rw [hjS, hP] at e
              rw [hP] at f l
              refine ⟨e, l.2, l.1, f, fun q => ?_, fun h1 q => ?_⟩
              · have := oc.sep (.row b) (.int b t) lb ⟨lb, lt⟩ (by show 0 < (T.B b).n; omega) (by rw [hjS]; exact h0) (by rw [HRq.out, hP]; exact q)
                cases this
              · have := oc.sep (.int b t) (.arg b t) ⟨lb, lt⟩ ⟨lb, lt⟩ (by rw [hjS]; exact h0) (by rw [haS]; exact h1) (by rw [hP, hQ]; exact q)
                cases this)
            have zc : x1.heap.size ≤ wc0.heap.size := tc.size
            have KI : Hid (∀ wx, Turn (fun q => (q = Q ∧ 0 < v.args.n) ∨ (q = P ∧ 0 < v.into.n)) wc0 wx → InsAt wx R (t * 7) { v with «to» := t' }) := fun wx h => hI1.kept h.kept ⟨by omega, fun q => by
              rcases q with ⟨e, h0⟩ | ⟨e, h0⟩
              · exact (argf.out h0).2.2.2.2 e
              · exact (intf.out h0).2.2.2.2.1 e⟩
            obtain ⟨d0, d1, d2, d3, d4, d5, d6⟩ := hI1
            clear oc tc ht' hQ hP haS hjS
            go_wp2_with fail
            clear d0 d1 d2 d3 d4 d5 d6
            go_loopw [14] (fun iv wx => ∃ i : Nat, i ≤ v.args.n ∧ iv = .int .i64 i ∧ Ints wx v.args (mix i (fun q => sf (T.A b t q)) (T.A b t)) ∧ Turn (fun q => q = Q ∧ 0 < v.args.n) wc0 wx) (fun iv _ => v.args.n - (intOf iv).toNat)
            case atStart => exact ⟨0, Nat.zero_le _, rfl, IA.out.congr (fun i _ => by simp [mix]), Turn.refl _ _⟩
            case round =>
              as_aux_lemma =>
              obtain ⟨i, hi, rfl, is, hts⟩ := hrel
              obtain ⟨d0, d1, d2, d3, d4, d5, d6⟩ := KI.out wr (hts.wide fun q h => .inl h)
              have HI := hid (And.intro is hts)
              by_cases li : i < v.args.n
              · as_aux_lemma =>
                obtain ⟨ka, kl, kg, kf, kne⟩ := argf.out (by omega)
                obtain ⟨x3, y3⟩ := own_at is ka li
                have e1 : mix i (fun q => sf (T.A b t q)) (T.A b t) i = T.A b t i := by simp [mix]
                rw [e1] at y3
                have hrg := OKV.out.2.1 i li
                obtain ⟨ai, hai⟩ : ∃ ai, T.A b t i = ai := ⟨_, rfl⟩
                rw [hai] at y3 hrg
                have HAI := hid hai
                have KA := hid ka
                have f3 : wr.frozen? ⟨Q, i, none⟩ = false := by rw [hts.froz _ (by show Q < _; omega)]; exact kf i
                clear is hts e1 hai ka kf
                by_cases hgt : (F.par.n : Int) < ai
                · have tt : decide ((F.par.n : Int) < ai) = true := by simpa using hgt
                  obtain ⟨r, hm, hr1, hr2⟩ := modE (p := F.par.n) (N := nv - F.par.n) (y := y) (v := ai) (nvi := (nv : Int)) (by omega) hgt (by omega)
                  have hr2' : (F.par.n : Int) + 1 + (r : Int) = sf ai := by rw [hr2, SF.out]
                  have HR2 := hid hr2'
                  have hd0 : (((nv : Int) - (F.par.n : Int)) = 0) = False := by simp; omega
                  clear hr2 hr2'
                  go_wp2_with fail
                  go_region
                  go_wp2_with fail
                  go_round
                  case rel =>
                    have is2 := (own_set HI.out.1 KA.out li ((F.par.n : Int) + 1 + (r : Int))).congr (g := mix (i + 1) (fun q => sf (T.A b t q)) (T.A b t)) (fun q _ => by
                      rw [HR2.out, ← HAI.out]
                      exact mix_step i (fun q => sf (T.A b t q)) (T.A b t) q)
                    exact ⟨i + 1, by omega, by go_num, is2.on (Below.drew (same _)), (HI.out.2.setCell (x := ⟨Q, i, none⟩) (.inl ⟨rfl, by omega⟩) _).drew⟩
                  case measure => simp [intOf]; omega
                · have tt : decide ((F.par.n : Int) < ai) = false := by simpa using hgt
                  have LO := hid (show sf ai = ai by rw [← SF.out]; exact sA_low (by omega))
                  clear hgt
                  go_wp2_with fail
                  go_round
                  case rel => exact ⟨i + 1, by omega, by go_num, HI.out.1.congr (fun q _ => by
                    have := mix_step i (fun q => sf (T.A b t q)) (T.A b t) q
                    rw [← this]
                    by_cases e : q = i
                    · subst e; rw [if_pos rfl, HAI.out, LO.out]; simp [mix, HAI.out]
                    · rw [if_neg e]), HI.out.2⟩
                  case measure => simp [intOf]; omega
              obtain rfl : i = v.args.n := by omega
              have A2 := hid (show Ints wr v.args (fun q => sf (T.A b t q)) from is.congr (fun q hq => by simp [mix, hq]))
              have J2 := hid (show Ints wr v.into (T.J b t) from IJ.out.kept hts.kept (fun q o ha h0 => ⟨Ints_lt IJ.out q o ha h0, fun z => by
                have e := adr_inj (intf.out h0).1 ha
                exact (intf.out h0).2.2.2.2.2 z.2 (by rw [← e]; exact z.1)⟩))
              have T2 := hid (show Turn (fun q => (q = Q ∧ 0 < v.args.n) ∨ (q = P ∧ 0 < v.into.n)) wc0 wr from hts.wide fun q h => .inl h)
              have ROW : Hid (∀ (wx : World) (a' j' : Nat → Int) (rr : Bool), (rr = true → v.op = 26 ∧ 1 < v.into.n) → (∀ q, q < v.args.n → a' q = sf (T.A b t (if rr = true then swi (v.into.n - 1) q else q))) → (∀ q, q < v.into.n → j' q = T.J b t (if rr = true then swi (v.into.n - 1) q else q)) → Ints wx v.args a' → Ints wx v.into j' → Turn (fun q => (q = Q ∧ 0 < v.args.n) ∨ (q = P ∧ 0 < v.into.n)) wc0 wx → ∃ I' A' J', Own bs wx { T with I := I', A := A', J := J' } at_ ∧ UpS T sf b (t + 1) I' A' J' ∧ Turn (rowsOf T at_) x1 wx) := fun wx a' j' rr h1 h2 h3 h4 h5 h6 => by
                have hv2 : (updTo I b t t' b t).args = v.args := by rw [updTo_args, HE.out.1, HV.out]
                have hv3 : (updTo I b t t' b t).into = v.into := by rw [updTo_into, HE.out.1, HV.out]
                have o2 := OC.out.rows h6 (j := b) (k := t) lb lt (fun q hq => by
                  rcases hq with ⟨e, h0⟩ | ⟨e, h0⟩
                  · exact .inl ⟨by rw [HQ.out]; exact e, by show 0 < (updTo I b t t' b t).args.n; rw [hv2]; exact h0⟩
                  · exact .inr ⟨by rw [HP.out]; exact e, by show 0 < (updTo I b t t' b t).into.n; rw [hv3]; exact h0⟩) (a' := a') (j' := j') (by show Ints wx (updTo I b t t' b t).args a'; rw [hv2]; exact h4) (by show Ints wx (updTo I b t t' b t).into j'; rw [hv3]; exact h5)
                refine ⟨_, _, _, o2, HS.out.2.1.put ?_, TC.out.trans (h6.wide fun q hq => ?_)⟩
                · refine ⟨⟨t', by rw [updTo_same, HE.out.1], by rw [HV.out]; exact HT'.out⟩, rr, ?_, ?_, ?_⟩
                  · rw [HV.out]; exact h1
                  · rw [HV.out]; intro q hq; rw [upd_same]; exact h2 q hq
                  · rw [HV.out]; intro q hq; rw [upd_same]; exact h3 q hq
                · rcases hq with ⟨e, h0⟩ | ⟨e, h0⟩
                  · exact ⟨.arg b t, ⟨lb, lt⟩, by show 0 < (T.I b t).args.n; rw [HV.out]; exact h0, by rw [HQ.out]; exact e⟩
                  · exact ⟨.int b t, ⟨lb, lt⟩, by show 0 < (T.I b t).into.n; rw [HV.out]; exact h0, by rw [HP.out]; exact e⟩
              clear is hts HI
              by_cases hph : v.op = 26 ∧ 1 < v.into.n
              · as_aux_lemma =>
                obtain ⟨h26, h1n⟩ := hph
                have tt : (v.op == 26) = true := by simp [h26]
                have t6 : decide ((1 : Int) < v.into.n) = true := by simp; omega
                have han : v.into.n = v.args.n := OKV.out.2.2 h26
                have H26 := hid h26
                have HAN := hid han
                obtain ⟨ka, kl, kg, kf, kne⟩ := argf.out (by omega)
                obtain ⟨ja, jl, jg, jf, jne, jq⟩ := intf.out (by omega)
                have hPQ := jq (by omega)
                have KA := hid ka
                have JA := hid ja
                have lc : ((v.into.n - 1 : Nat) : Int) = (v.into.n : Int) - 1 := by omega
                obtain ⟨x1', y1⟩ := own_at J2.out ja (k := v.into.n - 1) (by omega)
                obtain ⟨x2', y2⟩ := own_at J2.out ja (k := 0) (by omega)
                rw [lc] at x1'
                have x2 : ∀ wx, (Instr.indexAt 30 (.slice v.into.a v.into.n v.into.c) (.int .i64 0)).run Try.prog wx = .ok (.pointer (some ⟨P, 0, none⟩)) wx := by simpa using x2'
                obtain ⟨l, hl⟩ : ∃ l, v.into.n - 1 = l := ⟨_, rfl⟩
                rw [hl] at x1' y1 lc
                have HLq := hid hl
                have f1 : ∀ i, wr.frozen? ⟨P, i, none⟩ = false := fun i => by rw [T2.out.froz _ (by show P < _; omega)]; exact jf i
                have fq : ∀ i, wr.frozen? ⟨Q, i, none⟩ = false := fun i => by rw [T2.out.froz _ (by show Q < _; omega)]; exact kf i
                have FQ := hid fq
                have FC := hid kf
                have zr : wc0.heap.size ≤ wr.heap.size := T2.out.size
                clear h26 han ka ja kf jf x2' hl jq fq
                go_upto_region 27 with fail
                go_cut [] from 61 to 213 (fun wx => Ints wx v.args (fun q => sf (T.A b t q)) ∧ Ints wx v.into (fun q => T.J b t (swi l q)) ∧ Turn (fun q => (q = Q ∧ 0 < v.args.n) ∨ (q = P ∧ 0 < v.into.n)) wc0 wx)
                case first =>
                  as_aux_lemma =>
                  have NX := hid (And.intro (swap_other (g := P) (l := l) (a := .int .i64 (T.J b t l)) (b := .int .i64 (T.J b t 0)) A2.out (fun q o hq h0 => by rw [KA.out] at hq; simp at hq; rw [← hq.1]; exact fun e => hPQ e.symm)) (And.intro (swap_set J2.out JA.out (l := l) (by omega)) (swap_turn (g := P) (l := l) (a := .int .i64 (T.J b t l)) (b := .int .i64 (T.J b t 0)) T2.out (.inr ⟨rfl, by omega⟩))))
                  have s1 : (wr.setCell ⟨P, 0, none⟩ (.int .i64 (T.J b t l))).cell? ⟨R, t * 7 + 6, none⟩ = some (.slice v.into.a v.into.n v.into.c) := cell_other (by intro e; have := congrArg Addr.block e; simp at this; omega) d6
                  have u0 : wr.drew.cell? ⟨R, t * 7 + 6, none⟩ = some (.slice v.into.a v.into.n v.into.c) := d6
                  have u1 : (wr.drew.setCell ⟨P, 0, none⟩ (.int .i64 (T.J b t l))).cell? ⟨R, t * 7 + 6, none⟩ = some (.slice v.into.a v.into.n v.into.c) := s1
                  have u2 : ((wr.drew.setCell ⟨P, 0, none⟩ (.int .i64 (T.J b t l))).setCell ⟨P, l, none⟩ (.int .i64 (T.J b t 0))).cell? ⟨R, t * 7 + 6, none⟩ = some (.slice v.into.a v.into.n v.into.c) := cell_other (by intro e; have := congrArg Addr.block e; simp at this; omega) u1
                  have f10 := f1 0
                  have f1l := f1 l
                  have l0 : l ≠ 0 := by omega
                  clear f1
                  (try clear KF); (try clear LOW); (try clear OKT); (try clear OK); (try clear LF); (try clear LT); (try clear TW); (try clear SM); (try clear HM); (try clear IF2); (try clear C3); (try clear C5); (try clear F5); (try clear I5); (try clear G5); (try clear B5); (try clear O5); (try clear OKV); (try clear HE); (try clear HV); (try clear HS); (try clear OC); (try clear TC); (try clear HT'); (try clear IA); (try clear IJ); (try clear argf); (try clear intf); (try clear KI); (try clear ROW); (try clear A2); (try clear J2); (try clear T2); (try clear NV); (try clear hnv'); (try clear hiy); (try clear hix); (try clear FQ); (try clear FC); (try clear H26); (try clear HAN); (try clear HLq); (try clear SF); (try clear KA); (try clear JA)
                  refine wp_region_noPanic ?_
                  refine wp_region_held_drew (S := fun wx => wx.cell? ⟨R, t * 7 + 6, none⟩ = some (.slice v.into.a v.into.n v.into.c)) (by kernel_rfl) u0 (fun hS => ?_)
                  refine takeAt (i := 0) (d := some 166) (v := ?vn0) rfl (by rfl) (by kernel_rfl) (by kernel_rfl) (by kernel_rfl) (fun _ _ _ h => h) (Or.inl ⟨by rfl, ?yn0⟩) hS ?_
                  case yn0 => intro wx hSw; (go_simp) <;> with_reducible rfl
                  simp only [Act.put, List.setIfInBounds_toArray, List.set_cons_zero, List.set_cons_succ]
                  refine takeAt (i := 1) (d := some 167) (v := ?vn1) rfl (by rfl) (by kernel_rfl) (by kernel_rfl) (by kernel_rfl) (fun _ _ _ h => h) (Or.inl ⟨by rfl, ?yn1⟩) hS ?_
                  case yn1 => intro wx hSw; (go_simp) <;> with_reducible rfl
                  simp only [Act.put, List.setIfInBounds_toArray, List.set_cons_zero, List.set_cons_succ]
                  refine takeAt (i := 2) (d := some 168) (v := ?vn2) rfl (by rfl) (by kernel_rfl) (by kernel_rfl) (by kernel_rfl) (fun _ _ _ h => h) (Or.inl ⟨by rfl, ?yn2⟩) hS ?_
                  case yn2 => intro wx hSw; (go_simp) <;> with_reducible rfl
                  simp only [Act.put, List.setIfInBounds_toArray, List.set_cons_zero, List.set_cons_succ]
                  refine takeAt (i := 3) (d := some 169) (v := ?vn3) rfl (by rfl) (by kernel_rfl) (by kernel_rfl) (by kernel_rfl) (fun _ _ _ h => h) (Or.inl ⟨by rfl, ?yn3⟩) hS ?_
                  case yn3 => intro wx hSw; (go_simp) <;> with_reducible rfl
                  simp only [Act.put, List.setIfInBounds_toArray, List.set_cons_zero, List.set_cons_succ]
                  refine takeAt (i := 4) (d := some 170) (v := ?vn4) rfl (by rfl) (by kernel_rfl) (by kernel_rfl) (by kernel_rfl) (fun _ _ _ h => h) (Or.inl ⟨by rfl, ?yn4⟩) hS ?_
                  case yn4 => intro wx hSw; (go_simp) <;> with_reducible rfl
                  simp only [Act.put, List.setIfInBounds_toArray, List.set_cons_zero, List.set_cons_succ]
                  refine takeAt (i := 5) (d := some 171) (v := ?vn5) rfl (by rfl) (by kernel_rfl) (by kernel_rfl) (by kernel_rfl) (fun _ _ _ h => h) (Or.inl ⟨by rfl, ?yn5⟩) hS ?_
                  case yn5 => intro wx hSw; (go_simp) <;> with_reducible rfl
                  simp only [Act.put, List.setIfInBounds_toArray, List.set_cons_zero, List.set_cons_succ]
                  refine takeAt (i := 6) (d := some 172) (v := ?vn6) rfl (by rfl) (by kernel_rfl) (by kernel_rfl) (by kernel_rfl) (fun _ _ _ h => h) (Or.inl ⟨by rfl, ?yn6⟩) hS ?_
                  case yn6 => intro wx hSw; (go_simp) <;> with_reducible rfl
                  simp only [Act.put, List.setIfInBounds_toArray, List.set_cons_zero, List.set_cons_succ]
                  refine takeAt (i := 7) (d := some 173) (v := ?vn7) rfl (by rfl) (by kernel_rfl) (by kernel_rfl) (by kernel_rfl) (fun _ _ _ h => h) (Or.inl ⟨by rfl, ?yn7⟩) hS ?_
                  case yn7 => intro wx hSw; (go_simp) <;> with_reducible rfl
                  simp only [Act.put, List.setIfInBounds_toArray, List.set_cons_zero, List.set_cons_succ]
                  refine takeAt (i := 8) (d := some 174) (v := ?vn8) rfl (by rfl) (by kernel_rfl) (by kernel_rfl) (by kernel_rfl) (fun _ _ _ h => h) (Or.inl ⟨by rfl, ?yn8⟩) hS ?_
                  case yn8 => intro wx hSw; (go_simp) <;> with_reducible rfl
                  simp only [Act.put, List.setIfInBounds_toArray, List.set_cons_zero, List.set_cons_succ]
                  refine takeAt (i := 9) (d := some 175) (v := ?vn9) rfl (by rfl) (by kernel_rfl) (by kernel_rfl) (by kernel_rfl) (fun _ _ _ h => h) (Or.inl ⟨by rfl, ?yn9⟩) hS ?_
                  case yn9 => intro wx hSw; (go_simp) <;> with_reducible rfl
                  simp only [Act.put, List.setIfInBounds_toArray, List.set_cons_zero, List.set_cons_succ]
                  refine takeAt (i := 10) (d := some 176) (v := ?vn10) rfl (by rfl) (by kernel_rfl) (by kernel_rfl) (by kernel_rfl) (fun _ _ _ h => h) (Or.inl ⟨by rfl, ?yn10⟩) hS ?_
                  case yn10 => intro wx hSw; (go_simp) <;> with_reducible rfl
                  simp only [Act.put, List.setIfInBounds_toArray, List.set_cons_zero, List.set_cons_succ]
                  refine takeAt (i := 11) (d := some 177) (v := ?vn11) rfl (by rfl) (by kernel_rfl) (by kernel_rfl) (by kernel_rfl) (fun _ _ _ h => h) (Or.inl ⟨by rfl, ?yn11⟩) hS ?_
                  case yn11 => intro wx hSw; (go_simp) <;> with_reducible rfl
                  simp only [Act.put, List.setIfInBounds_toArray, List.set_cons_zero, List.set_cons_succ]
                  refine takeAt (i := 12) (d := some 178) (v := ?vn12) rfl (by rfl) (by kernel_rfl) (by kernel_rfl) (by kernel_rfl) (fun _ _ _ h => h) (Or.inl ⟨by rfl, ?yn12⟩) hS ?_
                  case yn12 => intro wx hSw; (go_simp) <;> with_reducible rfl
                  simp only [Act.put, List.setIfInBounds_toArray, List.set_cons_zero, List.set_cons_succ]
                  refine takeAt (i := 13) (d := some 179) (v := ?vn13) rfl (by rfl) (by kernel_rfl) (by kernel_rfl) (by kernel_rfl) (fun _ _ _ h => h) (Or.inl ⟨by rfl, ?yn13⟩) hS ?_
                  case yn13 => intro wx hSw; (go_simp) <;> with_reducible rfl
                  simp only [Act.put, List.setIfInBounds_toArray, List.set_cons_zero, List.set_cons_succ]
                  refine takeAt (i := 14) (d := some 180) (v := ?vn14) rfl (by rfl) (by kernel_rfl) (by kernel_rfl) (by kernel_rfl) (fun _ _ _ h => h) (Or.inl ⟨by rfl, ?yn14⟩) hS ?_
                  case yn14 => intro wx hSw; (go_simp) <;> with_reducible rfl
                  simp only [Act.put, List.setIfInBounds_toArray, List.set_cons_zero, List.set_cons_succ]
                  refine takeAt (i := 16) (d := some 182) (v := ?vn16) rfl (by rfl) (by kernel_rfl) (by kernel_rfl) (by kernel_rfl) (fun _ _ _ h => h) (Or.inl ⟨by rfl, ?yn16⟩) hS ?_
                  case yn16 => intro wx hSw; (go_simp) <;> with_reducible rfl
                  simp only [Act.put, List.setIfInBounds_toArray, List.set_cons_zero, List.set_cons_succ]
                  refine takeAt (i := 17) (d := some 183) (v := ?vn17) rfl (by rfl) (by kernel_rfl) (by kernel_rfl) (by kernel_rfl) (fun _ _ _ h => h) (Or.inl ⟨by rfl, ?yn17⟩) hS ?_
                  case yn17 => intro wx hSw; (go_simp) <;> with_reducible rfl
                  simp only [Act.put, List.setIfInBounds_toArray, List.set_cons_zero, List.set_cons_succ]
                  refine takeAt (i := 18) (d := some 184) (v := ?vn18) rfl (by rfl) (by kernel_rfl) (by kernel_rfl) (by kernel_rfl) (fun _ _ _ h => h) (Or.inl ⟨by rfl, ?yn18⟩) hS ?_
                  case yn18 => intro wx hSw; (go_simp) <;> with_reducible rfl
                  simp only [Act.put, List.setIfInBounds_toArray, List.set_cons_zero, List.set_cons_succ]
                  refine takeAt (i := 19) (d := some 185) (v := ?vn19) rfl (by rfl) (by kernel_rfl) (by kernel_rfl) (by kernel_rfl) (fun _ _ _ h => h) (Or.inl ⟨by rfl, ?yn19⟩) hS ?_
                  case yn19 => intro wx hSw; (go_simp) <;> with_reducible rfl
                  simp only [Act.put, List.setIfInBounds_toArray, List.set_cons_zero, List.set_cons_succ]
                  refine takeAt (i := 20) (d := some 186) (v := ?vn20) rfl (by rfl) (by kernel_rfl) (by kernel_rfl) (by kernel_rfl) (fun _ _ _ h => h) (Or.inl ⟨by rfl, ?yn20⟩) hS ?_
                  case yn20 => intro wx hSw; (go_simp) <;> with_reducible rfl
                  simp only [Act.put, List.setIfInBounds_toArray, List.set_cons_zero, List.set_cons_succ]
                  refine wpAnyH_ready (rs := [15, 21]) (by kernel_rfl) (by simp) ?_
                  refine AllReadyH.cons rfl (fun K hK => ?_) (AllReadyH.cons rfl (fun K hK => ?_) AllReadyH.nil)
                  · go_simp
                    refine hK.out _ _ u0 (fun _ => ?_)
                    clear hK K
                    replace hS := u0
                    try simp only [Act.put, List.setIfInBounds_toArray, List.set_cons_zero, List.set_cons_succ]
                    refine wpAnyH_ready (rs := [21]) (by kernel_rfl) (by simp) ?_
                    refine AllReadyH.cons rfl (fun K hK => ?_) AllReadyH.nil
                    go_simp
                    refine hK.out _ _ u0 (fun _ => ?_)
                    clear hK K
                    replace hS := u0
                    try simp only [Act.put, List.setIfInBounds_toArray, List.set_cons_zero, List.set_cons_succ]
                    refine takeAt (i := 22) (d := some 188) (v := ?vnx22) rfl (by rfl) (by kernel_rfl) (by kernel_rfl) (by kernel_rfl) (fun _ _ _ h => h) (Or.inl ⟨by rfl, ?ynx22⟩) hS ?_
                    case ynx22 => intro wx hSw; (go_simp) <;> with_reducible rfl
                    simp only [Act.put, List.setIfInBounds_toArray, List.set_cons_zero, List.set_cons_succ]
                    refine wpAnyH_ready (rs := [23]) (by kernel_rfl) (by simp) ?_
                    refine AllReadyH.cons rfl (fun K hK => ?_) AllReadyH.nil
                    go_simp
                    refine hK.out _ _ u1 (fun _ => ?_)
                    clear hK K
                    replace hS := u1
                    try simp only [Act.put, List.setIfInBounds_toArray, List.set_cons_zero, List.set_cons_succ]
                    refine takeAt (i := 24) (d := some 189) (v := ?vnx24) rfl (by rfl) (by kernel_rfl) (by kernel_rfl) (by kernel_rfl) (fun _ _ _ h => h) (Or.inl ⟨by rfl, ?ynx24⟩) hS ?_
                    case ynx24 => intro wx hSw; (go_simp) <;> with_reducible rfl
                    simp only [Act.put, List.setIfInBounds_toArray, List.set_cons_zero, List.set_cons_succ]
                    refine wpAnyH_ready (rs := [25]) (by kernel_rfl) (by simp) ?_
                    refine AllReadyH.cons rfl (fun K hK => ?_) AllReadyH.nil
                    go_simp
                    refine hK.out _ _ u2 (fun _ => ?_)
                    clear hK K
                    replace hS := u2
                    try simp only [Act.put, List.setIfInBounds_toArray, List.set_cons_zero, List.set_cons_succ]
                    refine wpAnyH_done (by kernel_rfl) ?_ _
                    refine NoPanic.normal ?_
                    go_wp2_with fail
                    go_meet
                    case rel => exact NX.out
                  · go_simp
                    refine hK.out _ _ u0 (fun _ => ?_)
                    clear hK K
                    replace hS := u0
                    try simp only [Act.put, List.setIfInBounds_toArray, List.set_cons_zero, List.set_cons_succ]
                    refine wpAnyH_ready (rs := [15]) (by kernel_rfl) (by simp) ?_
                    refine AllReadyH.cons rfl (fun K hK => ?_) AllReadyH.nil
                    go_simp
                    refine hK.out _ _ u0 (fun _ => ?_)
                    clear hK K
                    replace hS := u0
                    try simp only [Act.put, List.setIfInBounds_toArray, List.set_cons_zero, List.set_cons_succ]
                    refine takeAt (i := 22) (d := some 188) (v := ?vny22) rfl (by rfl) (by kernel_rfl) (by kernel_rfl) (by kernel_rfl) (fun _ _ _ h => h) (Or.inl ⟨by rfl, ?yny22⟩) hS ?_
                    case yny22 => intro wx hSw; (go_simp) <;> with_reducible rfl
                    simp only [Act.put, List.setIfInBounds_toArray, List.set_cons_zero, List.set_cons_succ]
                    refine wpAnyH_ready (rs := [23]) (by kernel_rfl) (by simp) ?_
                    refine AllReadyH.cons rfl (fun K hK => ?_) AllReadyH.nil
                    go_simp
                    refine hK.out _ _ u1 (fun _ => ?_)
                    clear hK K
                    replace hS := u1
                    try simp only [Act.put, List.setIfInBounds_toArray, List.set_cons_zero, List.set_cons_succ]
                    refine takeAt (i := 24) (d := some 189) (v := ?vny24) rfl (by rfl) (by kernel_rfl) (by kernel_rfl) (by kernel_rfl) (fun _ _ _ h => h) (Or.inl ⟨by rfl, ?yny24⟩) hS ?_
                    case yny24 => intro wx hSw; (go_simp) <;> with_reducible rfl
                    simp only [Act.put, List.setIfInBounds_toArray, List.set_cons_zero, List.set_cons_succ]
                    refine wpAnyH_ready (rs := [25]) (by kernel_rfl) (by simp) ?_
                    refine AllReadyH.cons rfl (fun K hK => ?_) AllReadyH.nil
                    go_simp
                    refine hK.out _ _ u2 (fun _ => ?_)
                    clear hK K
                    replace hS := u2
                    try simp only [Act.put, List.setIfInBounds_toArray, List.set_cons_zero, List.set_cons_succ]
                    refine wpAnyH_done (by kernel_rfl) ?_ _
                    refine NoPanic.normal ?_
                    go_wp2_with fail
                    go_meet
                    case rel => exact NX.out
                case rest =>
                  as_aux_lemma =>
                  clear d0 d1 d2 d3 d4 d5 d6 y1 y2 x1' x2 f1 A2 J2
                  obtain ⟨a3, j3, t3⟩ := hcut
                  obtain ⟨wd, hwd⟩ : ∃ wd, wc = wd := ⟨_, rfl⟩
                  rw [hwd] at a3 j3 t3
                  rw [hwd]
                  clear hwd
                  obtain ⟨d0, d1, d2, d3, d4, d5, d6⟩ := KI.out wd t3
                  have A3 := hid a3
                  have J3 := hid j3
                  have T3 := hid t3
                  obtain ⟨x1', y1⟩ := own_at a3 KA.out (k := l) (by have := HAN.out; omega)
                  obtain ⟨x2', y2⟩ := own_at a3 KA.out (k := 0) (by have := HAN.out; omega)
                  rw [lc] at x1'
                  have x2 : ∀ wx, (Instr.indexAt 30 (.slice v.args.a v.args.n v.args.c) (.int .i64 0)).run Try.prog wx = .ok (.pointer (some ⟨Q, 0, none⟩)) wx := by simpa using x2'
                  have zd : wc0.heap.size ≤ wd.heap.size := t3.size
                  have f1 : ∀ i, wd.frozen? ⟨Q, i, none⟩ = false := fun i => by rw [t3.froz _ (by show Q < _; omega)]; exact FC.out i
                  clear a3 j3 t3 x2'
                  go_upto_region 28 with fail
                  · as_aux_lemma =>
                    have NX := hid (And.intro (swap_set A3.out KA.out (l := l) (by have := HAN.out; omega)) (And.intro (swap_other (g := Q) (l := l) (a := .int .i64 (sf (T.A b t l))) (b := .int .i64 (sf (T.A b t 0))) J3.out (fun q o hq h0 => by rw [JA.out] at hq; simp at hq; rw [← hq.1]; exact hPQ)) (swap_turn (g := Q) (l := l) (a := .int .i64 (sf (T.A b t l))) (b := .int .i64 (sf (T.A b t 0))) T3.out (.inl ⟨rfl, by have := HAN.out; omega⟩))))
                    have s1 : (wd.setCell ⟨Q, 0, none⟩ (.int .i64 (sf (T.A b t l)))).cell? ⟨R, t * 7 + 5, none⟩ = some (.slice v.args.a v.args.n v.args.c) := cell_other (by intro e; have := congrArg Addr.block e; simp at this; omega) d5
                    have u0 : wd.drew.cell? ⟨R, t * 7 + 5, none⟩ = some (.slice v.args.a v.args.n v.args.c) := d5
                    have u1 : (wd.drew.setCell ⟨Q, 0, none⟩ (.int .i64 (sf (T.A b t l)))).cell? ⟨R, t * 7 + 5, none⟩ = some (.slice v.args.a v.args.n v.args.c) := s1
                    have u2 : ((wd.drew.setCell ⟨Q, 0, none⟩ (.int .i64 (sf (T.A b t l)))).setCell ⟨Q, l, none⟩ (.int .i64 (sf (T.A b t 0)))).cell? ⟨R, t * 7 + 5, none⟩ = some (.slice v.args.a v.args.n v.args.c) := cell_other (by intro e; have := congrArg Addr.block e; simp at this; omega) u1
                    have f10 := f1 0
                    have f1l := f1 l
                    have l0 : l ≠ 0 := by omega
                    have han2 := HAN.out
                    have FIN := hid (ROW.out _ _ _ true (fun _ => ⟨H26.out, h1n⟩) (fun q _ => by rw [if_pos rfl, HLq.out]) (fun q _ => by rw [if_pos rfl, HLq.out]) NX.out.1 NX.out.2.1 NX.out.2.2)
                    clear han2 f1
                    (try clear KF); (try clear LOW); (try clear OKT); (try clear OK); (try clear LF); (try clear LT); (try clear TW); (try clear SM); (try clear HM); (try clear IF2); (try clear C3); (try clear C5); (try clear F5); (try clear I5); (try clear G5); (try clear B5); (try clear O5); (try clear OKV); (try clear HE); (try clear HV); (try clear HS); (try clear OC); (try clear TC); (try clear HT'); (try clear IA); (try clear IJ); (try clear argf); (try clear intf); (try clear KI); (try clear ROW); (try clear A3); (try clear J3); (try clear T3); (try clear T2); (try clear NX); (try clear NV); (try clear hnv'); (try clear hiy); (try clear hix); (try clear FQ); (try clear FC); (try clear H26); (try clear HAN); (try clear HLq); (try clear SF); (try clear KA); (try clear JA)
                    refine wp_region_noPanic ?_
                    refine wp_region_held_drew (S := fun wx => wx.cell? ⟨R, t * 7 + 5, none⟩ = some (.slice v.args.a v.args.n v.args.c)) (by kernel_rfl) u0 (fun hS => ?_)
                    refine takeAt (i := 0) (d := some 190) (v := ?vm0) rfl (by rfl) (by kernel_rfl) (by kernel_rfl) (by kernel_rfl) (fun _ _ _ h => h) (Or.inl ⟨by rfl, ?ym0⟩) hS ?_
                    case ym0 => intro wx hSw; (go_simp) <;> with_reducible rfl
                    simp only [Act.put, List.setIfInBounds_toArray, List.set_cons_zero, List.set_cons_succ]
                    refine takeAt (i := 1) (d := some 191) (v := ?vm1) rfl (by rfl) (by kernel_rfl) (by kernel_rfl) (by kernel_rfl) (fun _ _ _ h => h) (Or.inl ⟨by rfl, ?ym1⟩) hS ?_
                    case ym1 => intro wx hSw; (go_simp) <;> with_reducible rfl
                    simp only [Act.put, List.setIfInBounds_toArray, List.set_cons_zero, List.set_cons_succ]
                    refine takeAt (i := 2) (d := some 192) (v := ?vm2) rfl (by rfl) (by kernel_rfl) (by kernel_rfl) (by kernel_rfl) (fun _ _ _ h => h) (Or.inl ⟨by rfl, ?ym2⟩) hS ?_
                    case ym2 => intro wx hSw; (go_simp) <;> with_reducible rfl
                    simp only [Act.put, List.setIfInBounds_toArray, List.set_cons_zero, List.set_cons_succ]
                    refine takeAt (i := 3) (d := some 193) (v := ?vm3) rfl (by rfl) (by kernel_rfl) (by kernel_rfl) (by kernel_rfl) (fun _ _ _ h => h) (Or.inl ⟨by rfl, ?ym3⟩) hS ?_
                    case ym3 => intro wx hSw; (go_simp) <;> with_reducible rfl
                    simp only [Act.put, List.setIfInBounds_toArray, List.set_cons_zero, List.set_cons_succ]
                    refine takeAt (i := 4) (d := some 194) (v := ?vm4) rfl (by rfl) (by kernel_rfl) (by kernel_rfl) (by kernel_rfl) (fun _ _ _ h => h) (Or.inl ⟨by rfl, ?ym4⟩) hS ?_
                    case ym4 => intro wx hSw; (go_simp) <;> with_reducible rfl
                    simp only [Act.put, List.setIfInBounds_toArray, List.set_cons_zero, List.set_cons_succ]
                    refine takeAt (i := 5) (d := some 195) (v := ?vm5) rfl (by rfl) (by kernel_rfl) (by kernel_rfl) (by kernel_rfl) (fun _ _ _ h => h) (Or.inl ⟨by rfl, ?ym5⟩) hS ?_
                    case ym5 => intro wx hSw; (go_simp) <;> with_reducible rfl
                    simp only [Act.put, List.setIfInBounds_toArray, List.set_cons_zero, List.set_cons_succ]
                    refine takeAt (i := 6) (d := some 196) (v := ?vm6) rfl (by rfl) (by kernel_rfl) (by kernel_rfl) (by kernel_rfl) (fun _ _ _ h => h) (Or.inl ⟨by rfl, ?ym6⟩) hS ?_
                    case ym6 => intro wx hSw; (go_simp) <;> with_reducible rfl
                    simp only [Act.put, List.setIfInBounds_toArray, List.set_cons_zero, List.set_cons_succ]
                    refine takeAt (i := 7) (d := some 197) (v := ?vm7) rfl (by rfl) (by kernel_rfl) (by kernel_rfl) (by kernel_rfl) (fun _ _ _ h => h) (Or.inl ⟨by rfl, ?ym7⟩) hS ?_
                    case ym7 => intro wx hSw; (go_simp) <;> with_reducible rfl
                    simp only [Act.put, List.setIfInBounds_toArray, List.set_cons_zero, List.set_cons_succ]
                    refine takeAt (i := 8) (d := some 198) (v := ?vm8) rfl (by rfl) (by kernel_rfl) (by kernel_rfl) (by kernel_rfl) (fun _ _ _ h => h) (Or.inl ⟨by rfl, ?ym8⟩) hS ?_
                    case ym8 => intro wx hSw; (go_simp) <;> with_reducible rfl
                    simp only [Act.put, List.setIfInBounds_toArray, List.set_cons_zero, List.set_cons_succ]
                    refine takeAt (i := 9) (d := some 199) (v := ?vm9) rfl (by rfl) (by kernel_rfl) (by kernel_rfl) (by kernel_rfl) (fun _ _ _ h => h) (Or.inl ⟨by rfl, ?ym9⟩) hS ?_
                    case ym9 => intro wx hSw; (go_simp) <;> with_reducible rfl
                    simp only [Act.put, List.setIfInBounds_toArray, List.set_cons_zero, List.set_cons_succ]
                    refine takeAt (i := 10) (d := some 200) (v := ?vm10) rfl (by rfl) (by kernel_rfl) (by kernel_rfl) (by kernel_rfl) (fun _ _ _ h => h) (Or.inl ⟨by rfl, ?ym10⟩) hS ?_
                    case ym10 => intro wx hSw; (go_simp) <;> with_reducible rfl
                    simp only [Act.put, List.setIfInBounds_toArray, List.set_cons_zero, List.set_cons_succ]
                    refine takeAt (i := 11) (d := some 201) (v := ?vm11) rfl (by rfl) (by kernel_rfl) (by kernel_rfl) (by kernel_rfl) (fun _ _ _ h => h) (Or.inl ⟨by rfl, ?ym11⟩) hS ?_
                    case ym11 => intro wx hSw; (go_simp) <;> with_reducible rfl
                    simp only [Act.put, List.setIfInBounds_toArray, List.set_cons_zero, List.set_cons_succ]
                    refine takeAt (i := 12) (d := some 202) (v := ?vm12) rfl (by rfl) (by kernel_rfl) (by kernel_rfl) (by kernel_rfl) (fun _ _ _ h => h) (Or.inl ⟨by rfl, ?ym12⟩) hS ?_
                    case ym12 => intro wx hSw; (go_simp) <;> with_reducible rfl
                    simp only [Act.put, List.setIfInBounds_toArray, List.set_cons_zero, List.set_cons_succ]
                    refine takeAt (i := 13) (d := some 203) (v := ?vm13) rfl (by rfl) (by kernel_rfl) (by kernel_rfl) (by kernel_rfl) (fun _ _ _ h => h) (Or.inl ⟨by rfl, ?ym13⟩) hS ?_
                    case ym13 => intro wx hSw; (go_simp) <;> with_reducible rfl
                    simp only [Act.put, List.setIfInBounds_toArray, List.set_cons_zero, List.set_cons_succ]
                    refine takeAt (i := 14) (d := some 204) (v := ?vm14) rfl (by rfl) (by kernel_rfl) (by kernel_rfl) (by kernel_rfl) (fun _ _ _ h => h) (Or.inl ⟨by rfl, ?ym14⟩) hS ?_
                    case ym14 => intro wx hSw; (go_simp) <;> with_reducible rfl
                    simp only [Act.put, List.setIfInBounds_toArray, List.set_cons_zero, List.set_cons_succ]
                    refine takeAt (i := 16) (d := some 206) (v := ?vm16) rfl (by rfl) (by kernel_rfl) (by kernel_rfl) (by kernel_rfl) (fun _ _ _ h => h) (Or.inl ⟨by rfl, ?ym16⟩) hS ?_
                    case ym16 => intro wx hSw; (go_simp) <;> with_reducible rfl
                    simp only [Act.put, List.setIfInBounds_toArray, List.set_cons_zero, List.set_cons_succ]
                    refine takeAt (i := 17) (d := some 207) (v := ?vm17) rfl (by rfl) (by kernel_rfl) (by kernel_rfl) (by kernel_rfl) (fun _ _ _ h => h) (Or.inl ⟨by rfl, ?ym17⟩) hS ?_
                    case ym17 => intro wx hSw; (go_simp) <;> with_reducible rfl
                    simp only [Act.put, List.setIfInBounds_toArray, List.set_cons_zero, List.set_cons_succ]
                    refine takeAt (i := 18) (d := some 208) (v := ?vm18) rfl (by rfl) (by kernel_rfl) (by kernel_rfl) (by kernel_rfl) (fun _ _ _ h => h) (Or.inl ⟨by rfl, ?ym18⟩) hS ?_
                    case ym18 => intro wx hSw; (go_simp) <;> with_reducible rfl
                    simp only [Act.put, List.setIfInBounds_toArray, List.set_cons_zero, List.set_cons_succ]
                    refine takeAt (i := 19) (d := some 209) (v := ?vm19) rfl (by rfl) (by kernel_rfl) (by kernel_rfl) (by kernel_rfl) (fun _ _ _ h => h) (Or.inl ⟨by rfl, ?ym19⟩) hS ?_
                    case ym19 => intro wx hSw; (go_simp) <;> with_reducible rfl
                    simp only [Act.put, List.setIfInBounds_toArray, List.set_cons_zero, List.set_cons_succ]
                    refine takeAt (i := 20) (d := some 210) (v := ?vm20) rfl (by rfl) (by kernel_rfl) (by kernel_rfl) (by kernel_rfl) (fun _ _ _ h => h) (Or.inl ⟨by rfl, ?ym20⟩) hS ?_
                    case ym20 => intro wx hSw; (go_simp) <;> with_reducible rfl
                    simp only [Act.put, List.setIfInBounds_toArray, List.set_cons_zero, List.set_cons_succ]
                    refine wpAnyH_ready (rs := [15, 21]) (by kernel_rfl) (by simp) ?_
                    refine AllReadyH.cons rfl (fun K hK => ?_) (AllReadyH.cons rfl (fun K hK => ?_) AllReadyH.nil)
                    · go_simp
                      refine hK.out _ _ u0 (fun _ => ?_)
                      clear hK K
                      replace hS := u0
                      try simp only [Act.put, List.setIfInBounds_toArray, List.set_cons_zero, List.set_cons_succ]
                      refine wpAnyH_ready (rs := [21]) (by kernel_rfl) (by simp) ?_
                      refine AllReadyH.cons rfl (fun K hK => ?_) AllReadyH.nil
                      go_simp
                      refine hK.out _ _ u0 (fun _ => ?_)
                      clear hK K
                      replace hS := u0
                      try simp only [Act.put, List.setIfInBounds_toArray, List.set_cons_zero, List.set_cons_succ]
                      refine takeAt (i := 22) (d := some 212) (v := ?vmx22) rfl (by rfl) (by kernel_rfl) (by kernel_rfl) (by kernel_rfl) (fun _ _ _ h => h) (Or.inl ⟨by rfl, ?ymx22⟩) hS ?_
                      case ymx22 => intro wx hSw; (go_simp) <;> with_reducible rfl
                      simp only [Act.put, List.setIfInBounds_toArray, List.set_cons_zero, List.set_cons_succ]
                      refine wpAnyH_ready (rs := [23]) (by kernel_rfl) (by simp) ?_
                      refine AllReadyH.cons rfl (fun K hK => ?_) AllReadyH.nil
                      go_simp
                      refine hK.out _ _ u1 (fun _ => ?_)
                      clear hK K
                      replace hS := u1
                      try simp only [Act.put, List.setIfInBounds_toArray, List.set_cons_zero, List.set_cons_succ]
                      refine takeAt (i := 24) (d := some 213) (v := ?vmx24) rfl (by rfl) (by kernel_rfl) (by kernel_rfl) (by kernel_rfl) (fun _ _ _ h => h) (Or.inl ⟨by rfl, ?ymx24⟩) hS ?_
                      case ymx24 => intro wx hSw; (go_simp) <;> with_reducible rfl
                      simp only [Act.put, List.setIfInBounds_toArray, List.set_cons_zero, List.set_cons_succ]
                      refine wpAnyH_ready (rs := [25]) (by kernel_rfl) (by simp) ?_
                      refine AllReadyH.cons rfl (fun K hK => ?_) AllReadyH.nil
                      go_simp
                      refine hK.out _ _ u2 (fun _ => ?_)
                      clear hK K
                      replace hS := u2
                      try simp only [Act.put, List.setIfInBounds_toArray, List.set_cons_zero, List.set_cons_succ]
                      refine wpAnyH_done (by kernel_rfl) ?_ _
                      refine NoPanic.normal ?_
                      go_wp2_with fail
                      go_round
                      case rel =>
                        obtain ⟨I2, A3, J3, h1, h2, h3⟩ := FIN.out
                        first
                          | exact ⟨t + 1, I2, A3, J3, by omega, by go_num, h1, h2, h3⟩
                          | ((repeat apply Exists.intro); exact ⟨⟨t + 1, I2, A3, J3, by omega, by go_num, h1, h2, h3⟩, rfl⟩)
                      case measure => simp [intOf]; omega
                    · go_simp
                      refine hK.out _ _ u0 (fun _ => ?_)
                      clear hK K
                      replace hS := u0
                      try simp only [Act.put, List.setIfInBounds_toArray, List.set_cons_zero, List.set_cons_succ]
                      refine wpAnyH_ready (rs := [15]) (by kernel_rfl) (by simp) ?_
                      refine AllReadyH.cons rfl (fun K hK => ?_) AllReadyH.nil
                      go_simp
                      refine hK.out _ _ u0 (fun _ => ?_)
                      clear hK K
                      replace hS := u0
                      try simp only [Act.put, List.setIfInBounds_toArray, List.set_cons_zero, List.set_cons_succ]
                      refine takeAt (i := 22) (d := some 212) (v := ?vmy22) rfl (by rfl) (by kernel_rfl) (by kernel_rfl) (by kernel_rfl) (fun _ _ _ h => h) (Or.inl ⟨by rfl, ?ymy22⟩) hS ?_
                      case ymy22 => intro wx hSw; (go_simp) <;> with_reducible rfl
                      simp only [Act.put, List.setIfInBounds_toArray, List.set_cons_zero, List.set_cons_succ]
                      refine wpAnyH_ready (rs := [23]) (by kernel_rfl) (by simp) ?_
                      refine AllReadyH.cons rfl (fun K hK => ?_) AllReadyH.nil
                      go_simp
                      refine hK.out _ _ u1 (fun _ => ?_)
                      clear hK K
                      replace hS := u1
                      try simp only [Act.put, List.setIfInBounds_toArray, List.set_cons_zero, List.set_cons_succ]
                      refine takeAt (i := 24) (d := some 213) (v := ?vmy24) rfl (by rfl) (by kernel_rfl) (by kernel_rfl) (by kernel_rfl) (fun _ _ _ h => h) (Or.inl ⟨by rfl, ?ymy24⟩) hS ?_
                      case ymy24 => intro wx hSw; (go_simp) <;> with_reducible rfl
                      simp only [Act.put, List.setIfInBounds_toArray, List.set_cons_zero, List.set_cons_succ]
                      refine wpAnyH_ready (rs := [25]) (by kernel_rfl) (by simp) ?_
                      refine AllReadyH.cons rfl (fun K hK => ?_) AllReadyH.nil
                      go_simp
                      refine hK.out _ _ u2 (fun _ => ?_)
                      clear hK K
                      replace hS := u2
                      try simp only [Act.put, List.setIfInBounds_toArray, List.set_cons_zero, List.set_cons_succ]
                      refine wpAnyH_done (by kernel_rfl) ?_ _
                      refine NoPanic.normal ?_
                      go_wp2_with fail
                      go_round
                      case rel =>
                        obtain ⟨I2, A3, J3, h1, h2, h3⟩ := FIN.out
                        first
                          | exact ⟨t + 1, I2, A3, J3, by omega, by go_num, h1, h2, h3⟩
                          | ((repeat apply Exists.intro); exact ⟨⟨t + 1, I2, A3, J3, by omega, by go_num, h1, h2, h3⟩, rfl⟩)
                      case measure => simp [intOf]; omega
              · as_aux_lemma =>
                have FIN := hid (ROW.out wr _ _ false (fun h => by cases h) (fun q _ => rfl) (fun q _ => rfl) A2.out J2.out T2.out)
                have FINR := hid (show ∃ (t2 : Nat) (I2 : Nat → Nat → IV) (A2 J2 : Nat → Nat → Nat → Int), t2 ≤ (T.B b).n ∧ Value.int .i64 ((t : Int) + 1) = .int .i64 t2 ∧ Own bs wr { T with I := I2, A := A2, J := J2 } at_ ∧ UpS T sf b t2 I2 A2 J2 ∧ Turn (rowsOf T at_) x1 wr from by
                  obtain ⟨I2, A3, J3, h1, h2, h3⟩ := FIN.out
                  exact ⟨t + 1, I2, A3, J3, by omega, by go_num, h1, h2, h3⟩)
                by_cases h26 : v.op = 26
                · have tt : (v.op == 26) = true := by simp [h26]
                  have t6 : decide ((1 : Int) < v.into.n) = false := by
                    simp
                    have : ¬ 1 < v.into.n := fun h => hph ⟨h26, h⟩
                    omega
                  clear hph h26
                  go_wp2_with fail
                  go_round
                  case rel =>
                    first
                      | exact FINR.out
                      | ((repeat apply Exists.intro); exact ⟨FINR.out, rfl⟩)
                  case measure => simp [intOf]; omega
                · have tt : (v.op == 26) = false := by simp [h26]
                  clear hph h26
                  go_wp2_with fail
                  go_round
                  case rel =>
                    first
                      | exact FINR.out
                      | ((repeat apply Exists.intro); exact ⟨FINR.out, rfl⟩)
                  case measure => simp [intOf]; omega
        · obtain rfl : t = (T.B b).n := by omega
          clear ho hup htu
          go_wp2_with fail
          go_round
          case rel =>
            first
              | exact ⟨b + 1, I, A, J, by omega, by go_num, HS.out.1, HS.out.2.1.next, HS.out.2.2⟩
              | ((repeat apply Exists.intro); exact ⟨⟨b + 1, I, A, J, by omega, by go_num, HS.out.1, HS.out.2.1.next, HS.out.2.2⟩, rfl⟩)
          case measure => simp [intOf]; omega
    · as_aux_lemma =>
      obtain rfl : b = T.blk.n := by omega
      go_wp2_with fail
      clear c0 c1 c2 c3 c4
      obtain ⟨W, hW⟩ : ∃ W, wr = W := ⟨_, rfl⟩
      rw [hW] at HS
      rw [hW]
      clear hW
      have FW := hid (KF.out W HS.out.2.2).1
      have GW := hid (KF.out W HS.out.2.2).2.1
      have BW := hid (KF.out W HS.out.2.2).2.2.1
      have IW := hid (KF.out W HS.out.2.2).2.2.2
      have OG := hid HS.out.1.inn
      have hN : 0 < nv - F.par.n := by omega
      have hNp : (F.par.n : Int) + ((nv - F.par.n : Nat) : Int) = (nv : Int) := by omega
      have INJ := hid (show ∀ u v : Int, 1 ≤ u → u ≤ allV F → 1 ≤ v → v ≤ allV F → sf u = sf v → u = v from fun u v _ h2 _ h4 h => by
        rw [← SF.out] at h
        rw [NV.out] at h2 h4
        exact sA_inj hN (by omega) (by omega) h)
      have LOWF := hid (show ∀ v : Int, v ≤ F.par.n → sf v = v from fun v h => by rw [← SF.out]; exact sA_low h)
      have RNG := hid (show ∀ v : Int, 1 ≤ v → v ≤ allV F → 1 ≤ sf v ∧ sf v ≤ allV F from fun v h1 h2 => by
        rw [NV.out] at h2 ⊢
        rw [← SF.out]
        by_cases c : (F.par.n : Int) < v
        · have := sA_high (y := y) hN c
          omega
        · rw [sA_low (by omega)]
          exact ⟨h1, h2⟩)
      have SH := hid (HS.out.2.1.shuf TW.out)
      have LG := hid (shuf_light SH.out LF.out)
      have RG := hid (HS.out.2.1.rng TW.out OK.out (by rw [NV.out]; omega) RNG.out)
      have st0 : Below W.heap.size W W.drew := Below.drew (same _)
      have A0 : ∀ wx, Below W.heap.size W wx → wx.cell? ⟨fB, 0, none⟩ = some (.string F.name) := fun wx h => cell_on h FW.out.c0
      have A1 : ∀ wx, Below W.heap.size W wx → wx.cell? ⟨fB, 1, none⟩ = some (.bool F.out) := fun wx h => cell_on h FW.out.c1
      have A2 : ∀ wx, Below W.heap.size W wx → wx.cell? ⟨fB, 2, none⟩ = some (.slice F.par.a F.par.n F.par.c) := fun wx h => cell_on h FW.out.c2
      have A3 : ∀ wx, Below W.heap.size W wx → wx.cell? ⟨fB, 3, none⟩ = some (.int .i64 F.res) := fun wx h => cell_on h FW.out.c3
      have A4 : ∀ wx, Below W.heap.size W wx → wx.cell? ⟨fB, 4, none⟩ = some (.slice F.blk.a F.blk.n F.blk.c) := fun wx h => cell_on h FW.out.c4
      have E0 : ∀ wx, Below W.heap.size W wx → wx.cell? ⟨gB, 0, none⟩ = some (.string T.name) := fun wx h => cell_on h GW.out.c0
      have E1 : ∀ wx, Below W.heap.size W wx → wx.cell? ⟨gB, 1, none⟩ = some (.bool T.out) := fun wx h => cell_on h GW.out.c1
      have E2 : ∀ wx, Below W.heap.size W wx → wx.cell? ⟨gB, 2, none⟩ = some (.slice T.par.a T.par.n T.par.c) := fun wx h => cell_on h GW.out.c2
      have E3 : ∀ wx, Below W.heap.size W wx → wx.cell? ⟨gB, 3, none⟩ = some (.int .i64 T.res) := fun wx h => cell_on h GW.out.c3
      have E4 : ∀ wx, Below W.heap.size W wx → wx.cell? ⟨gB, 4, none⟩ = some (.slice T.blk.a T.blk.n T.blk.c) := fun wx h => cell_on h GW.out.c4
      go_region_held3 (fun wx => Below W.heap.size W wx) (first | exact st0 | exact st1 | exact st2)
        (first
          | (go_at_call 16; refine (neat_any { T with I := I, A := A, J := J } _ (OG.out.on st0) LG.out RG.out).mono ?_; rintro e x2 ⟨H, aH, rfl, ownH, neH, hb⟩; have IH := hid ownH.inn; have NH := hid (OK.out.neat _ H sf INJ.out LOWF.out SH.out neH); have LH := hid (neats_light neH LG.out); have st1 : Below W.heap.size W x2 := View.more st0 hb; clear hb ownH neH)
          | (go_at_call 15; refine (NeatLaw.same_true H F _ IH.out (IW.out.on st1) LH.out NH.out).mono ?_; rintro e x3 ⟨rfl, hb⟩; have st2 : Below W.heap.size W x3 := View.more st1 hb; clear hb))
      have ST := hid (View.more BW.out st2)
      clear A0 A1 A2 A3 A4 E0 E1 E2 E3 E4 st0 st1 st2
      go_wp2_with fail
      go_ret
      exact ⟨rfl, ST.out⟩

end Go.Proofs.Ytahjippocejphaa.Shf
