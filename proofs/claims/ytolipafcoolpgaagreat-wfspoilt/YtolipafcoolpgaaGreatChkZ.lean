/-
  What is taken is there, by the document: plnref3.uses.
-/
import Derived.Test.YtolipafcoolpgaaGreatJ1
import Derived.Test.YtolipafcoolpgaaGreatChkW
import Derived.Test.YtolipafcoolpgaaGreatFloDm
namespace Go.Proofs.YtolipafcoolpgaaGreat.Chk
open Go.RowKit View Rd Num Opn Copy Ty Srt Go.Proofs.YtolipafcoolpgaaGreat.Mod Flo

set_option linter.unusedVariables false

def ToI (F : FV) (b k : Nat) : Prop := (F.I b k).ty ≠ 0 → (F.I b k).to = idx F b k

def There (F : FV) (b k i b' k' : Nat) : Prop := if (F.I b k).op = 26 then DomR F b' (F.J b k i).toNat else (b' = b ∧ k' < k) ∨ (b' ≠ b ∧ DomR F b' b)

def UseI (F : FV) (b k i : Nat) : Prop := 1 ≤ F.A b k i ∧ F.A b k i ≤ allV F ∧ ∀ b' k', b' < F.blk.n → k' < (F.B b').n → (F.I b' k').ty ≠ 0 → F.A b k i = idx F b' k' → There F b k i b' k'

def UseF (F : FV) : Prop := (∀ b, b < F.blk.n → ∀ k, k < (F.B b).n → ToI F b k) ∧ ∀ b, b < F.blk.n → ∀ k, k < (F.B b).n → ∀ i, i < (F.I b k).args.n → UseI F b k i

theorem idx_row (F : FV) (b : Nat) : ∀ k v, lastOf F b < v → v ≤ lastOf F b + giv (F.I b) k → ∃ k', k' < k ∧ (F.I b k').ty ≠ 0 ∧ idx F b k' = v := by
 intro k
 induction k with
 | zero => intro v h1 h2; simp [giv] at h2; omega
 | succ k ih =>
  intro v h1 h2
  by_cases h : (F.I b k).ty = 0
  ·have : giv (F.I b) (k + 1) = giv (F.I b) k := by simp [giv, h]
   obtain ⟨k', a, b', c⟩ := ih v h1 (by omega)
   exact ⟨k', by omega, b', c⟩
  ·by_cases e : v = idx F b k
   ·exact ⟨k, by omega, h, e.symm⟩
   ·have h3 := idx_eq F h
    unfold idx at h3 e
    obtain ⟨k', a, b', c⟩ := ih v h1 (by omega)
    exact ⟨k', by omega, b', c⟩

theorem idx_onto (F : FV) : ∀ b, b ≤ F.blk.n → ∀ v, F.par.n < v → v ≤ lastOf F b → ∃ b' k', b' < b ∧ k' < (F.B b').n ∧ (F.I b' k').ty ≠ 0 ∧ idx F b' k' = v := by
 intro b
 induction b with
 | zero => intro _ v h1 h2; simp [lastOf, cnt] at h2; omega
 | succ b ih =>
  intro hb v h1 h2
  by_cases h : v ≤ lastOf F b
  ·obtain ⟨b', k', a, c, d, e⟩ := ih (by omega) v h1 h
   exact ⟨b', k', by omega, c, d, e⟩
  ·rw [lastOf_next] at h2
   obtain ⟨k', a, c, d⟩ := idx_row F b _ v (by omega) h2
   exact ⟨b, k', by omega, a, c, d⟩

theorem phi_into {v : IV} (h : formB v = true) (ho : v.op = 26) : v.into.n = v.args.n := by
 unfold formB swB at h
 rw [ho] at h
 simp [mk] at h
 omega

theorem useI_of {F : FV} {w : World} {O : Nat} {bl pl : Nat → Int} (hw : Wh F w O bl pl F.blk.n 0) {b k i b0 k0 : Nat} (h1 : 1 ≤ F.A b k i) (h2 : F.A b k i ≤ allV F) (hb : b0 < F.blk.n) (hk : k0 < (F.B b0).n) (ht : (F.I b0 k0).ty ≠ 0) (he : F.A b k i = idx F b0 k0) : UseI F b k i ↔ There F b k i b0 k0 := by
 refine ⟨fun h => h.2.2 b0 k0 hb hk ht he, fun h => ⟨h1, h2, fun b' k' a c d e => ?_⟩⟩
 have e2 : idx F b' k' = idx F b0 k0 := by have := he.symm.trans e; omega
 have q1 := hw.val b' k' a c d (.inl a)
 have q2 := hw.val b0 k0 hb hk ht (.inl hb)
 rw [e2] at q1
 have r1 : b' = b0 := by have := q1.1.symm.trans q2.1; omega
 have r2 : k' = k0 := by have := q1.2.symm.trans q2.2; omega
 rw [r1, r2]; exact h

theorem useI_par {F : FV} {b k i : Nat} (h1 : 1 ≤ F.A b k i) (h2 : F.A b k i ≤ F.par.n) : UseI F b k i :=
 ⟨h1, by unfold allV; omega, fun b' k' a c d e => by have := idx_par F d; omega⟩

set_option maxRecDepth 10000 in
set_option maxHeartbeats 8000000 in
theorem uses_any (F : FV) (w : World) (hF : In w F) (hl : Light F) (hf : FormF F) (hfl : FlowF F) : Calls Tryz.prog 59 #[F.val] w fun e w' => Ans (fun r => r = true ↔ UseF F) w e w' := by
 have gb := hl.blk
 have gp := hl.par
 have gv := allV_le hl
 obtain ⟨W, hW⟩ : ∃ W, w.alloc (.cells (fcells F) 36) = W := ⟨_, rfl⟩
 have LW := hid (show Below w.heap.size w W by rw [← hW]; exact new (same w) _)
 have FW := hid (show FuncAt W w.heap.size F by rw [← hW]; exact FuncAt.alloc w F)
 have IF := hid (hF.on LW.out)
 have HL := hid hl
 have HFO := hid hf
 have HFL := hid hfl
 have HWW := hid hW
 obtain ⟨d0, d1, d2, d3, d4⟩ := FW.out
 clear hF hl hf hfl hW
 go_enter Tryz.func59, Tryz.ntmps59
 go_wp2_with fail
 simp only [HWW.out]
 clear HWW
 go_wp2_with fail
 clear d0 d1 d2 d3 d4
 go_loopw [3, 4] (fun nv iv wr => ∃ j : Nat, j ≤ F.blk.n ∧ iv = .int .i64 j ∧ nv = .int .i64 (lastOf F j) ∧ (∀ t, t < j → ∀ k, k < (F.B t).n → ToI F t k) ∧ Below W.heap.size W wr) (fun _ iv _ => F.blk.n - (intOf iv).toNat)
 case atStart => exact ⟨0, Nat.zero_le _, rfl, by simp [lastOf, cnt], fun t ht => by omega, same _⟩
 case round =>
  obtain ⟨j, hj, rfl, rfl, hall, hb⟩ := hrel
  have HA := hid (And.intro hall hb)
  obtain ⟨d0, d1, d2, d3, d4⟩ := FW.out.on hb
  by_cases lj : j < F.blk.n
  ·obtain ⟨rb, ro, hrx, hrc0⟩ := IF.out.blk.at lj
   have RC := hid hrc0
   have hrc := cell_on hb hrc0
   have gi := HL.out.ins j lj
   obtain ⟨L, hL⟩ : ∃ L, lastOf F j = L := ⟨_, rfl⟩
   have hLa : L ≤ allV F := by rw [← hL, ← lastOf_all]; exact lastOf_mono F hj
   have EL := hid hL
   rw [hL]
   clear hall hb hrc0 hL
   go_wp2_with fail
   clear d0 d1 d2 d3 d4 hrc
   go_loopw [3, 5] (fun nv iv wx => ∃ k : Nat, k ≤ (F.B j).n ∧ iv = .int .i64 k ∧ nv = .int .i64 (L + giv (F.I j) k : Nat) ∧ (∀ t, t < k → ToI F j t) ∧ Below W.heap.size W wx) (fun _ iv _ => (F.B j).n - (intOf iv).toNat)
   case atStart => exact ⟨0, Nat.zero_le _, rfl, by simp [giv], fun t ht => by omega, HA.out.2⟩
   case round =>
    obtain ⟨k, hk, rfl, rfl, hall, hb⟩ := hrel
    have HK := hid (And.intro hall hb)
    obtain ⟨d0, d1, d2, d3, d4⟩ := FW.out.on hb
    have hrc := cell_on hb RC.out
    by_cases lk : k < (F.B j).n
    ·obtain ⟨ib, io, hiy, c0, c1, c2, c3, c4, c5, c6⟩ := ((IF.out.ins j lj).on hb).at lk
     have hgk := giv_le (F.I j) k
     obtain ⟨N, hN⟩ : ∃ N, L + giv (F.I j) k = N := ⟨_, rfl⟩
     have EN := hid hN
     have hN2 : N ≤ 20000 := by omega
     rw [hN]
     by_cases hty : (F.I j k).ty = 0
     ·have t1 : ((F.I j k).ty != 0) = false := by simp [hty]
      have HTY := hid hty
      clear hall hb hty hN hgk
      go_wp2_with fail
      have FIN := hid (show (∀ t, t < k + 1 → ToI F j t) ∧ N = L + giv (F.I j) (k + 1) from ⟨upto1 HK.out.1 (fun h => absurd HTY.out h), by rw [giv, ← EN.out]; simp [HTY.out]⟩)
      go_round
      case rel =>
       first
        | exact ⟨k + 1, by omega, by go_num, by rw [← FIN.out.2], FIN.out.1, new HK.out.2 _⟩
        | ((repeat apply Exists.intro); exact ⟨⟨k + 1, by omega, by go_num, by rw [← FIN.out.2], FIN.out.1, new HK.out.2 _⟩, rfl⟩)
      case measure => simp [intOf]; omega
     ·have t1 : ((F.I j k).ty != 0) = true := by simp [hty]
      have HID := hid (show idx F j k = N + 1 by rw [idx_eq F hty, EL.out, hN])
      have HTY := hid hty
      clear hall hb hty hN hgk
      by_cases hto : (F.I j k).to = (N : Int) + 1
      ·have t2 : ((F.I j k).to != ((N : Int) + 1)) = false := by simp [hto]
       have HTO := hid hto
       clear hto
       go_wp2_with fail
       have FIN := hid (show (∀ t, t < k + 1 → ToI F j t) ∧ (N : Int) + 1 = ((L + giv (F.I j) (k + 1) : Nat) : Int) from ⟨upto1 HK.out.1 (fun h => by rw [HID.out, HTO.out]; omega), by rw [giv, ← EN.out]; simp [HTY.out]; omega⟩)
       go_round
       case rel =>
        first
         | exact ⟨k + 1, by omega, by go_num, by rw [← FIN.out.2], FIN.out.1, new HK.out.2 _⟩
         | ((repeat apply Exists.intro); exact ⟨⟨k + 1, by omega, by go_num, by rw [← FIN.out.2], FIN.out.1, new HK.out.2 _⟩, rfl⟩)
       case measure => simp [intOf]; omega
      ·have t2 : ((F.I j k).to != ((N : Int) + 1)) = true := by simp [hto]
       have HN := hid (show ¬ UseF F from fun h => hto (by rw [h.1 j lj k lk HTY.out, HID.out]; omega))
       clear hto
       go_wp2_with fail
       go_ret
       exact ⟨false, rfl, by simp [HN.out], View.more LW.out (new HK.out.2 _)⟩
    ·obtain rfl : k = (F.B j).n := by omega
     clear hall hb
     go_wp2_with fail
     have GN := hid (show L + giv (F.I j) (F.B j).n = lastOf F (j + 1) by rw [lastOf_next, EL.out])
     go_round
     case rel =>
      have f := upto1 (p := fun t => ∀ k, k < (F.B t).n → ToI F t k) HA.out.1 HK.out.1
      first
       | exact ⟨j + 1, by omega, by go_num, by rw [← GN.out]; try simp, f, HK.out.2⟩
       | ((repeat apply Exists.intro); exact ⟨⟨j + 1, by omega, by go_num, by rw [← GN.out]; try simp, f, HK.out.2⟩, rfl⟩)
     case measure => simp [intOf]; omega
  ·obtain rfl : j = F.blk.n := by omega
   rw [lastOf_all]
   clear hall hb
   go_wp2_with fail
   refine (where_ref F _ (IF.out.on HA.out.2) HL.out).mono ?_
   rintro e w1 ⟨O, bl, pl, rfl, hwh, hO1, hb1⟩
   have B1 := hid (View.more HA.out.2 hb1)
   have WH1 := hid hwh
   obtain ⟨d0, d1, d2, d3, d4⟩ := FW.out.on B1.out
   clear hwh hb1 hO1
   go_wp2_with fail
   refine (doms_ref F _ (IF.out.on B1.out) HL.out).mono ?_
   rintro e w2 ⟨Q, R, D, rfl, hsq, hD, hb2⟩
   have B2 := hid (View.more B1.out hb2)
   have WR2 := hid (WH1.out.row.of_block (hb2.block _ WH1.out.row.lt))
   have SQ := hid hsq
   have HD := hid hD
   have TOF := hid HA.out.1
   clear hsq hD hb2 d0 d1 d2 d3 d4 HA
   go_wp2_with fail
   go_loopw [9] (fun iv wr => ∃ b : Nat, b ≤ F.blk.n ∧ iv = .int .i64 b ∧ (∀ t, t < b → ∀ k, k < (F.B t).n → ∀ i, i < (F.I t k).args.n → UseI F t k i) ∧ Below w2.heap.size w2 wr) (fun iv _ => F.blk.n - (intOf iv).toNat)
   case atStart => exact ⟨0, Nat.zero_le _, rfl, fun t ht => by omega, same _⟩
   case round =>
    obtain ⟨b, hb0, rfl, hall, hb⟩ := hrel
    have HA := hid (And.intro hall hb)
    obtain ⟨d0, d1, d2, d3, d4⟩ := FW.out.on (View.more B2.out hb)
    by_cases lb : b < F.blk.n
    ·obtain ⟨rb, ro, hrx, hrc0⟩ := IF.out.blk.at lb
     have RC := hid hrc0
     have hrc := cell_on (View.more B2.out hb) hrc0
     have gi := HL.out.ins b lb
     clear hall hb hrc0
     go_wp2_with fail
     clear d0 d1 d2 d3 d4 hrc
     go_loopw [10] (fun iv wx => ∃ k : Nat, k ≤ (F.B b).n ∧ iv = .int .i64 k ∧ (∀ t, t < k → ∀ i, i < (F.I b t).args.n → UseI F b t i) ∧ Below w2.heap.size w2 wx) (fun iv _ => (F.B b).n - (intOf iv).toNat)
     case atStart => exact ⟨0, Nat.zero_le _, rfl, fun t ht => by omega, HA.out.2⟩
     case round =>
      obtain ⟨k, hk, rfl, hall, hb⟩ := hrel
      have HK := hid (And.intro hall hb)
      obtain ⟨d0, d1, d2, d3, d4⟩ := FW.out.on (View.more B2.out hb)
      have hrc := cell_on (View.more B2.out hb) RC.out
      by_cases lk : k < (F.B b).n
      ·obtain ⟨ib, io, hiy, c0, c1, c2, c3, c4, c5, c6⟩ := ((IF.out.ins b lb).on (View.more B2.out hb)).at lk
       have ga := HL.out.args b lb k lk
       have gin := HL.out.into b lb k lk
       clear hall hb
       go_wp2_with fail
       obtain ⟨N8, hN8⟩ : ∃ N8, wr.heap.size = N8 := ⟨_, rfl⟩
       obtain ⟨W8, hW8⟩ : ∃ W8, wr.alloc (.cells (F.I b k).cells 43) = W8 := ⟨_, rfl⟩
       have X8 := hid (show InsAt W8 N8 0 (F.I b k) by rw [← hW8, ← hN8]; exact InsAt.alloc wr _)
       have L8 := hid (show Below w2.heap.size w2 W8 by rw [← hW8]; exact new HK.out.2 _)
       rw [hW8, hN8]
       clear hW8 hN8 d0 d1 d2 d3 d4 hrc c0 c1 c2 c3 c4 c5 c6
       go_loopw [12] (fun iv wx => ∃ i : Nat, i ≤ (F.I b k).args.n ∧ iv = .int .i64 i ∧ (∀ t, t < i → UseI F b k t) ∧ Below W8.heap.size W8 wx) (fun iv _ => (F.I b k).args.n - (intOf iv).toNat)
       case atStart => exact ⟨0, Nat.zero_le _, rfl, fun t ht => by omega, same _⟩
       case round =>
        obtain ⟨i, hi, rfl, hall, hb⟩ := hrel
        have HI := hid (And.intro hall hb)
        obtain ⟨c0, c1, c2, c3, c4, c5, c6⟩ := (X8.out.on hb).head
        by_cases li : i < (F.I b k).args.n
        ·obtain ⟨pb, po, hpx, hpc⟩ := ((IF.out.args b lb k lk).on (View.more B2.out (View.more L8.out hb))).at li
         have RET := hid (View.more LW.out (View.more B2.out (View.more L8.out hb)))
         by_cases g1 : F.A b k i < 1
         ·have t1 : decide (F.A b k i < 1) = true := by simpa using g1
          have HN := hid (show ¬ UseF F from fun h => by have := (h.2 b lb k lk i li).1; omega)
          clear hall hb
          go_wp2_with fail
          go_ret
          exact ⟨false, rfl, by simp [HN.out], RET.out⟩
         have t1 : decide (F.A b k i < 1) = false := by simpa using g1
         by_cases g2 : (allV F : Int) < F.A b k i
         ·have t2 : decide ((allV F : Int) < F.A b k i) = true := by simpa using g2
          have HN := hid (show ¬ UseF F from fun h => by have := (h.2 b lb k lk i li).2.1; omega)
          clear hall hb
          go_wp2_with fail
          go_ret
          exact ⟨false, rfl, by simp [HN.out], RET.out⟩
         have t2 : decide ((allV F : Int) < F.A b k i) = false := by simpa using g2
         obtain ⟨v, hv⟩ : ∃ v : Nat, F.A b k i = v := ⟨(F.A b k i).toNat, by omega⟩
         have EV := hid hv
         rw [hv] at hpc t1 t2 g1 g2
         have hvx := pair_at (g := O) (n := allV F + 1) (x := v) (by omega)
         have wr2 := WR2.out.of_block ((View.more L8.out hb).block _ WR2.out.lt)
         have q1 := wr2.cell (i := v * 2) (by omega)
         have q2 := wr2.cell (i := v * 2 + 1) (by omega)
         have r1 : pairs bl pl (v * 2) = .int .i64 (bl v) := by simp [pairs]
         have r2 : pairs bl pl (v * 2 + 1) = .int .i64 (pl v) := by
          have e1 : (v * 2 + 1) % 2 = 1 := by omega
          have e2 : (v * 2 + 1) / 2 = v := by omega
          simp [pairs, e1, e2]
         rw [r1] at q1
         rw [r2] at q2
         clear r1 r2 wr2 hv
         by_cases g3 : v ≤ F.par.n
         ·rw [WH1.out.par v g3] at q1
          have HP := hid (useI_par (F := F) (b := b) (k := k) (i := i) (by rw [EV.out]; omega) (by rw [EV.out]; omega))
          clear hall hb
          go_wp2_with fail
          go_round
          case rel => exact ⟨i + 1, by omega, by go_num, upto1 HI.out.1 HP.out, new HI.out.2 _⟩
          case measure => simp [intOf]; omega
         ·obtain ⟨b0, k0, lb0, lk0, ht0, he0⟩ := idx_onto F F.blk.n (Nat.le_refl _) v (by omega) (by rw [lastOf_all]; omega)
          obtain ⟨e1, e2⟩ := WH1.out.val b0 k0 lb0 lk0 ht0 (.inl lb0)
          rw [he0] at e1 e2
          rw [e1] at q1
          rw [e2] at q2
          have UI := hid (useI_of WH1.out (b := b) (k := k) (i := i) (by rw [EV.out]; omega) (by rw [EV.out]; omega) lb0 lk0 ht0 (by rw [EV.out, he0]))
          have t3 : decide ((b0 : Int) < 0) = false := by simp
          have sq := SQ.out.on (View.more L8.out hb)
          have i1 := rows_at (g := Q) lb0
          have k1 := sq.row.cell lb0
          rw [if_pos lb0] at k1
          have rowd := sq.rows b0 lb0
          have z1 := World.block_lt_of_cell? _ _ c0
          have z2 := World.block_lt_of_cell? _ _ k1
          have z3 := rowd.lt
          have gk0 : k0 < 400 := by have := HL.out.ins b0 lb0; omega
          have HBB := hid hb
          clear hall sq e1 e2 he0 g3
          by_cases g4 : (F.I b k).op = 26
          ·have t4 : ((F.I b k).op == 26) = true := by simp [g4]
           have G4 := hid g4
           have li2 : i < (F.I b k).into.n := by rw [phi_into (HFO.out.2.2 b lb k lk) g4]; exact li
           obtain ⟨_, hfp, hfj⟩ := (HFL.out.2 b lb).2 k lk g4
           obtain ⟨jb, jo, hjx, hjc⟩ := ((IF.out.into b lb k lk).on (View.more B2.out (View.more L8.out hb))).at li2
           have z4 := World.block_lt_of_cell? _ _ hjc
           rw [hfj i li2] at hjc
           have hpl : (pvL F F.blk.n b).getD i 0 < F.blk.n := pvL_lt _ (getD_mem (by omega))
           obtain ⟨p, hp⟩ : ∃ p, (pvL F F.blk.n b).getD i 0 = p := ⟨_, rfl⟩
           rw [hp] at hjc hpl
           have i2 := bool_at (g := R b0) hpl
           have k2 := rowd.cell hpl
           have UP := hid (show UseI F b k i ↔ D b0 p = true by
            rw [UI.out, There, if_pos g4, HD.out b0 lb0 p hpl]
            rw [show (F.J b k i).toNat = p by rw [hfj i li2, hp]; rfl])
           clear hb g4 hfp hfj hp rowd
           cases hdb : D b0 p with
           | false =>
            rw [hdb] at k2
            have HN := hid (show ¬ UseF F from fun h => by have := UP.out.1 (h.2 b lb k lk i li); rw [hdb] at this; cases this)
            clear hdb
            go_wp2_with fail
            go_region
            go_wp2_with fail
            go_ret
            exact ⟨false, rfl, by simp [HN.out], Below.drew (new RET.out _)⟩
           | true =>
            rw [hdb] at k2
            have HP := hid (UP.out.2 hdb)
            clear hdb
            go_wp2_with fail
            go_region
            go_wp2_with fail
            go_round
            case rel => exact ⟨i + 1, by omega, by go_num, upto1 HI.out.1 HP.out, Below.drew (new HI.out.2 _)⟩
            case measure => simp [intOf]; omega
          ·have t4 : ((F.I b k).op == 26) = false := by simp [g4]
           have i2 := bool_at (g := R b0) lb
           have k2 := rowd.cell lb
           clear hb rowd
           by_cases g5 : b0 = b
           ·have t5 : ((b0 : Int) == (b : Int)) = true := by simp [g5]
            have t6 : ((b0 : Int) != (b : Int)) = false := by simp [g5]
            by_cases g6 : k ≤ k0
            ·have t7 : decide ((k : Int) ≤ (k0 : Int)) = true := by simpa using g6
             have HN := hid (show ¬ UseF F from fun h => by
              have := UI.out.1 (h.2 b lb k lk i li)
              rw [There, if_neg g4] at this
              rcases this with h | h
              ·omega
              ·exact h.1 g5)
             clear g4 g5
             go_wp2_with fail
             go_ret
             exact ⟨false, rfl, by simp [HN.out], new RET.out _⟩
            ·have t7 : decide ((k : Int) ≤ (k0 : Int)) = false := by simpa using g6
             have HP := hid (UI.out.2 (by rw [There, if_neg g4]; exact .inl ⟨g5, by omega⟩))
             clear g4 g5
             go_wp2_with fail
             go_round
             case rel => exact ⟨i + 1, by omega, by go_num, upto1 HI.out.1 HP.out, new HI.out.2 _⟩
             case measure => simp [intOf]; omega
           ·have t5 : ((b0 : Int) == (b : Int)) = false := by simp; omega
            have t6 : ((b0 : Int) != (b : Int)) = true := by simp; omega
            cases hdb : D b0 b with
            | false =>
             rw [hdb] at k2
             have HN := hid (show ¬ UseF F from fun h => by
              have := UI.out.1 (h.2 b lb k lk i li)
              rw [There, if_neg g4] at this
              rcases this with h | h
              ·exact g5 h.1
              ·have := (HD.out b0 lb0 b lb).2 h.2; rw [hdb] at this; cases this)
             clear g4 g5 hdb
             go_wp2_with fail
             go_ret
             exact ⟨false, rfl, by simp [HN.out], new RET.out _⟩
            | true =>
             rw [hdb] at k2
             have HP := hid (UI.out.2 (by rw [There, if_neg g4]; exact .inr ⟨g5, (HD.out b0 lb0 b lb).1 hdb⟩))
             clear g4 g5 hdb
             go_wp2_with fail
             go_round
             case rel => exact ⟨i + 1, by omega, by go_num, upto1 HI.out.1 HP.out, new HI.out.2 _⟩
             case measure => simp [intOf]; omega
        ·obtain rfl : i = (F.I b k).args.n := by omega
         clear hall hb
         go_wp2_with fail
         go_round
         case rel =>
          have f := upto1 (p := fun t => ∀ i, i < (F.I b t).args.n → UseI F b t i) HK.out.1 HI.out.1
          have l := View.more L8.out HI.out.2
          first
           | exact ⟨k + 1, by omega, by go_num, f, l⟩
           | ((repeat apply Exists.intro); exact ⟨⟨k + 1, by omega, by go_num, f, l⟩, rfl⟩)
         case measure => simp [intOf]; omega
      ·obtain rfl : k = (F.B b).n := by omega
       clear hall hb
       go_wp2_with fail
       go_round
       case rel =>
        have f := upto1 (p := fun t => ∀ k, k < (F.B t).n → ∀ i, i < (F.I t k).args.n → UseI F t k i) HA.out.1 HK.out.1
        first
         | exact ⟨b + 1, by omega, by go_num, f, HK.out.2⟩
         | ((repeat apply Exists.intro); exact ⟨⟨b + 1, by omega, by go_num, f, HK.out.2⟩, rfl⟩)
       case measure => simp [intOf]; omega
    ·obtain rfl : b = F.blk.n := by omega
     clear hall hb
     go_wp2_with fail
     go_ret
     exact ⟨true, rfl, by simp; exact ⟨TOF.out, HA.out.1⟩, View.more LW.out (View.more B2.out HA.out.2)⟩

end Go.Proofs.YtolipafcoolpgaaGreat.Chk
