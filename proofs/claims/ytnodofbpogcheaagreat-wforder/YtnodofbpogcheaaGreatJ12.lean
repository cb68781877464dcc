/-
  Wfo, Wfp: laid together.
-/
import Derived.Test.YtnodofbpogcheaaGreatJ11
import Derived.Test.YtnodofbpogcheaaGreatChkZ

namespace Go.Proofs.YtnodofbpogcheaaGreat.Wf
open Go.RowKit View Rd Num Opn Copy Srt Go.Proofs.YtnodofbpogcheaaGreat.Mod Go.Proofs.YtnodofbpogcheaaGreat.Chk Go.Proofs.YtnodofbpogcheaaGreat.Flo

set_option linter.unusedVariables false

def BlkOk (F : FV) (b : Nat) : Prop := RowB (F.B b) (F.I b) ∧ FlowE F b

set_option maxRecDepth 10000 in
set_option maxHeartbeats 4000000 in
theorem funcFlow_any (F : FV) (w : World) (hF : In w F) (hl : Light F) (hj : Jng F) (hf : FormF F) : Calls Tryz.prog 81 #[F.val] w fun e w' => Ans (fun r => r = true ↔ ¬ FlowF F) w e w' := by
 have gb := hl.blk
 obtain ⟨W, hW⟩ : ∃ W, w.alloc (.cells (fcells F) 36) = W := ⟨_, rfl⟩
 have FW := hid (show FuncAt W w.heap.size F by rw [← hW]; exact FuncAt.alloc w F)
 have HF := hid (show In W F by rw [← hW]; exact hF.on (new (same w) _))
 have LW := hid (show Below w.heap.size w W by rw [← hW]; exact new (same w) _)
 have HL := hid hl
 have HJ := hid hj
 have HFO := hid hf
 have HWW := hid hW
 have IFF := hid (flowF_iff hf)
 have YES := hid (show ∀ wx, Below W.heap.size W wx → ¬ FlowF F → Ans (fun r => r = true ↔ ¬ FlowF F) w (.returned (.bool true)) wx from fun wx h hn => ⟨true, rfl, by simp [hn], View.more LW.out h⟩)
 have f4 := FW.out.c4
 clear hF hl hj hW hf
 go_enter Tryz.func81, Tryz.ntmps81
 go_wp2_with fail
 simp only [HWW.out]
 clear HWW f4
 go_loopw [8] (fun iv wr => ∃ b : Nat, b ≤ F.blk.n ∧ iv = .int .i64 b ∧ (∀ t, t < b → BlkOk F t) ∧ Below W.heap.size W wr) (fun iv _ => F.blk.n - (intOf iv).toNat)
 case atStart => exact ⟨0, Nat.zero_le _, rfl, fun t ht => by omega, same _⟩
 case round =>
  obtain ⟨b, hb0, rfl, hall, hb⟩ := hrel
  have HA := hid (And.intro hall hb)
  obtain ⟨f0, f1, f2, f3, f4⟩ := FW.out.on hb
  by_cases lb : b < F.blk.n
  ·obtain ⟨rb, ro, hrx, hrc0⟩ := HF.out.blk.at lb
   have hrc := cell_on hb hrc0
   have gi := HL.out.ins b lb
   clear hall hb hrc0
   have L0 := hid (show Below W.heap.size W (wr.alloc (.cells #[.slice (F.B b).a (F.B b).n (F.B b).c] 40)) from new HA.out.2 _)
   have ec : ∀ w1, Below (wr.alloc (.cells #[.slice (F.B b).a (F.B b).n (F.B b).c] 40)).heap.size (wr.alloc (.cells #[.slice (F.B b).a (F.B b).n (F.B b).c] 40)) w1 → w1.cell? ⟨wr.heap.size, 0, none⟩ = some (.slice (F.B b).a (F.B b).n (F.B b).c) := fun w1 h => cell_on h (by simp)
   have EC := hid ec
   clear ec
   go_wp2_with fail
   refine (rowFault_any (F.B b) (F.I b) _ ((HF.out.ins b lb).on L0.out) (by omega)).mono ?_
   rintro e w1 ⟨r, rfl, hr, hb⟩
   have B1 := hid (View.more L0.out hb)
   have R := hid hr
   have bc := EC.out w1 hb
   clear hr hb f0 f1 f2 f3 f4 hrc EC
   obtain ⟨f0, f1, f2, f3, f4⟩ := FW.out.on B1.out
   cases r with
   | true =>
    have HN := hid (show ¬ FlowF F from fun h => R.out.1 rfl ((IFF.out.1 h).1 b lb).1)
    go_wp2_with fail
    go_ret
    exact YES.out _ B1.out HN.out
   | false =>
    have P1 := hid (show RowB (F.B b) (F.I b) by
     by_cases q : RowB (F.B b) (F.I b)
     ·exact q
     ·exact absurd (R.out.2 q) (by simp))
    clear R
    go_wp2_with fail
    refine (leadFault_any F b _ (HF.out.on B1.out) HL.out HFO.out lb P1.out.1).mono ?_
    rintro e w2 ⟨r, rfl, hr, hb⟩
    have B2 := hid (View.more B1.out hb)
    have R := hid hr
    clear hr hb f0 f1 f2 f3 f4
    cases r with
    | true =>
     have HN := hid (show ¬ FlowF F from fun h => R.out.1 rfl ((IFF.out.1 h).1 b lb).2)
     go_wp2_with fail
     go_ret
     exact YES.out _ B2.out HN.out
    | false =>
     have P2 := hid (show BlkOk F b from ⟨P1.out, by
      by_cases q : FlowE F b
      ·exact q
      ·exact absurd (R.out.2 q) (by simp)⟩)
     clear R
     go_wp2_with fail
     go_round
     case rel => exact ⟨b + 1, by omega, by go_num, upto1 HA.out.1 P2.out, B2.out⟩
     case measure => simp [intOf]; omega
  ·obtain rfl : b = F.blk.n := by omega
   clear hall hb
   obtain ⟨L, hL⟩ := ord_ex F
   have OI := hid hL
   clear hL
   go_wp2_with fail
   refine (reach_flow F L _ OI.out (HF.out.on HA.out.2) HL.out HJ.out).mono ?_
   rintro e w1 ⟨RM, rfl, hr1, hM1, hb1⟩
   have B1 := hid (View.more HA.out.2 hb1)
   have HR1 := hid hr1
   clear hr1 hM1 hb1 f0 f1 f2 f3 f4
   go_wp2_with fail
   refine (containsB_any RM F.blk.n (fun i => decide (i ∈ L)) _ HR1.out (by omega)).mono ?_
   rintro e w2 ⟨r, rfl, hr, hb⟩
   have B2 := hid (View.more B1.out hb)
   have R := hid hr
   clear hr hb
   obtain ⟨f0, f1, f2, f3, f4⟩ := FW.out.on B2.out
   have WAY := hid (show ∀ i, i < F.blk.n → (decide (i ∈ L) = true ↔ Flo.Way (su F) 0 i) from fun i hi => by
    rw [decide_eq_true_iff]; exact OI.out.ord.mem (by omega) i)
   cases r with
   | true =>
    have HN := hid (show ¬ FlowF F from fun h => by
     obtain ⟨i, h1, h2⟩ := R.out.1 rfl
     have := (WAY.out i h1).2 ((IFF.out.1 h).2.1 i h1)
     rw [this] at h2; cases h2)
    go_wp2_with fail
    go_ret
    exact YES.out _ B2.out HN.out
   | false =>
    have P2 := hid (show ∀ i, i < F.blk.n → Flo.Way (su F) 0 i from fun i hi => by
     refine (WAY.out i hi).1 ?_
     cases q : decide (i ∈ L) with
     | true => rfl
     | false => exact absurd (R.out.2 ⟨i, hi, q⟩) (by simp))
    clear R
    go_wp2_with fail
    refine (entryFault_any F _ (HF.out.on B2.out) HL.out HJ.out).mono ?_
    rintro e w3 ⟨r, rfl, hr, hb⟩
    have B3 := hid (View.more B2.out hb)
    have R := hid hr
    clear hr hb
    go_wp2_with fail
    go_ret
    refine ⟨r, rfl, ?_, View.more LW.out B3.out⟩
    show r = true ↔ ¬ FlowF F
    rw [R.out]
    exact not_congr ⟨fun h => IFF.out.2 ⟨HA.out.1, P2.out, h⟩, fun h => (IFF.out.1 h).2.2⟩

def FlowM (M : MV) : Prop := ∀ i, i < M.fns.n → FlowF (M.F i)

theorem ex_not {n : Nat} {p : Nat → Prop} : (∃ i, i < n ∧ ¬ p i) ↔ ¬ ∀ i, i < n → p i := by
 constructor
 ·rintro ⟨i, h1, h2⟩ h
  exact h2 (h i h1)
 ·intro h
  by_cases q : ∃ i, i < n ∧ ¬ p i
  ·exact q
  ·exact absurd (fun i hi => by
    by_cases z : p i
    ·exact z
    ·exact absurd ⟨i, hi, z⟩ q) h

theorem flowFault_any (M : MV) (w : World) (hM : InM w M) (hs : SmallM M) (hj : ∀ i, i < M.fns.n → Jng (M.F i)) (hf : FormM M) : Calls Tryz.prog 31 #[M.val] w fun e w' => Ans (fun r => r = true ↔ ¬ FlowM M) w e w' := by
 have x4 := hs.fns
 obtain ⟨W, hW⟩ : ∃ W, w.alloc (.cells (mcells M) 27) = W := ⟨_, rfl⟩
 have b3 : W.cell? ⟨w.heap.size, 3, none⟩ = some (.slice M.fns.a M.fns.n M.fns.c) := by rw [← hW]; simp
 have HM := hid (show InM W M by rw [← hW]; exact hM.on (new (same w) _))
 have LW := hid (show Below w.heap.size w W by rw [← hW]; exact new (same w) _)
 have HS := hid hs
 have HJ := hid hj
 have HF := hid hf
 clear hM hs hj hf
 go_enter Tryz.func31, Tryz.ntmps31
 go_wp2_with fail
 clear hW
 refine (has_flowF M.fns M.F (fun i => ¬ FlowF (M.F i)) W (by omega) (fun wx h => (HM.out.on h).fns) (fun i hi wx h => funcFlow_any (M.F i) wx ((HM.out.on h).fnI i hi) (HS.out.light i hi) (HJ.out i hi) (HF.out.fns i hi))).mono ?_
 rintro e w1 ⟨r, rfl, hr, hb⟩
 have B1 := hid (View.more LW.out hb)
 have R := hid hr
 clear hr hb
 go_wp2_with fail
 go_ret
 exact ⟨r, rfl, R.out.trans ex_not, B1.out⟩

end Go.Proofs.YtnodofbpogcheaaGreat.Wf

namespace Go.Proofs.YtnodofbpogcheaaGreat.Wf
open Go.RowKit View Rd Num Opn Copy Srt Go.Proofs.YtnodofbpogcheaaGreat.Mod Go.Proofs.YtnodofbpogcheaaGreat.Chk

set_option linter.unusedVariables false

def NumF (F : FV) : Prop := ∀ b, b < F.blk.n → ∀ k, k < (F.B b).n → ToI F b k

set_option maxRecDepth 10000 in
set_option maxHeartbeats 4000000 in
theorem numberFault_any (F : FV) (w : World) (hF : In w F) (hl : Light F) : Calls Tryz.prog 131 #[F.val] w fun e w' => Ans (fun r => r = true ↔ ¬ NumF F) w e w' := by
 have gb := hl.blk
 have gp := hl.par
 have gv := allV_le hl
 obtain ⟨W, hW⟩ : ∃ W, w.alloc (.cells (fcells F) 36) = W := ⟨_, rfl⟩
 have FW := hid (show FuncAt W w.heap.size F by rw [← hW]; exact FuncAt.alloc w F)
 have HF := hid (show In W F by rw [← hW]; exact hF.on (new (same w) _))
 have LW := hid (show Below w.heap.size w W by rw [← hW]; exact new (same w) _)
 have HL := hid hl
 have HWW := hid hW
 have YES := hid (show ∀ wx, Below W.heap.size W wx → ¬ NumF F → Ans (fun r => r = true ↔ ¬ NumF F) w (.returned (.bool true)) wx from fun wx h hn => ⟨true, rfl, by simp [hn], View.more LW.out h⟩)
 have f2 := FW.out.c2
 have f4 := FW.out.c4
 have q1 : IntKind.i64.wrap ((F.par.n : Int) + 1) = (F.par.n : Int) + 1 := by simp only [IntKind.wrap_i64]; omega
 have q2 : wrap64 ((F.par.n : Int) + 1) = (F.par.n : Int) + 1 := by unfold wrap64; omega
 clear hF hl hW
 go_enter Tryz.func131, Tryz.ntmps131
 go_wp2_with fail
 simp only [HWW.out]
 clear HWW f2 f4
 go_loopw [3, 15] (fun nv iv wr => ∃ j : Nat, j ≤ F.blk.n ∧ iv = .int .i64 j ∧ nv = .int .i64 (lastOf F j + 1 : Nat) ∧ (∀ t, t < j → ∀ k, k < (F.B t).n → ToI F t k) ∧ Below W.heap.size W wr) (fun _ iv _ => F.blk.n - (intOf iv).toNat)
 case atStart => exact ⟨0, Nat.zero_le _, rfl, by simp [lastOf, cnt], fun t ht => by omega, same _⟩
 case round =>
  obtain ⟨j, hj, rfl, rfl, hall, hb⟩ := hrel
  have HA := hid (And.intro hall hb)
  by_cases lj : j < F.blk.n
  ·obtain ⟨rb, ro, hrx, hrc0⟩ := HF.out.blk.at lj
   have hrc := cell_on hb hrc0
   have gi := HL.out.ins j lj
   obtain ⟨L, hL⟩ : ∃ L, lastOf F j = L := ⟨_, rfl⟩
   have hLa : L ≤ allV F := by rw [← hL, ← lastOf_all]; exact lastOf_mono F hj
   have EL := hid hL
   rw [hL]
   have L0 := hid (show Below W.heap.size W (wr.alloc (.cells #[.slice (F.B j).a (F.B j).n (F.B j).c] 40)) from new HA.out.2 _)
   clear hall hb hrc0 hL
   go_wp2_with fail
   clear hrc
   go_loopw [3, 22] (fun nv iv wx => ∃ k : Nat, k ≤ (F.B j).n ∧ iv = .int .i64 k ∧ nv = .int .i64 (L + giv (F.I j) k + 1 : Nat) ∧ (∀ t, t < k → ToI F j t) ∧ Below W.heap.size W wx) (fun _ iv _ => (F.B j).n - (intOf iv).toNat)
   case atStart => exact ⟨0, Nat.zero_le _, rfl, by simp [giv], fun t ht => by omega, L0.out⟩
   case round =>
    obtain ⟨k, hk, rfl, rfl, hall, hb⟩ := hrel
    have HK := hid (And.intro hall hb)
    by_cases lk : k < (F.B j).n
    ·obtain ⟨ib, io, hiy, c0, c1, c2, c3, c4, c5, c6⟩ := ((HF.out.ins j lj).on hb).at lk
     have hgk := giv_le (F.I j) k
     obtain ⟨N, hN⟩ : ∃ N, L + giv (F.I j) k + 1 = N := ⟨_, rfl⟩
     have EN := hid hN
     have hN2 : N ≤ 20000 := by omega
     rw [hN]
     by_cases hty : (F.I j k).ty = 0
     ·have t1 : ((F.I j k).ty == 0) = true := by simp [hty]
      have HTY := hid hty
      clear hall hb hty hN hgk
      go_wp2_with fail
      have FIN := hid (show (∀ t, t < k + 1 → ToI F j t) ∧ N = L + giv (F.I j) (k + 1) + 1 from ⟨upto1 HK.out.1 (fun h => absurd HTY.out h), by rw [giv, ← EN.out]; simp [HTY.out]⟩)
      go_round
      case rel =>
       first
        | exact ⟨k + 1, by omega, by go_num, by rw [← FIN.out.2], FIN.out.1, new HK.out.2 _⟩
        | ((repeat apply Exists.intro); exact ⟨⟨k + 1, by omega, by go_num, by rw [← FIN.out.2], FIN.out.1, new HK.out.2 _⟩, rfl⟩)
      case measure => simp [intOf]; omega
     ·have t1 : ((F.I j k).ty == 0) = false := by simp [hty]
      have HID := hid (show idx F j k = N by rw [idx_eq F hty, EL.out, hN])
      have HTY := hid hty
      clear hall hb hty hN hgk
      by_cases hto : (F.I j k).to = (N : Int)
      ·have t2 : ((F.I j k).to != (N : Int)) = false := by simp [hto]
       have HTO := hid hto
       clear hto
       go_wp2_with fail
       have FIN := hid (show (∀ t, t < k + 1 → ToI F j t) ∧ (N : Int) + 1 = ((L + giv (F.I j) (k + 1) + 1 : Nat) : Int) from ⟨upto1 HK.out.1 (fun h => by rw [HID.out, HTO.out]), by rw [giv, ← EN.out]; simp [HTY.out]; omega⟩)
       go_round
       case rel =>
        first
         | exact ⟨k + 1, by omega, by go_num, by rw [← FIN.out.2], FIN.out.1, new HK.out.2 _⟩
         | ((repeat apply Exists.intro); exact ⟨⟨k + 1, by omega, by go_num, by rw [← FIN.out.2], FIN.out.1, new HK.out.2 _⟩, rfl⟩)
       case measure => simp [intOf]; omega
      ·have t2 : ((F.I j k).to != (N : Int)) = true := by simp [hto]
       have HN := hid (show ¬ NumF F from fun h => hto (by rw [h j lj k lk HTY.out, HID.out]))
       clear hto
       go_wp2_with fail
       go_ret
       exact YES.out _ (new HK.out.2 _) HN.out
    ·obtain rfl : k = (F.B j).n := by omega
     clear hall hb
     go_wp2_with fail
     have GN := hid (show L + giv (F.I j) (F.B j).n = lastOf F (j + 1) by rw [lastOf_next, EL.out])
     go_round
     case rel =>
      have f := upto1 (p := fun t => ∀ k, k < (F.B t).n → ToI F t k) HA.out.1 HK.out.1
      first
       | exact ⟨j + 1, by omega, by go_num, by rw [← GN.out]; try simp, f, HK.out.2⟩
       | ((repeat apply Exists.intro); exact ⟨⟨j + 1, by omega, by go_num, by rw [← GN.out]; try simp, f, HK.out.2⟩, rfl⟩)
     case measure => simp [intOf]; omega
  ·obtain rfl : j = F.blk.n := by omega
   rw [lastOf_all]
   clear hall hb
   go_wp2_with fail
   go_ret
   exact ⟨false, rfl, ⟨fun h => absurd h (by simp), fun h => absurd HA.out.1 h⟩, View.more LW.out HA.out.2⟩

end Go.Proofs.YtnodofbpogcheaaGreat.Wf
