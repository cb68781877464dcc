/-
  What is named is there, by the document: plnref3.syms.
-/
import Derived.Test.YtolipafcoolpgaaGreatChkL
namespace Go.Proofs.YtolipafcoolpgaaGreat.Chk
open Go.RowKit View Rd Num Opn Copy Go.Proofs.YtolipafcoolpgaaGreat.Mod

set_option linter.unusedVariables false

def symN (M : MV) (op : Int) : Nat := if op = 2 ∨ op = 22 then M.fns.n else if op = 3 then M.glo.n else if op = 23 then M.ext.n else if op = 24 then M.tab.n else 1

def SymI (M : MV) (v : IV) : Prop := 0 ≤ v.sym ∧ v.sym < symN M v.op

structure SymM (M : MV) : Prop where
 tab : ∀ i, i < M.tab.n → ∀ k, k < (M.T i).cel.n → -1 ≤ M.TF i k ∧ M.TF i k < M.fns.n
 ins : ∀ i, i < M.fns.n → ∀ j, j < (M.F i).blk.n → ∀ k, k < ((M.F i).B j).n → SymI M ((M.F i).I j k)

set_option maxRecDepth 10000 in
set_option maxHeartbeats 8000000 in
theorem syms_any (M : MV) (w : World) (hM : InM w M) (hs : SmallM M) : Calls Tryz.prog 57 #[M.val] w fun e w' => Ans (fun r => r = true ↔ SymM M) w e w' := by
 have x1 := hs.ext
 have x2 := hs.glo
 have x3 := hs.tab
 have x4 := hs.fns
 obtain ⟨W, hW⟩ : ∃ W, w.alloc (.cells (mcells M) 27) = W := ⟨_, rfl⟩
 have B0 : W.cell? ⟨w.heap.size, 0, none⟩ = some (.slice M.ext.a M.ext.n M.ext.c) := by rw [← hW]; simp
 have B1 : W.cell? ⟨w.heap.size, 1, none⟩ = some (.slice M.glo.a M.glo.n M.glo.c) := by rw [← hW]; simp
 have B2 : W.cell? ⟨w.heap.size, 2, none⟩ = some (.slice M.tab.a M.tab.n M.tab.c) := by rw [← hW]; simp
 have B3 : W.cell? ⟨w.heap.size, 3, none⟩ = some (.slice M.fns.a M.fns.n M.fns.c) := by rw [← hW]; simp
 have BX := hid (And.intro B0 (And.intro B1 (And.intro B2 B3)))
 have HM := hid (show InM W M by rw [← hW]; exact hM.on (new (same w) _))
 have LW := hid (show Below w.heap.size w W by rw [← hW]; exact new (same w) _)
 have HS := hid hs
 have HWW := hid hW
 clear hM hs hW B0 B1 B2 B3
 go_enter Tryz.func57, Tryz.ntmps57
 go_wp2_with fail
 simp only [HWW.out]
 clear HWW
 go_loopw [3] (fun iv wr => ∃ i : Nat, i ≤ M.tab.n ∧ iv = .int .i64 i ∧ (∀ t, t < i → ∀ k, k < (M.T t).cel.n → -1 ≤ M.TF t k ∧ M.TF t k < M.fns.n) ∧ Below W.heap.size W wr) (fun iv _ => M.tab.n - (intOf iv).toNat)
 case atStart => exact ⟨0, Nat.zero_le _, rfl, fun t ht => by omega, same _⟩
 case round =>
  obtain ⟨i, hi, rfl, hall, hb⟩ := hrel
  have HA := hid (And.intro hall hb)
  have b2 := cell_on hb BX.out.2.2.1
  have b3 := cell_on hb BX.out.2.2.2
  by_cases li : i < M.tab.n
  ·obtain ⟨rb, ro, hrx, hrA⟩ := HM.out.tab.at underlying24 size49 li
   have RR := hid hrA.c1
   have r1 := cell_on hb hrA.c1
   have gr := (HS.out.tabI i li).2
   clear hrA hall hb
   go_wp2_with fail
   clear b2 b3 r1
   go_loopw [4] (fun iv wx => ∃ k : Nat, k ≤ (M.T i).cel.n ∧ iv = .int .i64 k ∧ (∀ t, t < k → -1 ≤ M.TF i t ∧ M.TF i t < M.fns.n) ∧ Below W.heap.size W wx) (fun iv _ => (M.T i).cel.n - (intOf iv).toNat)
   case atStart => exact ⟨0, Nat.zero_le _, rfl, fun t ht => by omega, HA.out.2⟩
   case round =>
    obtain ⟨k, hk, rfl, hall, hb⟩ := hrel
    have HK := hid (And.intro hall hb)
    have b2 := cell_on hb BX.out.2.2.1
    have b3 := cell_on hb BX.out.2.2.2
    have r1 := cell_on hb RR.out
    by_cases lk : k < (M.T i).cel.n
    ·obtain ⟨pb, po, hpx, hpc⟩ := ((HM.out.tabF i li).on hb).at lk
     clear hall hb
     by_cases h1 : M.TF i k < -1
     ·have t1 : decide (M.TF i k < -1) = true := by simpa using h1
      have HN := hid (show ¬ SymM M from fun h => by have := (h.tab i li k lk).1; omega)
      clear h1
      go_wp2_with fail
      go_ret
      exact ⟨false, rfl, by simp [HN.out], View.more LW.out HK.out.2⟩
     have t1 : decide (M.TF i k < -1) = false := by simpa using h1
     by_cases h2 : (M.fns.n : Int) ≤ M.TF i k
     ·have t2 : decide ((M.fns.n : Int) ≤ M.TF i k) = true := by simpa using h2
      have HN := hid (show ¬ SymM M from fun h => by have := (h.tab i li k lk).2; omega)
      clear h1 h2
      go_wp2_with fail
      go_ret
      exact ⟨false, rfl, by simp [HN.out], View.more LW.out HK.out.2⟩
     have t2 : decide ((M.fns.n : Int) ≤ M.TF i k) = false := by simpa using h2
     have HP := hid (show -1 ≤ M.TF i k ∧ M.TF i k < M.fns.n by omega)
     clear h1 h2
     go_wp2_with fail
     go_round
     case rel => exact ⟨k + 1, by omega, by go_num, upto2 HK.out.1 HP.out, HK.out.2⟩
     case measure => simp [intOf]; omega
    ·obtain rfl : k = (M.T i).cel.n := by omega
     clear hall hb
     go_wp2_with fail
     go_round
     case rel =>
      have f := upto2 (p := fun t => ∀ k, k < (M.T t).cel.n → -1 ≤ M.TF t k ∧ M.TF t k < M.fns.n) HA.out.1 HK.out.1
      first
       | exact ⟨i + 1, by omega, by go_num, f, HK.out.2⟩
       | ((repeat apply Exists.intro); exact ⟨⟨i + 1, by omega, by go_num, f, HK.out.2⟩, rfl⟩)
     case measure => simp [intOf]; omega
  ·obtain rfl : i = M.tab.n := by omega
   clear hall hb
   go_wp2_with fail
   clear b2 b3
   go_loopw [6] (fun iv wr => ∃ i : Nat, i ≤ M.fns.n ∧ iv = .int .i64 i ∧ (∀ t, t < i → ∀ j, j < (M.F t).blk.n → ∀ k, k < ((M.F t).B j).n → SymI M ((M.F t).I j k)) ∧ Below W.heap.size W wr) (fun iv _ => M.fns.n - (intOf iv).toNat)
   case atStart => exact ⟨0, Nat.zero_le _, rfl, fun t ht => by omega, HA.out.2⟩
   case round =>
    have HX := hid HA.out.1
    clear HA
    obtain ⟨i, hi, rfl, hall, hb⟩ := hrel
    have HA := hid (And.intro hall hb)
    have b3 := cell_on hb BX.out.2.2.2
    by_cases li : i < M.fns.n
    ·obtain ⟨fb, fo, hfx, hFA⟩ := HM.out.fns.at underlying25 size36 li
     have F4 := hid hFA.c4
     have f4 := cell_on hb hFA.c4
     have LF := hid (HS.out.light i li)
     have gb := LF.out.blk
     clear hFA hall hb
     go_wp2_with fail
     clear b3 f4
     go_loopw [7] (fun iv wx => ∃ j : Nat, j ≤ (M.F i).blk.n ∧ iv = .int .i64 j ∧ (∀ t, t < j → ∀ k, k < ((M.F i).B t).n → SymI M ((M.F i).I t k)) ∧ Below W.heap.size W wx) (fun iv _ => (M.F i).blk.n - (intOf iv).toNat)
     case atStart => exact ⟨0, Nat.zero_le _, rfl, fun t ht => by omega, HA.out.2⟩
     case round =>
      obtain ⟨j, hj, rfl, hall, hb⟩ := hrel
      have HJ := hid (And.intro hall hb)
      have b3 := cell_on hb BX.out.2.2.2
      have f4 := cell_on hb F4.out
      by_cases lj : j < (M.F i).blk.n
      ·obtain ⟨bb, bo, hbx, hbc0⟩ := (HM.out.fnI i li).blk.at lj
       have BC := hid hbc0
       have hbc := cell_on hb hbc0
       have gi := LF.out.ins j lj
       clear hbc0 hall hb
       go_wp2_with fail
       clear b3 f4 hbc
       go_loopw [8] (fun iv wx => ∃ k : Nat, k ≤ ((M.F i).B j).n ∧ iv = .int .i64 k ∧ (∀ t, t < k → SymI M ((M.F i).I j t)) ∧ Below W.heap.size W wx) (fun iv _ => ((M.F i).B j).n - (intOf iv).toNat)
       case atStart => exact ⟨0, Nat.zero_le _, rfl, fun t ht => by omega, HJ.out.2⟩
       case round =>
        obtain ⟨k, hk, rfl, hall, hb⟩ := hrel
        have HT := hid (And.intro hall hb)
        have b0 := cell_on hb BX.out.1
        have b1 := cell_on hb BX.out.2.1
        have b2 := cell_on hb BX.out.2.2.1
        have b3 := cell_on hb BX.out.2.2.2
        have f4 := cell_on hb F4.out
        have hbc := cell_on hb BC.out
        have hbz := World.block_lt_of_cell? _ _ b0
        by_cases lk : k < ((M.F i).B j).n
        ·obtain ⟨ib, io, hiy, c0, c1, c2, c3, c4, c5, c6⟩ := (((HM.out.fnI i li).ins j lj).on hb).at lk
         clear hall hb
         obtain ⟨op, hop⟩ : ∃ op, ((M.F i).I j k).op = op := ⟨_, rfl⟩
         rw [hop] at c0
         have HOP := hid hop
         clear hop
         by_cases h1 : ((M.F i).I j k).sym < 0
         ·have t1 : decide (((M.F i).I j k).sym < 0) = true := by simpa using h1
          have HN := hid (show ¬ SymM M from fun h => by have := (h.ins i li j lj k lk).1; omega)
          clear h1
          go_wp2
          all_goals go_ret
          all_goals exact ⟨false, rfl, by simp [HN.out], View.more LW.out (View.more HT.out.2 (new (same _) _))⟩
         have t1 : decide (((M.F i).I j k).sym < 0) = false := by simpa using h1
         by_cases e2 : op = 2
         ·subst e2
          have HN2 := hid (show symN M ((M.F i).I j k).op = M.fns.n by rw [HOP.out]; rfl)
          by_cases h2 : (M.fns.n : Int) ≤ ((M.F i).I j k).sym
          ·have t2 : decide ((M.fns.n : Int) ≤ ((M.F i).I j k).sym) = true := by simpa using h2
           have HN := hid (show ¬ SymM M from fun h => by have := (h.ins i li j lj k lk).2; rw [HN2.out] at this; omega)
           clear h1 h2
           go_wp2_with fail
           go_ret
           exact ⟨false, rfl, by simp [HN.out], View.more LW.out (View.more HT.out.2 (new (same _) _))⟩
          ·have t2 : decide ((M.fns.n : Int) ≤ ((M.F i).I j k).sym) = false := by simpa using h2
           have HP := hid (show SymI M ((M.F i).I j k) from ⟨by omega, by rw [HN2.out]; omega⟩)
           clear h1 h2
           go_wp2_with fail
           go_round
           case rel => exact ⟨k + 1, by omega, by go_num, upto2 HT.out.1 HP.out, View.more HT.out.2 (new (same _) _)⟩
           case measure => simp [intOf]; omega
         have q2 : (op == 2) = false := by simp [e2]
         by_cases e22 : op = 22
         ·subst e22
          have HN2 := hid (show symN M ((M.F i).I j k).op = M.fns.n by rw [HOP.out]; rfl)
          by_cases h2 : (M.fns.n : Int) ≤ ((M.F i).I j k).sym
          ·have t2 : decide ((M.fns.n : Int) ≤ ((M.F i).I j k).sym) = true := by simpa using h2
           have HN := hid (show ¬ SymM M from fun h => by have := (h.ins i li j lj k lk).2; rw [HN2.out] at this; omega)
           clear h1 h2
           go_wp2_with fail
           go_ret
           exact ⟨false, rfl, by simp [HN.out], View.more LW.out (View.more HT.out.2 (new (same _) _))⟩
          ·have t2 : decide ((M.fns.n : Int) ≤ ((M.F i).I j k).sym) = false := by simpa using h2
           have HP := hid (show SymI M ((M.F i).I j k) from ⟨by omega, by rw [HN2.out]; omega⟩)
           clear h1 h2
           go_wp2_with fail
           go_round
           case rel => exact ⟨k + 1, by omega, by go_num, upto2 HT.out.1 HP.out, View.more HT.out.2 (new (same _) _)⟩
           case measure => simp [intOf]; omega
         have q22 : (op == 22) = false := by simp [e22]
         by_cases e3 : op = 3
         ·subst e3
          have HN2 := hid (show symN M ((M.F i).I j k).op = M.glo.n by rw [HOP.out]; rfl)
          by_cases h2 : (M.glo.n : Int) ≤ ((M.F i).I j k).sym
          ·have t2 : decide ((M.glo.n : Int) ≤ ((M.F i).I j k).sym) = true := by simpa using h2
           have HN := hid (show ¬ SymM M from fun h => by have := (h.ins i li j lj k lk).2; rw [HN2.out] at this; omega)
           clear h1 h2
           go_wp2_with fail
           go_ret
           exact ⟨false, rfl, by simp [HN.out], View.more LW.out (View.more HT.out.2 (new (same _) _))⟩
          ·have t2 : decide ((M.glo.n : Int) ≤ ((M.F i).I j k).sym) = false := by simpa using h2
           have HP := hid (show SymI M ((M.F i).I j k) from ⟨by omega, by rw [HN2.out]; omega⟩)
           clear h1 h2
           go_wp2_with fail
           go_round
           case rel => exact ⟨k + 1, by omega, by go_num, upto2 HT.out.1 HP.out, View.more HT.out.2 (new (same _) _)⟩
           case measure => simp [intOf]; omega
         have q3 : (op == 3) = false := by simp [e3]
         by_cases e23 : op = 23
         ·subst e23
          have HN2 := hid (show symN M ((M.F i).I j k).op = M.ext.n by rw [HOP.out]; rfl)
          by_cases h2 : (M.ext.n : Int) ≤ ((M.F i).I j k).sym
          ·have t2 : decide ((M.ext.n : Int) ≤ ((M.F i).I j k).sym) = true := by simpa using h2
           have HN := hid (show ¬ SymM M from fun h => by have := (h.ins i li j lj k lk).2; rw [HN2.out] at this; omega)
           clear h1 h2
           go_wp2_with fail
           go_ret
           exact ⟨false, rfl, by simp [HN.out], View.more LW.out (View.more HT.out.2 (new (same _) _))⟩
          ·have t2 : decide ((M.ext.n : Int) ≤ ((M.F i).I j k).sym) = false := by simpa using h2
           have HP := hid (show SymI M ((M.F i).I j k) from ⟨by omega, by rw [HN2.out]; omega⟩)
           clear h1 h2
           go_wp2_with fail
           go_round
           case rel => exact ⟨k + 1, by omega, by go_num, upto2 HT.out.1 HP.out, View.more HT.out.2 (new (same _) _)⟩
           case measure => simp [intOf]; omega
         have q23 : (op == 23) = false := by simp [e23]
         by_cases e24 : op = 24
         ·subst e24
          have HN2 := hid (show symN M ((M.F i).I j k).op = M.tab.n by rw [HOP.out]; rfl)
          by_cases h2 : (M.tab.n : Int) ≤ ((M.F i).I j k).sym
          ·have t2 : decide ((M.tab.n : Int) ≤ ((M.F i).I j k).sym) = true := by simpa using h2
           have HN := hid (show ¬ SymM M from fun h => by have := (h.ins i li j lj k lk).2; rw [HN2.out] at this; omega)
           clear h1 h2
           go_wp2_with fail
           go_ret
           exact ⟨false, rfl, by simp [HN.out], View.more LW.out (View.more HT.out.2 (new (same _) _))⟩
          ·have t2 : decide ((M.tab.n : Int) ≤ ((M.F i).I j k).sym) = false := by simpa using h2
           have HP := hid (show SymI M ((M.F i).I j k) from ⟨by omega, by rw [HN2.out]; omega⟩)
           clear h1 h2
           go_wp2_with fail
           go_round
           case rel => exact ⟨k + 1, by omega, by go_num, upto2 HT.out.1 HP.out, View.more HT.out.2 (new (same _) _)⟩
           case measure => simp [intOf]; omega
         have q24 : (op == 24) = false := by simp [e24]
         have HN2 := hid (show symN M ((M.F i).I j k).op = 1 by rw [HOP.out]; unfold symN; rw [if_neg (by omega), if_neg e3, if_neg e23, if_neg e24])
         clear e2 e22 e3 e23 e24
         by_cases h2 : (1 : Int) ≤ ((M.F i).I j k).sym
         ·have t2 : decide ((1 : Int) ≤ ((M.F i).I j k).sym) = true := by simpa using h2
          have HN := hid (show ¬ SymM M from fun h => by have := (h.ins i li j lj k lk).2; rw [HN2.out] at this; omega)
          clear h1 h2
          go_wp2_with fail
          go_ret
          exact ⟨false, rfl, by simp [HN.out], View.more LW.out (View.more HT.out.2 (new (same _) _))⟩
         ·have t2 : decide ((1 : Int) ≤ ((M.F i).I j k).sym) = false := by simpa using h2
          have HP := hid (show SymI M ((M.F i).I j k) from ⟨by omega, by rw [HN2.out]; omega⟩)
          clear h1 h2
          go_wp2_with fail
          go_round
          case rel => exact ⟨k + 1, by omega, by go_num, upto2 HT.out.1 HP.out, View.more HT.out.2 (new (same _) _)⟩
          case measure => simp [intOf]; omega
        ·obtain rfl : k = ((M.F i).B j).n := by omega
         clear hall hb
         go_wp2_with fail
         go_round
         case rel =>
          have f := upto2 (p := fun t => ∀ k, k < ((M.F i).B t).n → SymI M ((M.F i).I t k)) HJ.out.1 HT.out.1
          first
           | exact ⟨j + 1, by omega, by go_num, f, HT.out.2⟩
           | ((repeat apply Exists.intro); exact ⟨⟨j + 1, by omega, by go_num, f, HT.out.2⟩, rfl⟩)
         case measure => simp [intOf]; omega
      ·obtain rfl : j = (M.F i).blk.n := by omega
       clear hall hb
       go_wp2_with fail
       go_round
       case rel =>
        have f := upto2 (p := fun t => ∀ j, j < (M.F t).blk.n → ∀ k, k < ((M.F t).B j).n → SymI M ((M.F t).I j k)) HA.out.1 HJ.out.1
        first
         | exact ⟨i + 1, by omega, by go_num, f, HJ.out.2⟩
         | ((repeat apply Exists.intro); exact ⟨⟨i + 1, by omega, by go_num, f, HJ.out.2⟩, rfl⟩)
       case measure => simp [intOf]; omega
    ·obtain rfl : i = M.fns.n := by omega
     clear hall hb
     go_wp2_with fail
     go_ret
     exact ⟨true, rfl, by simp; exact ⟨HX.out, HA.out.1⟩, View.more LW.out HA.out.2⟩

end Go.Proofs.YtolipafcoolpgaaGreat.Chk
