/-
  Which forms may be, by the document: plnref3.form, forms.
-/
import Derived.Test.YtolipafcoolpgaaGreatChkF0
import Derived.Test.YtolipafcoolpgaaGreatChkF1
import Derived.Test.YtolipafcoolpgaaGreatChkF2
import Derived.Test.YtolipafcoolpgaaGreatChkF3
namespace Go.Proofs.YtolipafcoolpgaaGreat.Chk
open Go.RowKit View Rd Num Opn Copy Go.Proofs.YtolipafcoolpgaaGreat.Mod

set_option linter.unusedVariables false

set_option maxRecDepth 10000 in
set_option maxHeartbeats 1000000 in
theorem form_out (v : IV) (w : World) (h : v.op < 1 ∨ 30 < v.op ∨ v.ty < 0 ∨ 4 < v.ty) : Calls Tryz.prog 105 #[v.val] w fun e w' => e = .returned (.bool false) ∧ Below w.heap.size w w' := by
 by_cases h1 : v.op < 1
 ·have t1 : decide (v.op < 1) = true := by simpa using h1
  clear h
  go_enter Tryz.func105, Tryz.ntmps105
  go_wp2_with fail
  go_ret
  exact ⟨rfl, new (same w) _⟩
 have t1 : decide (v.op < 1) = false := by simpa using h1
 by_cases h2 : 30 < v.op
 ·have t2 : decide (30 < v.op) = true := by simpa using h2
  clear h
  go_enter Tryz.func105, Tryz.ntmps105
  go_wp2_with fail
  go_ret
  exact ⟨rfl, new (same w) _⟩
 have t2 : decide (30 < v.op) = false := by simpa using h2
 by_cases h3 : v.ty < 0
 ·have t3 : decide (v.ty < 0) = true := by simpa using h3
  clear h
  go_enter Tryz.func105, Tryz.ntmps105
  go_wp2_with fail
  go_ret
  exact ⟨rfl, new (same w) _⟩
 have t3 : decide (v.ty < 0) = false := by simpa using h3
 have t4 : decide (4 < v.ty) = true := by simp; omega
 clear h
 go_enter Tryz.func105, Tryz.ntmps105
 go_wp2_with fail
 go_ret
 exact ⟨rfl, new (same w) _⟩

theorem form_any (v : IV) (w : World) : Calls Tryz.prog 105 #[v.val] w fun e w' => e = .returned (.bool (formB v)) ∧ Below w.heap.size w w' := by
 by_cases h : v.op < 1 ∨ 30 < v.op ∨ v.ty < 0 ∨ 4 < v.ty
 ·have e : formB v = false := by
   unfold formB
   have q : (decide (1 ≤ v.op) && decide (v.op ≤ 30) && decide (0 ≤ v.ty) && decide (v.ty ≤ 4)) = false := by
    rw [Bool.eq_false_iff]
    intro hh
    simp at hh
    omega
   rw [q]; simp
  rw [e]
  exact form_out v w h
 ·have hy : 0 ≤ v.ty := by omega
  have hz : v.ty ≤ 4 := by omega
  have ho : v.op = 1 ∨ v.op = 2 ∨ v.op = 3 ∨ v.op = 4 ∨ v.op = 5 ∨ v.op = 6 ∨ v.op = 7 ∨ v.op = 8 ∨ v.op = 9 ∨ v.op = 10 ∨ v.op = 11 ∨ v.op = 12 ∨ v.op = 13 ∨ v.op = 14 ∨ v.op = 15 ∨ v.op = 16 ∨ v.op = 17 ∨ v.op = 18 ∨ v.op = 19 ∨ v.op = 20 ∨ v.op = 21 ∨ v.op = 22 ∨ v.op = 23 ∨ v.op = 24 ∨ v.op = 25 ∨ v.op = 26 ∨ v.op = 27 ∨ v.op = 28 ∨ v.op = 29 ∨ v.op = 30 := by omega
  rcases ho with e | e | e | e | e | e | e | e | e | e | e | e | e | e | e | e | e | e | e | e | e | e | e | e | e | e | e | e | e | e
  ·exact form_1 v w e hy hz
  ·exact form_2 v w e hy hz
  ·exact form_3 v w e hy hz
  ·exact form_4 v w e hy hz
  ·exact form_5 v w e hy hz
  ·exact form_6 v w e hy hz
  ·exact form_7 v w e hy hz
  ·exact form_8 v w e hy hz
  ·exact form_9 v w e hy hz
  ·exact form_10 v w e hy hz
  ·exact form_11 v w e hy hz
  ·exact form_12 v w e hy hz
  ·exact form_13 v w e hy hz
  ·exact form_14 v w e hy hz
  ·exact form_15 v w e hy hz
  ·exact form_16 v w e hy hz
  ·exact form_17 v w e hy hz
  ·exact form_18 v w e hy hz
  ·exact form_19 v w e hy hz
  ·exact form_20 v w e hy hz
  ·exact form_21 v w e hy hz
  ·exact form_22 v w e hy hz
  ·exact form_23 v w e hy hz
  ·exact form_24 v w e hy hz
  ·exact form_25 v w e hy hz
  ·exact form_26 v w e hy hz
  ·exact form_27 v w e hy hz
  ·exact form_28 v w e hy hz
  ·exact form_29 v w e hy hz
  ·exact form_30 v w e hy hz

def FormE (M : MV) (t : Nat) : Prop := 0 ≤ (M.E t).res ∧ (M.E t).res ≤ 2 ∧ ∀ k, k < (M.E t).par.n → M.EP t k = 1 ∨ M.EP t k = 2

def FormH (F : FV) : Prop := 0 ≤ F.res ∧ F.res ≤ 4 ∧ F.res ≠ 3 ∧ (F.out = true → F.res ≤ 2)
def FormP (F : FV) (k : Nat) : Prop := 1 ≤ F.P k ∧ F.P k ≤ 4 ∧ (F.out = true → F.P k ≤ 2)
def FormF (F : FV) : Prop := FormH F ∧ (∀ k, k < F.par.n → FormP F k) ∧ ∀ j, j < F.blk.n → ∀ k, k < (F.B j).n → formB (F.I j k) = true

structure FormM (M : MV) : Prop where
 ext : ∀ t, t < M.ext.n → FormE M t
 fns : ∀ t, t < M.fns.n → FormF (M.F t)

theorem upto1 {p : Nat → Prop} {k : Nat} (h : ∀ i, i < k → p i) (hk : p k) : ∀ i, i < k + 1 → p i := fun i hi => by
 rcases Nat.lt_or_eq_of_le (Nat.le_of_lt_succ hi) with h' | rfl
 ·exact h i h'
 ·exact hk

set_option maxRecDepth 10000 in
set_option maxHeartbeats 4000000 in
theorem forms_any (M : MV) (w : World) (hM : InM w M) (hs : SmallM M) : Calls Tryz.prog 55 #[M.val] w fun e w' => Ans (fun r => r = true ↔ FormM M) w e w' := by
 have x1 := hs.ext
 have x4 := hs.fns
 obtain ⟨W, hW⟩ : ∃ W, w.alloc (.cells (mcells M) 27) = W := ⟨_, rfl⟩
 have B0 : W.cell? ⟨w.heap.size, 0, none⟩ = some (.slice M.ext.a M.ext.n M.ext.c) := by rw [← hW]; simp
 have B3 : W.cell? ⟨w.heap.size, 3, none⟩ = some (.slice M.fns.a M.fns.n M.fns.c) := by rw [← hW]; simp
 have BX := hid (And.intro B0 B3)
 have HM := hid (show InM W M by rw [← hW]; exact hM.on (new (same w) _))
 have LW := hid (show Below w.heap.size w W by rw [← hW]; exact new (same w) _)
 have HS := hid hs
 have HWW := hid hW
 clear hM hs B0 B3 hW
 go_enter Tryz.func55, Tryz.ntmps55
 go_wp2_with fail
 simp only [HWW.out]
 clear HWW
 go_loopw [3] (fun iv wr => ∃ i : Nat, i ≤ M.ext.n ∧ iv = .int .i64 i ∧ (∀ t, t < i → FormE M t) ∧ Below W.heap.size W wr) (fun iv _ => M.ext.n - (intOf iv).toNat)
 case atStart => exact ⟨0, Nat.zero_le _, rfl, fun t ht => by omega, same _⟩
 case round =>
  obtain ⟨i, hi, rfl, hall, hb⟩ := hrel
  have HA := hid (And.intro hall hb)
  have b0 := cell_on hb BX.out.1
  have b3 := cell_on hb BX.out.2
  by_cases li : i < M.ext.n
  ·obtain ⟨rb, ro, hrx, r0, r1, r2⟩ := (HM.out.on hb).ext.at underlying22 size65 li
   have gp := (HS.out.extI i li).2
   clear hall hb
   by_cases h1 : (M.E i).res < 0
   ·have t1 : decide ((M.E i).res < 0) = true := by simpa using h1
    have HN := hid (show ¬ FormM M from fun h => by have := (h.ext i li).1; omega)
    clear h1
    go_wp2_with fail
    go_ret
    exact ⟨false, rfl, by simp [HN.out], View.more LW.out (View.more HA.out.2 (new (same _) _))⟩
   have t1 : decide ((M.E i).res < 0) = false := by simpa using h1
   by_cases h2 : 2 < (M.E i).res
   ·have t2 : decide (2 < (M.E i).res) = true := by simpa using h2
    have HN := hid (show ¬ FormM M from fun h => by have := (h.ext i li).2.1; omega)
    clear h1 h2
    go_wp2_with fail
    go_ret
    exact ⟨false, rfl, by simp [HN.out], View.more LW.out (View.more HA.out.2 (new (same _) _))⟩
   have t2 : decide (2 < (M.E i).res) = false := by simpa using h2
   have HE := hid (show 0 ≤ (M.E i).res ∧ (M.E i).res ≤ 2 by omega)
   clear h1 h2
   go_wp2_with fail
   obtain ⟨N4, hN4⟩ : ∃ N4, wr.heap.size = N4 := ⟨_, rfl⟩
   obtain ⟨W4, hW4⟩ : ∃ W4, wr.alloc (.cells #[.string (M.E i).name, .slice (M.E i).par.a (M.E i).par.n (M.E i).par.c, .int .i64 (M.E i).res] 65) = W4 := ⟨_, rfl⟩
   have X1 := hid (show W4.cell? ⟨N4, 1, none⟩ = some (.slice (M.E i).par.a (M.E i).par.n (M.E i).par.c) by rw [← hW4, ← hN4]; simp)
   have L4 := hid (show Below W.heap.size W W4 by rw [← hW4]; exact new HA.out.2 _)
   have IP := hid (show Ints W4 (M.E i).par (M.EP i) by rw [← hW4]; exact ((HM.out.extP i li).on HA.out.2).on (new (same _) _))
   rw [hW4, hN4]
   clear hW4 hN4 b0 b3 r0 r1 r2
   go_loopw [5] (fun iv wx => ∃ k : Nat, k ≤ (M.E i).par.n ∧ iv = .int .i64 k ∧ (∀ t, t < k → M.EP i t = 1 ∨ M.EP i t = 2) ∧ Below W4.heap.size W4 wx) (fun iv _ => (M.E i).par.n - (intOf iv).toNat)
   case atStart => exact ⟨0, Nat.zero_le _, rfl, fun t ht => by omega, same _⟩
   case round =>
    obtain ⟨k, hk, rfl, hall, hb⟩ := hrel
    have HK := hid (And.intro hall hb)
    have x1' := cell_on hb X1.out
    by_cases lk : k < (M.E i).par.n
    ·obtain ⟨pb, po, hpx, hpc⟩ := (IP.out.on hb).at lk
     clear hall hb
     by_cases h1 : M.EP i k = 1
     ·have t1' : (M.EP i k != 1) = false := by simp [h1]
      have H1 := hid h1
      clear h1
      go_wp2_with fail
      go_round
      case rel => exact ⟨k + 1, by omega, by go_num, upto1 HK.out.1 (.inl H1.out), HK.out.2⟩
      case measure => simp [intOf]; omega
     ·have t1' : (M.EP i k != 1) = true := by simp [h1]
      by_cases h2 : M.EP i k = 2
      ·have t2' : (M.EP i k != 2) = false := by simp [h2]
       have H2 := hid h2
       clear h1 h2
       go_wp2_with fail
       go_round
       case rel => exact ⟨k + 1, by omega, by go_num, upto1 HK.out.1 (.inr H2.out), HK.out.2⟩
       case measure => simp [intOf]; omega
      ·have t2' : (M.EP i k != 2) = true := by simp [h2]
       have HN := hid (show ¬ FormM M from fun h => by rcases (h.ext i li).2.2 k lk with e | e; exact h1 e; exact h2 e)
       clear h1 h2
       go_wp2_with fail
       go_ret
       exact ⟨false, rfl, by simp [HN.out], View.more LW.out (View.more L4.out HK.out.2)⟩
    ·obtain rfl : k = (M.E i).par.n := by omega
     clear hall hb
     go_wp2_with fail
     go_round
     case rel =>
      have f := upto1 HA.out.1 (show FormE M i from ⟨HE.out.1, HE.out.2, HK.out.1⟩)
      first
       | exact ⟨i + 1, by omega, by go_num, f, View.more L4.out HK.out.2⟩
       | ((repeat apply Exists.intro); exact ⟨⟨i + 1, by omega, by go_num, f, View.more L4.out HK.out.2⟩, rfl⟩)
     case measure => simp [intOf]; omega
  ·obtain rfl : i = M.ext.n := by omega
   clear hall hb
   go_wp2_with fail
   clear b0 b3
   go_loopw [6] (fun iv wr => ∃ i : Nat, i ≤ M.fns.n ∧ iv = .int .i64 i ∧ (∀ t, t < i → FormF (M.F t)) ∧ Below W.heap.size W wr) (fun iv _ => M.fns.n - (intOf iv).toNat)
   case atStart => exact ⟨0, Nat.zero_le _, rfl, fun t ht => by omega, HA.out.2⟩
   case round =>
    have HX := hid HA.out.1
    clear HA
    obtain ⟨i, hi, rfl, hall, hb⟩ := hrel
    have HA := hid (And.intro hall hb)
    have b3 := cell_on hb BX.out.2
    by_cases li : i < M.fns.n
    ·obtain ⟨rb, ro, hrx, r0, r1, r2, r3, r4⟩ := (HM.out.on hb).fns.at underlying25 size36 li
     have LF := hid (HS.out.light i li)
     clear hall hb
     have no : ∀ {wx : World}, Below wr.heap.size wr wx → ¬ FormM M → Ans (fun r => r = true ↔ FormM M) w (.returned (.bool false)) wx := fun h hn => ⟨false, rfl, by simp [hn], View.more LW.out (View.more HA.out.2 h)⟩
     by_cases h1 : (M.F i).res < 0
     ·have t1 : decide ((M.F i).res < 0) = true := by simpa using h1
      have HN := hid (show ¬ FormM M from fun h => by have := (h.fns i li).1.1; omega)
      clear h1
      go_wp2_with fail
      go_ret
      exact no (new (same _) _) HN.out
     have t1 : decide ((M.F i).res < 0) = false := by simpa using h1
     by_cases h2 : 4 < (M.F i).res
     ·have t2 : decide (4 < (M.F i).res) = true := by simpa using h2
      have HN := hid (show ¬ FormM M from fun h => by have := (h.fns i li).1.2.1; omega)
      clear h1 h2
      go_wp2_with fail
      go_ret
      exact no (new (same _) _) HN.out
     have t2 : decide (4 < (M.F i).res) = false := by simpa using h2
     by_cases h3 : (M.F i).res = 3
     ·have t3 : ((M.F i).res == 3) = true := by simp [h3]
      have HN := hid (show ¬ FormM M from fun h => (h.fns i li).1.2.2.1 h3)
      clear h1 h2 h3
      go_wp2_with fail
      go_ret
      exact no (new (same _) _) HN.out
     have t3 : ((M.F i).res == 3) = false := by simp [h3]
     obtain ⟨ob, hob⟩ : ∃ ob, (M.F i).out = ob := ⟨_, rfl⟩
     by_cases h4 : ob = true ∧ 2 < (M.F i).res
     ·have t4 : decide (2 < (M.F i).res) = true := by simpa using h4.2
      have HN := hid (show ¬ FormM M from fun h => by have := (h.fns i li).1.2.2.2 (by rw [hob]; exact h4.1); omega)
      rw [hob, h4.1] at r1
      clear h1 h2 h3 h4 hob
      go_wp2_with fail
      go_ret
      exact no (new (same _) _) HN.out
     have HH := hid (show FormH (M.F i) from ⟨by omega, by omega, h3, fun h => by rw [hob] at h; have : ¬ 2 < (M.F i).res := fun q => h4 ⟨h, q⟩; omega⟩)
     have HO := hid hob
     have d4 : ob = true → decide (2 < (M.F i).res) = false := fun h => by simp; have : ¬ 2 < (M.F i).res := fun q => h4 ⟨h, q⟩; omega
     clear h1 h2 h3 h4
     rw [hob] at r1
     clear hob no
     cases ob with
     | true =>
      have d5 := d4 rfl
      clear d4
      go_wp2_with fail
      obtain ⟨N7, hN7⟩ : ∃ N7, wr.heap.size = N7 := ⟨_, rfl⟩
      obtain ⟨W7, hW7⟩ : ∃ W7, wr.alloc (.cells #[.string (M.F i).name, .bool true, .slice (M.F i).par.a (M.F i).par.n (M.F i).par.c, .int .i64 (M.F i).res, .slice (M.F i).blk.a (M.F i).blk.n (M.F i).blk.c] 36) = W7 := ⟨_, rfl⟩
      have X7 := hid (show W7.cell? ⟨N7, 1, none⟩ = some (.bool true) ∧ W7.cell? ⟨N7, 2, none⟩ = some (.slice (M.F i).par.a (M.F i).par.n (M.F i).par.c) ∧ W7.cell? ⟨N7, 4, none⟩ = some (.slice (M.F i).blk.a (M.F i).blk.n (M.F i).blk.c) by rw [← hW7, ← hN7]; exact ⟨by simp, by simp, by simp⟩)
      have L7 := hid (show Below W.heap.size W W7 by rw [← hW7]; exact new HA.out.2 _)
      have IF := hid (show In W7 (M.F i) by rw [← hW7]; exact ((HM.out.fnI i li).on HA.out.2).on (new (same _) _))
      have gp := LF.out.par
      have gb := LF.out.blk
      rw [hW7, hN7]
      clear hW7 hN7 b3 r0 r1 r2 r3 r4 t1 t2 t3 d5
      go_loopw [8] (fun iv wx => ∃ k : Nat, k ≤ (M.F i).par.n ∧ iv = .int .i64 k ∧ (∀ t, t < k → FormP (M.F i) t) ∧ Below W7.heap.size W7 wx) (fun iv _ => (M.F i).par.n - (intOf iv).toNat)
      case atStart => exact ⟨0, Nat.zero_le _, rfl, fun t ht => by omega, same _⟩
      case round =>
       obtain ⟨k, hk, rfl, hall, hb⟩ := hrel
       have HK := hid (And.intro hall hb)
       have x1' := cell_on hb X7.out.1
       have x2' := cell_on hb X7.out.2.1
       have x4' := cell_on hb X7.out.2.2
       by_cases lk : k < (M.F i).par.n
       ·obtain ⟨pb, po, hpx, hpc⟩ := (IF.out.on hb).par.at lk
        clear hall hb
        by_cases h1 : (M.F i).P k < 1
        ·have th1 : decide ((M.F i).P k < 1) = true := by simpa using h1
         have HN := hid (show ¬ FormM M from fun h => by have := ((h.fns i li).2.1 k lk).1; omega)
         clear h1
         go_wp2_with fail
         go_ret
         exact ⟨false, rfl, by simp [HN.out], View.more LW.out (View.more L7.out HK.out.2)⟩
        have th1 : decide ((M.F i).P k < 1) = false := by simpa using h1
        by_cases h2 : 4 < (M.F i).P k
        ·have th2 : decide (4 < (M.F i).P k) = true := by simpa using h2
         have HN := hid (show ¬ FormM M from fun h => by have := ((h.fns i li).2.1 k lk).2.1; omega)
         clear h2
         go_wp2_with fail
         go_ret
         exact ⟨false, rfl, by simp [HN.out], View.more LW.out (View.more L7.out HK.out.2)⟩
        have th2 : decide (4 < (M.F i).P k) = false := by simpa using h2
        by_cases h3 : 2 < (M.F i).P k
        ·have th3 : decide (2 < (M.F i).P k) = true := by simpa using h3
         have HN := hid (show ¬ FormM M from fun h => by have := ((h.fns i li).2.1 k lk).2.2 HO.out; omega)
         clear h3
         go_wp2_with fail
         go_ret
         exact ⟨false, rfl, by simp [HN.out], View.more LW.out (View.more L7.out HK.out.2)⟩
        have th3 : decide (2 < (M.F i).P k) = false := by simpa using h3
        have HP := hid (show FormP (M.F i) k from ⟨by omega, by omega, fun h => by omega⟩)
        clear h1 h2 h3
        go_wp2_with fail
        go_round
        case rel => exact ⟨k + 1, by omega, by go_num, upto1 HK.out.1 HP.out, HK.out.2⟩
        case measure => simp [intOf]; omega
       ·obtain rfl : k = (M.F i).par.n := by omega
        clear hall hb
        go_wp2_with fail
        clear x1' x2' x4'
        go_loopw [9] (fun iv wx => ∃ j : Nat, j ≤ (M.F i).blk.n ∧ iv = .int .i64 j ∧ (∀ t, t < j → ∀ k, k < ((M.F i).B t).n → formB ((M.F i).I t k) = true) ∧ Below W7.heap.size W7 wx) (fun iv _ => (M.F i).blk.n - (intOf iv).toNat)
        case atStart => exact ⟨0, Nat.zero_le _, rfl, fun t ht => by omega, HK.out.2⟩
        case round =>
         have HPP := hid HK.out.1
         clear HK
         obtain ⟨j, hj, rfl, hall, hb⟩ := hrel
         have HJ := hid (And.intro hall hb)
         have x4' := cell_on hb X7.out.2.2
         by_cases lj : j < (M.F i).blk.n
         ·obtain ⟨bb, bo, hbx, hbc⟩ := (IF.out.on hb).blk.at lj
          have gi := LF.out.ins j lj
          clear hall hb
          go_wp2_with fail
          clear x4' hbc
          go_loopw [10] (fun iv wx => ∃ k : Nat, k ≤ ((M.F i).B j).n ∧ iv = .int .i64 k ∧ (∀ t, t < k → formB ((M.F i).I j t) = true) ∧ Below W7.heap.size W7 wx) (fun iv _ => ((M.F i).B j).n - (intOf iv).toNat)
          case atStart => exact ⟨0, Nat.zero_le _, rfl, fun t ht => by omega, HJ.out.2⟩
          case round =>
           obtain ⟨k, hk, rfl, hall, hb⟩ := hrel
           have HT := hid (And.intro hall hb)
           have x4' := cell_on hb X7.out.2.2
           obtain ⟨bb2, bo2, hbx2, hbc2⟩ := (IF.out.on hb).blk.at lj
           have hbc := cell_on hb (show W7.cell? ⟨bb, bo, none⟩ = some (.slice ((M.F i).B j).a ((M.F i).B j).n ((M.F i).B j).c) from by
            have e := (hbx W7).symm.trans (hbx2 W7)
            simp at e
            rw [e.1, e.2]
            obtain ⟨b', o', h1', h2'⟩ := IF.out.blk.at lj
            have e' := (hbx2 W7).symm.trans (h1' W7)
            simp at e'
            rw [e'.1, e'.2]; exact h2')
           clear hbx2 hbc2
           by_cases lk : k < ((M.F i).B j).n
           ·obtain ⟨ib, io, hiy, c0, c1, c2, c3, c4, c5, c6⟩ := ((IF.out.on hb).ins j lj).at lk
            clear hall hb
            go_wp2_with fail
            refine (form_any ((M.F i).I j k) _).mono ?_
            rintro e w9 ⟨rfl, hb9⟩
            have B9 := hid hb9
            clear hb9 c0 c1 c2 c3 c4 c5 c6 x4' hbc
            cases hfb : formB ((M.F i).I j k) with
            | false =>
             have HN := hid (show ¬ FormM M from fun h => by have := (h.fns i li).2.2 j lj k lk; rw [hfb] at this; cases this)
             clear hfb
             go_wp2_with fail
             go_ret
             exact ⟨false, rfl, by simp [HN.out], View.more LW.out (View.more L7.out (View.more HT.out.2 B9.out))⟩
            | true =>
             have HB := hid hfb
             clear hfb
             go_wp2_with fail
             go_round
             case rel => exact ⟨k + 1, by omega, by go_num, upto1 HT.out.1 HB.out, View.more HT.out.2 B9.out⟩
             case measure => simp [intOf]; omega
           ·obtain rfl : k = ((M.F i).B j).n := by omega
            clear hall hb
            go_wp2_with fail
            go_round
            case rel =>
             have f := upto1 (p := fun t => ∀ k, k < ((M.F i).B t).n → formB ((M.F i).I t k) = true) HJ.out.1 HT.out.1
             first
              | exact ⟨j + 1, by omega, by go_num, f, HT.out.2⟩
              | ((repeat apply Exists.intro); exact ⟨⟨j + 1, by omega, by go_num, f, HT.out.2⟩, rfl⟩)
            case measure => simp [intOf]; omega
         ·obtain rfl : j = (M.F i).blk.n := by omega
          clear hall hb
          go_wp2_with fail
          go_round
          case rel =>
           have f := upto1 HA.out.1 (show FormF (M.F i) from ⟨HH.out, HPP.out, HJ.out.1⟩)
           first
            | exact ⟨i + 1, by omega, by go_num, f, View.more L7.out HJ.out.2⟩
            | ((repeat apply Exists.intro); exact ⟨⟨i + 1, by omega, by go_num, f, View.more L7.out HJ.out.2⟩, rfl⟩)
          case measure => simp [intOf]; omega
     | false =>
      clear d4
      go_wp2_with fail
      obtain ⟨N7, hN7⟩ : ∃ N7, wr.heap.size = N7 := ⟨_, rfl⟩
      obtain ⟨W7, hW7⟩ : ∃ W7, wr.alloc (.cells #[.string (M.F i).name, .bool false, .slice (M.F i).par.a (M.F i).par.n (M.F i).par.c, .int .i64 (M.F i).res, .slice (M.F i).blk.a (M.F i).blk.n (M.F i).blk.c] 36) = W7 := ⟨_, rfl⟩
      have X7 := hid (show W7.cell? ⟨N7, 1, none⟩ = some (.bool false) ∧ W7.cell? ⟨N7, 2, none⟩ = some (.slice (M.F i).par.a (M.F i).par.n (M.F i).par.c) ∧ W7.cell? ⟨N7, 4, none⟩ = some (.slice (M.F i).blk.a (M.F i).blk.n (M.F i).blk.c) by rw [← hW7, ← hN7]; exact ⟨by simp, by simp, by simp⟩)
      have L7 := hid (show Below W.heap.size W W7 by rw [← hW7]; exact new HA.out.2 _)
      have IF := hid (show In W7 (M.F i) by rw [← hW7]; exact ((HM.out.fnI i li).on HA.out.2).on (new (same _) _))
      have gp := LF.out.par
      have gb := LF.out.blk
      rw [hW7, hN7]
      clear hW7 hN7 b3 r0 r1 r2 r3 r4 t1 t2 t3
      go_loopw [8] (fun iv wx => ∃ k : Nat, k ≤ (M.F i).par.n ∧ iv = .int .i64 k ∧ (∀ t, t < k → FormP (M.F i) t) ∧ Below W7.heap.size W7 wx) (fun iv _ => (M.F i).par.n - (intOf iv).toNat)
      case atStart => exact ⟨0, Nat.zero_le _, rfl, fun t ht => by omega, same _⟩
      case round =>
       obtain ⟨k, hk, rfl, hall, hb⟩ := hrel
       have HK := hid (And.intro hall hb)
       have x1' := cell_on hb X7.out.1
       have x2' := cell_on hb X7.out.2.1
       have x4' := cell_on hb X7.out.2.2
       by_cases lk : k < (M.F i).par.n
       ·obtain ⟨pb, po, hpx, hpc⟩ := (IF.out.on hb).par.at lk
        clear hall hb
        by_cases h1 : (M.F i).P k < 1
        ·have th1 : decide ((M.F i).P k < 1) = true := by simpa using h1
         have HN := hid (show ¬ FormM M from fun h => by have := ((h.fns i li).2.1 k lk).1; omega)
         clear h1
         go_wp2_with fail
         go_ret
         exact ⟨false, rfl, by simp [HN.out], View.more LW.out (View.more L7.out HK.out.2)⟩
        have th1 : decide ((M.F i).P k < 1) = false := by simpa using h1
        by_cases h2 : 4 < (M.F i).P k
        ·have th2 : decide (4 < (M.F i).P k) = true := by simpa using h2
         have HN := hid (show ¬ FormM M from fun h => by have := ((h.fns i li).2.1 k lk).2.1; omega)
         clear h2
         go_wp2_with fail
         go_ret
         exact ⟨false, rfl, by simp [HN.out], View.more LW.out (View.more L7.out HK.out.2)⟩
        have th2 : decide (4 < (M.F i).P k) = false := by simpa using h2
        have HP := hid (show FormP (M.F i) k from ⟨by omega, by omega, fun h => by rw [HO.out] at h; cases h⟩)
        clear h1 h2
        go_wp2_with fail
        go_round
        case rel => exact ⟨k + 1, by omega, by go_num, upto1 HK.out.1 HP.out, HK.out.2⟩
        case measure => simp [intOf]; omega
       ·obtain rfl : k = (M.F i).par.n := by omega
        clear hall hb
        go_wp2_with fail
        clear x1' x2' x4'
        go_loopw [9] (fun iv wx => ∃ j : Nat, j ≤ (M.F i).blk.n ∧ iv = .int .i64 j ∧ (∀ t, t < j → ∀ k, k < ((M.F i).B t).n → formB ((M.F i).I t k) = true) ∧ Below W7.heap.size W7 wx) (fun iv _ => (M.F i).blk.n - (intOf iv).toNat)
        case atStart => exact ⟨0, Nat.zero_le _, rfl, fun t ht => by omega, HK.out.2⟩
        case round =>
         have HPP := hid HK.out.1
         clear HK
         obtain ⟨j, hj, rfl, hall, hb⟩ := hrel
         have HJ := hid (And.intro hall hb)
         have x4' := cell_on hb X7.out.2.2
         by_cases lj : j < (M.F i).blk.n
         ·obtain ⟨bb, bo, hbx, hbc⟩ := (IF.out.on hb).blk.at lj
          have gi := LF.out.ins j lj
          clear hall hb
          go_wp2_with fail
          clear x4' hbc
          go_loopw [10] (fun iv wx => ∃ k : Nat, k ≤ ((M.F i).B j).n ∧ iv = .int .i64 k ∧ (∀ t, t < k → formB ((M.F i).I j t) = true) ∧ Below W7.heap.size W7 wx) (fun iv _ => ((M.F i).B j).n - (intOf iv).toNat)
          case atStart => exact ⟨0, Nat.zero_le _, rfl, fun t ht => by omega, HJ.out.2⟩
          case round =>
           obtain ⟨k, hk, rfl, hall, hb⟩ := hrel
           have HT := hid (And.intro hall hb)
           have x4' := cell_on hb X7.out.2.2
           obtain ⟨bb2, bo2, hbx2, hbc2⟩ := (IF.out.on hb).blk.at lj
           have hbc := cell_on hb (show W7.cell? ⟨bb, bo, none⟩ = some (.slice ((M.F i).B j).a ((M.F i).B j).n ((M.F i).B j).c) from by
            have e := (hbx W7).symm.trans (hbx2 W7)
            simp at e
            rw [e.1, e.2]
            obtain ⟨b', o', h1', h2'⟩ := IF.out.blk.at lj
            have e' := (hbx2 W7).symm.trans (h1' W7)
            simp at e'
            rw [e'.1, e'.2]; exact h2')
           clear hbx2 hbc2
           by_cases lk : k < ((M.F i).B j).n
           ·obtain ⟨ib, io, hiy, c0, c1, c2, c3, c4, c5, c6⟩ := ((IF.out.on hb).ins j lj).at lk
            clear hall hb
            go_wp2_with fail
            refine (form_any ((M.F i).I j k) _).mono ?_
            rintro e w9 ⟨rfl, hb9⟩
            have B9 := hid hb9
            clear hb9 c0 c1 c2 c3 c4 c5 c6 x4' hbc
            cases hfb : formB ((M.F i).I j k) with
            | false =>
             have HN := hid (show ¬ FormM M from fun h => by have := (h.fns i li).2.2 j lj k lk; rw [hfb] at this; cases this)
             clear hfb
             go_wp2_with fail
             go_ret
             exact ⟨false, rfl, by simp [HN.out], View.more LW.out (View.more L7.out (View.more HT.out.2 B9.out))⟩
            | true =>
             have HB := hid hfb
             clear hfb
             go_wp2_with fail
             go_round
             case rel => exact ⟨k + 1, by omega, by go_num, upto1 HT.out.1 HB.out, View.more HT.out.2 B9.out⟩
             case measure => simp [intOf]; omega
           ·obtain rfl : k = ((M.F i).B j).n := by omega
            clear hall hb
            go_wp2_with fail
            go_round
            case rel =>
             have f := upto1 (p := fun t => ∀ k, k < ((M.F i).B t).n → formB ((M.F i).I t k) = true) HJ.out.1 HT.out.1
             first
              | exact ⟨j + 1, by omega, by go_num, f, HT.out.2⟩
              | ((repeat apply Exists.intro); exact ⟨⟨j + 1, by omega, by go_num, f, HT.out.2⟩, rfl⟩)
            case measure => simp [intOf]; omega
         ·obtain rfl : j = (M.F i).blk.n := by omega
          clear hall hb
          go_wp2_with fail
          go_round
          case rel =>
           have f := upto1 HA.out.1 (show FormF (M.F i) from ⟨HH.out, HPP.out, HJ.out.1⟩)
           first
            | exact ⟨i + 1, by omega, by go_num, f, View.more L7.out HJ.out.2⟩
            | ((repeat apply Exists.intro); exact ⟨⟨i + 1, by omega, by go_num, f, View.more L7.out HJ.out.2⟩, rfl⟩)
          case measure => simp [intOf]; omega
    ·obtain rfl : i = M.fns.n := by omega
     clear hall hb
     go_wp2_with fail
     go_ret
     exact ⟨true, rfl, by simp; exact ⟨HX.out, HA.out.1⟩, View.more LW.out HA.out.2⟩

end Go.Proofs.YtolipafcoolpgaaGreat.Chk
