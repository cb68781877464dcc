/-
  Wgb, Wge: laid together.
-/
import Derived.Test.YtnodofbpogcheaaGreatJ8
import Derived.Test.YtnodofbpogcheaaGreatJ18
import Derived.Test.YtnodofbpogcheaaGreatJ17

namespace Go.Proofs.YtnodofbpogcheaaGreat.Wf
open Go.RowKit View Rd Num Opn Copy Srt Go.Proofs.YtnodofbpogcheaaGreat.Mod Go.Proofs.YtnodofbpogcheaaGreat.Chk Go.Proofs.YtnodofbpogcheaaGreat.Flo

set_option linter.unusedVariables false

abbrev jF (N : Nat) : FV := oneF (N + 1 + 1) (N + 1) (jumpI N) (fun _ => 0)
abbrev rF (N : Nat) : FV := oneF (N + 1 + 1 + 1 + 1 + 1 + 1) (N + 1 + 1 + 1 + 1 + 1) retI (fun _ => 0)
abbrev jM (N : Nat) : MV := oneM (N + 1 + 1 + 1) (jF N)
abbrev rM (N : Nat) : MV := oneM (N + 1 + 1 + 1 + 1 + 1 + 1 + 1) (rF N)

abbrev wJ (w : World) : World := ((((w.alloc (.cells #[.int .i64 0] 3)).alloc (.cells (jumpI w.heap.size).cells 43)).alloc (.cells #[.slice (some ⟨w.heap.size + 1, 0, none⟩) 1 1] 40)).alloc (.cells (fcells (jF w.heap.size)) 36)).alloc (.cells (mcells (jM w.heap.size)) 27)
abbrev wR (w : World) : World := ((((wJ w).alloc (.cells retI.cells 43)).alloc (.cells #[.slice (some ⟨w.heap.size + 1 + 1 + 1 + 1 + 1, 0, none⟩) 1 1] 40)).alloc (.cells (fcells (rF w.heap.size)) 36)).alloc (.cells (mcells (rM w.heap.size)) 27)

theorem in_J (w : World) : InM (wR w) (jM w.heap.size) := by
 refine InM.on (new (new (new (new (new (same _) _) _) _) _) _) (inM_one (lit_fn _ (jF w.heap.size) _ (by simp)) (in_one ?_ ?_ (litN _ _) ?_))
 ·exact (lit_blk _ ⟨some ⟨w.heap.size + 1, 0, none⟩, 1, 1⟩ _ (by simp)).on (new (same _) _)
 ·exact (lit_ins _ (jumpI w.heap.size) _ (by simp)).on (new (new (same _) _) _)
 ·exact (lit1 w 0 (fun _ => 0) rfl _ rfl).on (new (new (new (same _) _) _) _)

theorem in_R (w : World) : InM (wR w) (rM w.heap.size) := by
 refine InM.on (new (same _) _) (inM_one (lit_fn _ (rF w.heap.size) _ (by simp)) (in_one ?_ ?_ (litN _ _) (litN _ _)))
 ·exact (lit_blk _ ⟨some ⟨w.heap.size + 1 + 1 + 1 + 1 + 1, 0, none⟩, 1, 1⟩ _ (by simp)).on (new (same _) _)
 ·exact (lit_ins _ retI _ (by simp)).on (new (new (same _) _) _)

def MCell (M : MV) (w : World) (b : Nat) : Prop := w.cell? ⟨b, 0, none⟩ = some (.slice M.ext.a M.ext.n M.ext.c) ∧ w.cell? ⟨b, 1, none⟩ = some (.slice M.glo.a M.glo.n M.glo.c) ∧ w.cell? ⟨b, 2, none⟩ = some (.slice M.tab.a M.tab.n M.tab.c) ∧ w.cell? ⟨b, 3, none⟩ = some (.slice M.fns.a M.fns.n M.fns.c)

theorem mcell_alloc (M : MV) (w : World) (N : Nat) (hN : w.heap.size = N) : MCell M (w.alloc (.cells (mcells M) 27)) N := by
 subst hN
 exact ⟨by simp, by simp, by simp, by simp⟩

theorem MCell.on {M : MV} {w w' : World} {b : Nat} (hb : Below w.heap.size w w') (h : MCell M w b) : MCell M w' b := ⟨cell_on hb h.1, cell_on hb h.2.1, cell_on hb h.2.2.1, cell_on hb h.2.2.2⟩

theorem name_a1 : NameOk ⟨#[97, 49]⟩ := by
 refine ⟨by decide, by decide, by decide +kernel, by decide +kernel, fun i hi => ?_⟩
 have hi' : i < 2 := hi
 have : i = 0 ∨ i = 1 := by omega
 rcases this with rfl | rfl <;> decide +kernel

theorem chk_J (N : Nat) (w : World) (h : InM w (jM N)) : Calls Tryz.prog 13 #[.agg #[.slice none 0 0, .slice none 0 0, .slice none 0 0, .slice (some ⟨N + 1 + 1 + 1, 0, none⟩) 1 1]] w fun e w' => e = .returned (.int .i64 5) ∧ Below w.heap.size w w' := by
 have hs : SmallM (jM N) := small_one (N + 1 + 1 + 1) (N + 1 + 1) (N + 1) (jumpI N) (fun _ => 0) (Nat.zero_le _) (show 1 ≤ 20 by omega)
 have hj : ∀ i, i < (jM N).fns.n → Jng ((jM N).F i) := jng_one
 have he : errM (jM N) = 5 := err_jump _ _ _ _
 refine Calls.mono (wcheck_any (jM N) w h hs hj) ?_
 rintro e w1 ⟨r, rfl, hr, hb⟩
 exact ⟨by rw [hr, he], hb⟩

theorem chk_R (N : Nat) (w : World) (h : InM w (rM N)) : Calls Tryz.prog 13 #[.agg #[.slice none 0 0, .slice none 0 0, .slice none 0 0, .slice (some ⟨N + 1 + 1 + 1 + 1 + 1 + 1 + 1, 0, none⟩) 1 1]] w fun e w' => e = .returned (.int .i64 0) ∧ Below w.heap.size w w' := by
 have hs : SmallM (rM N) := small_one _ (N + 1 + 1 + 1 + 1 + 1 + 1) (N + 1 + 1 + 1 + 1 + 1) retI (fun _ => 0) (Nat.zero_le _) (Nat.zero_le _)
 have hj : ∀ i, i < (rM N).fns.n → Jng ((rM N).F i) := jng_one
 have he : errM (rM N) = 0 := err_ok (fit_ret _ _ _ _)
 refine Calls.mono (wcheck_any (rM N) w h hs hj) ?_
 rintro e w1 ⟨r, rfl, hr, hb⟩
 exact ⟨by rw [hr, he], hb⟩

theorem chk_no (w : World) : Calls Tryz.prog 13 #[.agg #[.slice none 0 0, .slice none 0 0, .slice none 0 0, .slice none 0 0]] w fun e w' => e = .returned (.int .i64 0) ∧ Below w.heap.size w w' := by
 have he : errM noM = 0 := err_ok fit_no
 refine Calls.mono (wcheck_any noM w inM_no small_no (fun i hi => absurd (show i < 0 from hi) (by omega))) ?_
 rintro e w1 ⟨r, rfl, hr, hb⟩
 exact ⟨by rw [hr, he], hb⟩

set_option maxRecDepth 10000 in
set_option maxHeartbeats 1000000 in
theorem first_any (w : World) : Calls Tryz.prog 8 #[] w fun e w' => e = .returned (.bool true) ∧ Below w.heap.size w w' := by
 have IJ0 := in_J w
 have IR0 := in_R w
 have CJ0 : MCell (jM w.heap.size) (wR w) (w.heap.size + 1 + 1 + 1 + 1) := (mcell_alloc _ _ _ (by simp)).on (new (new (new (new (same _) _) _) _) _)
 have CR0 : MCell (rM w.heap.size) (wR w) (w.heap.size + 1 + 1 + 1 + 1 + 1 + 1 + 1 + 1) := mcell_alloc _ _ _ (by simp)
 have LW0 : Below w.heap.size w (wR w) := new (new (new (new (new (new (new (new (new (same w) _) _) _) _) _) _) _) _) _
 obtain ⟨W, hW⟩ : ∃ W, wR w = W := ⟨_, rfl⟩
 rw [hW] at IJ0 IR0 CJ0 CR0 LW0
 have IJ := hid IJ0
 have IR := hid IR0
 have CJ := hid CJ0
 have CR := hid CR0
 have LW := hid LW0
 clear IJ0 IR0 CJ0 CR0 LW0
 simp only [wR, wJ, jM, jF, rM, rF, oneM, oneF, jumpI, retI] at hW
 go_enter Tryz.func8, Tryz.ntmps8
 go_wp2_with first
  | (go_at_call 23; have hq := st3; refine (wname_any ⟨#[97, 49]⟩ _ (by decide)).mono ?_; rintro e w4 ⟨r, rfl, hr, hw⟩; have hr' := hr.2 name_a1; subst hr'; have st4 : Below W.heap.size W w4 := by rw [hw]; exact hq
     clear hr hw st3)
  | (go_at_call 13; have hq := st2; refine (chk_R w.heap.size _ (IR.out.on hq)).mono ?_; rintro e w3 ⟨rfl, hb⟩; have st3 := View.more hq hb; clear hb st2)
  | (go_at_call 13; have hq := st1; refine (chk_J w.heap.size _ (IJ.out.on hq)).mono ?_; rintro e w2 ⟨rfl, hb⟩; have st2 := View.more hq hb; obtain ⟨l0, l1, l2, l3⟩ := CR.out.on st2; clear hb st1)
  | (go_at_call 13; refine (chk_no W).mono ?_; rintro e w1 ⟨rfl, hb⟩; have st1 : Below W.heap.size W w1 := hb; obtain ⟨k0, k1, k2, k3⟩ := CJ.out.on st1; clear hb)
 go_ret
 exact ⟨rfl, View.more LW.out st4⟩

end Go.Proofs.YtnodofbpogcheaaGreat.Wf

namespace Go.Proofs.YtnodofbpogcheaaGreat.Wf
open Go.RowKit View Rd Num Opn Copy Srt Go.Proofs.YtnodofbpogcheaaGreat.Mod Go.Proofs.YtnodofbpogcheaaGreat.Chk Go.Proofs.YtnodofbpogcheaaGreat.Flo

set_option linter.unusedVariables false

structure NotN (M : MV) (s : ByteArray) : Prop where
 ext : ∀ i, i < M.ext.n → (M.E i).name.toList ≠ s.toList
 glo : ∀ i, i < M.glo.n → (M.G i).name.toList ≠ s.toList
 tab : ∀ i, i < M.tab.n → (M.T i).name.toList ≠ s.toList
 fns : ∀ i, i < M.fns.n → (M.F i).name.toList ≠ s.toList

set_option maxRecDepth 10000 in
set_option maxHeartbeats 2000000 in
theorem named_any (M : MV) (s : ByteArray) (w : World) (hM : InM w M) (hs : SmallM M) : Calls Tryz.prog 10 #[M.val, .string s] w fun e w' => Ans (fun r => r = false → NotN M s) w e w' := by
 have x1 := hs.ext
 have x2 := hs.glo
 have x3 := hs.tab
 have x4 := hs.fns
 obtain ⟨W, hW⟩ : ∃ W, w.alloc (.cells (mcells M) 27) = W := ⟨_, rfl⟩
 have LW := hid (show Below w.heap.size w W by rw [← hW]; exact new (same w) _)
 have MC := hid (show MCell M W w.heap.size by rw [← hW]; exact mcell_alloc M w _ rfl)
 have HM := hid (hM.on LW.out)
 obtain ⟨m0, m1, m2, m3⟩ := MC.out
 clear hM hs
 go_enter Tryz.func10, Tryz.ntmps10
 go_wp2_with fail
 clear hW
 go_loopw [5] (fun iv wr => ∃ i : Nat, i ≤ M.ext.n ∧ iv = .int .i64 i ∧ (∀ t, t < i → (M.E t).name.toList ≠ s.toList) ∧ Below W.heap.size W wr) (fun iv _ => M.ext.n - (intOf iv).toNat)
 case atStart => exact ⟨0, Nat.zero_le _, rfl, fun t ht => by omega, same _⟩
 case round =>
  clear m0 m1 m2 m3
  obtain ⟨i, hi, rfl, hall, hb⟩ := hrel
  have HA := hid (And.intro hall hb)
  obtain ⟨m0, m1, m2, m3⟩ := MC.out.on hb
  by_cases li : i < M.ext.n
  ·obtain ⟨fb, fo, hfx, f0, f1, f2⟩ := (HM.out.on hb).ext.at underlying22 size54 li
   by_cases hq : (M.E i).name.toList = s.toList
   ·have t1 : ((M.E i).name.toList == s.toList) = true := by simpa using hq
    clear hall hb hq
    go_wp2_with fail
    go_ret
    exact ⟨true, rfl, fun h => (by cases h), View.more LW.out HA.out.2⟩
   ·have t1 : ((M.E i).name.toList == s.toList) = false := by simpa using hq
    have HQ := hid hq
    clear hall hb hq
    go_wp2_with fail
    go_round
    case rel => exact ⟨i + 1, by omega, by go_num, upto1 HA.out.1 HQ.out, HA.out.2⟩
    case measure => simp [intOf]; omega
  ·obtain rfl : i = M.ext.n := by omega
   have E1 := hid HA.out.1
   clear hall hb
   go_wp2_with fail
   clear m0 m1 m2 m3
   go_loopw [6] (fun iv wr => ∃ i : Nat, i ≤ M.glo.n ∧ iv = .int .i64 i ∧ (∀ t, t < i → (M.G t).name.toList ≠ s.toList) ∧ Below W.heap.size W wr) (fun iv _ => M.glo.n - (intOf iv).toNat)
   case atStart => exact ⟨0, Nat.zero_le _, rfl, fun t ht => by omega, HA.out.2⟩
   case round =>
    clear HA
    obtain ⟨i, hi, rfl, hall, hb⟩ := hrel
    have HA := hid (And.intro hall hb)
    obtain ⟨m0, m1, m2, m3⟩ := MC.out.on hb
    by_cases li : i < M.glo.n
    ·obtain ⟨fb, fo, hfx, f0, f1⟩ := (HM.out.on hb).glo.at underlying23 size47 li
     by_cases hq : (M.G i).name.toList = s.toList
     ·have t1 : ((M.G i).name.toList == s.toList) = true := by simpa using hq
      clear hall hb hq
      go_wp2_with fail
      go_ret
      exact ⟨true, rfl, fun h => (by cases h), View.more LW.out HA.out.2⟩
     ·have t1 : ((M.G i).name.toList == s.toList) = false := by simpa using hq
      have HQ := hid hq
      clear hall hb hq
      go_wp2_with fail
      go_round
      case rel => exact ⟨i + 1, by omega, by go_num, upto1 HA.out.1 HQ.out, HA.out.2⟩
      case measure => simp [intOf]; omega
    ·obtain rfl : i = M.glo.n := by omega
     have E2 := hid HA.out.1
     clear hall hb
     go_wp2_with fail
     clear m0 m1 m2 m3
     go_loopw [7] (fun iv wr => ∃ i : Nat, i ≤ M.tab.n ∧ iv = .int .i64 i ∧ (∀ t, t < i → (M.T t).name.toList ≠ s.toList) ∧ Below W.heap.size W wr) (fun iv _ => M.tab.n - (intOf iv).toNat)
     case atStart => exact ⟨0, Nat.zero_le _, rfl, fun t ht => by omega, HA.out.2⟩
     case round =>
      clear HA
      obtain ⟨i, hi, rfl, hall, hb⟩ := hrel
      have HA := hid (And.intro hall hb)
      obtain ⟨m0, m1, m2, m3⟩ := MC.out.on hb
      by_cases li : i < M.tab.n
      ·obtain ⟨fb, fo, hfx, f0, f1⟩ := (HM.out.on hb).tab.at underlying24 size49 li
       by_cases hq : (M.T i).name.toList = s.toList
       ·have t1 : ((M.T i).name.toList == s.toList) = true := by simpa using hq
        clear hall hb hq
        go_wp2_with fail
        go_ret
        exact ⟨true, rfl, fun h => (by cases h), View.more LW.out HA.out.2⟩
       ·have t1 : ((M.T i).name.toList == s.toList) = false := by simpa using hq
        have HQ := hid hq
        clear hall hb hq
        go_wp2_with fail
        go_round
        case rel => exact ⟨i + 1, by omega, by go_num, upto1 HA.out.1 HQ.out, HA.out.2⟩
        case measure => simp [intOf]; omega
      ·obtain rfl : i = M.tab.n := by omega
       have E3 := hid HA.out.1
       clear hall hb
       go_wp2_with fail
       clear m0 m1 m2 m3
       go_loopw [8] (fun iv wr => ∃ i : Nat, i ≤ M.fns.n ∧ iv = .int .i64 i ∧ (∀ t, t < i → (M.F t).name.toList ≠ s.toList) ∧ Below W.heap.size W wr) (fun iv _ => M.fns.n - (intOf iv).toNat)
       case atStart => exact ⟨0, Nat.zero_le _, rfl, fun t ht => by omega, HA.out.2⟩
       case round =>
        clear HA
        obtain ⟨i, hi, rfl, hall, hb⟩ := hrel
        have HA := hid (And.intro hall hb)
        obtain ⟨m0, m1, m2, m3⟩ := MC.out.on hb
        by_cases li : i < M.fns.n
        ·obtain ⟨fb, fo, hfx, hFA⟩ := (HM.out.on hb).fns.at underlying25 size36 li
         obtain ⟨f0, f1, f2, f3, f4⟩ := hFA
         by_cases hq : (M.F i).name.toList = s.toList
         ·have t1 : ((M.F i).name.toList == s.toList) = true := by simpa using hq
          clear hall hb hq
          go_wp2_with fail
          go_ret
          exact ⟨true, rfl, fun h => (by cases h), View.more LW.out HA.out.2⟩
         ·have t1 : ((M.F i).name.toList == s.toList) = false := by simpa using hq
          have HQ := hid hq
          clear hall hb hq
          go_wp2_with fail
          go_round
          case rel => exact ⟨i + 1, by omega, by go_num, upto1 HA.out.1 HQ.out, HA.out.2⟩
          case measure => simp [intOf]; omega
        ·obtain rfl : i = M.fns.n := by omega
         have E4 := hid HA.out.1
         clear hall hb
         go_wp2_with fail
         go_ret
         exact ⟨false, rfl, fun _ => ⟨E1.out, E2.out, E3.out, E4.out⟩, View.more LW.out HA.out.2⟩

end Go.Proofs.YtnodofbpogcheaaGreat.Wf
