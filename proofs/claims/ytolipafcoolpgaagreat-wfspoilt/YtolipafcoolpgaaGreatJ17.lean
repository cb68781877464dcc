/-
  Wgb, Wge, Wgo0, RefC, CopyG, CopyE: laid together.
-/
import Derived.Test.YtolipafcoolpgaaGreatJ7
import Derived.Test.YtolipafcoolpgaaGreatJ16
import Derived.Test.YtolipafcoolpgaaGreatJ15
import Derived.Test.YtolipafcoolpgaaGreatJ0
import Derived.Maps.AppendAt
import Derived.Test.YtolipafcoolpgaaGreatNeat
/-
  wf: chapter 6's examples: plnlaw6.first answers true.
-/
namespace Go.Proofs.YtolipafcoolpgaaGreat.Wf
open Go.RowKit View Rd Num Opn Copy Srt Go.Proofs.YtolipafcoolpgaaGreat.Mod Chk Flo

set_option linter.unusedVariables false

abbrev jF (N : Nat) : FV := oneF (N + 1 + 1) (N + 1) (jumpI N) (fun _ => 0)
abbrev rF (N : Nat) : FV := oneF (N + 1 + 1 + 1 + 1 + 1 + 1) (N + 1 + 1 + 1 + 1 + 1) retI (fun _ => 0)
abbrev jM (N : Nat) : MV := oneM (N + 1 + 1 + 1) (jF N)
abbrev rM (N : Nat) : MV := oneM (N + 1 + 1 + 1 + 1 + 1 + 1 + 1) (rF N)

abbrev wJ (w : World) : World := ((((w.alloc (.cells #[.int .i64 0] 3)).alloc (.cells (jumpI w.heap.size).cells 43)).alloc (.cells #[.slice (some ⟨w.heap.size + 1, 0, none⟩) 1 1] 40)).alloc (.cells (fcells (jF w.heap.size)) 36)).alloc (.cells (mcells (jM w.heap.size)) 27)
abbrev wR (w : World) : World := ((((wJ w).alloc (.cells retI.cells 43)).alloc (.cells #[.slice (some ⟨w.heap.size + 1 + 1 + 1 + 1 + 1, 0, none⟩) 1 1] 40)).alloc (.cells (fcells (rF w.heap.size)) 36)).alloc (.cells (mcells (rM w.heap.size)) 27)

theorem in_J (w : World) : InM (wR w) (jM w.heap.size) := by
 refine InM.on (new (new (new (new (new (same _) _) _) _) _) _) (inM_one (lit_fn _ (jF w.heap.size) _ (by simp)) (in_one ?_ ?_ (litN _ _) ?_))
 ·exact (lit_blk _ ⟨some ⟨w.heap.size + 1, 0, none⟩, 1, 1⟩ _ (by simp)).on (new (same _) _)
 ·exact (lit_ins _ (jumpI w.heap.size) _ (by simp)).on (new (new (same _) _) _)
 ·exact (lit1 w 0 (fun _ => 0) rfl _ rfl).on (new (new (new (same _) _) _) _)

theorem in_R (w : World) : InM (wR w) (rM w.heap.size) := by
 refine InM.on (new (same _) _) (inM_one (lit_fn _ (rF w.heap.size) _ (by simp)) (in_one ?_ ?_ (litN _ _) (litN _ _)))
 ·exact (lit_blk _ ⟨some ⟨w.heap.size + 1 + 1 + 1 + 1 + 1, 0, none⟩, 1, 1⟩ _ (by simp)).on (new (same _) _)
 ·exact (lit_ins _ retI _ (by simp)).on (new (new (same _) _) _)

def MCell (M : MV) (w : World) (b : Nat) : Prop := w.cell? ⟨b, 0, none⟩ = some (.slice M.ext.a M.ext.n M.ext.c) ∧ w.cell? ⟨b, 1, none⟩ = some (.slice M.glo.a M.glo.n M.glo.c) ∧ w.cell? ⟨b, 2, none⟩ = some (.slice M.tab.a M.tab.n M.tab.c) ∧ w.cell? ⟨b, 3, none⟩ = some (.slice M.fns.a M.fns.n M.fns.c)

theorem mcell_alloc (M : MV) (w : World) (N : Nat) (hN : w.heap.size = N) : MCell M (w.alloc (.cells (mcells M) 27)) N := by
 subst hN
 exact ⟨by simp, by simp, by simp, by simp⟩

theorem MCell.on {M : MV} {w w' : World} {b : Nat} (hb : Below w.heap.size w w') (h : MCell M w b) : MCell M w' b := ⟨cell_on hb h.1, cell_on hb h.2.1, cell_on hb h.2.2.1, cell_on hb h.2.2.2⟩

theorem name_a1 : NameOk ⟨#[97, 49]⟩ := by
 refine ⟨by decide, by decide, by decide +kernel, by decide +kernel, fun i hi => ?_⟩
 have hi' : i < 2 := hi
 have : i = 0 ∨ i = 1 := by omega
 rcases this with rfl | rfl <;> decide +kernel

theorem chk_J (N : Nat) (w : World) (h : InM w (jM N)) : Calls Tryz.prog 12 #[.agg #[.slice none 0 0, .slice none 0 0, .slice none 0 0, .slice (some ⟨N + 1 + 1 + 1, 0, none⟩) 1 1]] w fun e w' => e = .returned (.int .i64 5) ∧ Below w.heap.size w w' := by
 have hs : SmallM (jM N) := small_one (N + 1 + 1 + 1) (N + 1 + 1) (N + 1) (jumpI N) (fun _ => 0) (Nat.zero_le _) (show 1 ≤ 20 by omega)
 have hj : ∀ i, i < (jM N).fns.n → Jng ((jM N).F i) := jng_one
 have he : errM (jM N) = 5 := err_jump _ _ _ _
 refine Calls.mono (wcheck_any (jM N) w h hs hj) ?_
 rintro e w1 ⟨r, rfl, hr, hb⟩
 exact ⟨by rw [hr, he], hb⟩

theorem chk_R (N : Nat) (w : World) (h : InM w (rM N)) : Calls Tryz.prog 12 #[.agg #[.slice none 0 0, .slice none 0 0, .slice none 0 0, .slice (some ⟨N + 1 + 1 + 1 + 1 + 1 + 1 + 1, 0, none⟩) 1 1]] w fun e w' => e = .returned (.int .i64 0) ∧ Below w.heap.size w w' := by
 have hs : SmallM (rM N) := small_one _ (N + 1 + 1 + 1 + 1 + 1 + 1) (N + 1 + 1 + 1 + 1 + 1) retI (fun _ => 0) (Nat.zero_le _) (Nat.zero_le _)
 have hj : ∀ i, i < (rM N).fns.n → Jng ((rM N).F i) := jng_one
 have he : errM (rM N) = 0 := err_ok (fit_ret _ _ _ _)
 refine Calls.mono (wcheck_any (rM N) w h hs hj) ?_
 rintro e w1 ⟨r, rfl, hr, hb⟩
 exact ⟨by rw [hr, he], hb⟩

theorem chk_no (w : World) : Calls Tryz.prog 12 #[.agg #[.slice none 0 0, .slice none 0 0, .slice none 0 0, .slice none 0 0]] w fun e w' => e = .returned (.int .i64 0) ∧ Below w.heap.size w w' := by
 have he : errM noM = 0 := err_ok fit_no
 refine Calls.mono (wcheck_any noM w inM_no small_no (fun i hi => absurd (show i < 0 from hi) (by omega))) ?_
 rintro e w1 ⟨r, rfl, hr, hb⟩
 exact ⟨by rw [hr, he], hb⟩

set_option maxRecDepth 10000 in
set_option maxHeartbeats 1000000 in
theorem first_any (w : World) : Calls Tryz.prog 7 #[] w fun e w' => e = .returned (.bool true) ∧ Below w.heap.size w w' := by
 have IJ0 := in_J w
 have IR0 := in_R w
 have CJ0 : MCell (jM w.heap.size) (wR w) (w.heap.size + 1 + 1 + 1 + 1) := (mcell_alloc _ _ _ (by simp)).on (new (new (new (new (same _) _) _) _) _)
 have CR0 : MCell (rM w.heap.size) (wR w) (w.heap.size + 1 + 1 + 1 + 1 + 1 + 1 + 1 + 1) := mcell_alloc _ _ _ (by simp)
 have LW0 : Below w.heap.size w (wR w) := new (new (new (new (new (new (new (new (new (same w) _) _) _) _) _) _) _) _) _
 obtain ⟨W, hW⟩ : ∃ W, wR w = W := ⟨_, rfl⟩
 rw [hW] at IJ0 IR0 CJ0 CR0 LW0
 have IJ := hid IJ0
 have IR := hid IR0
 have CJ := hid CJ0
 have CR := hid CR0
 have LW := hid LW0
 clear IJ0 IR0 CJ0 CR0 LW0
 simp only [wR, wJ, jM, jF, rM, rF, oneM, oneF, jumpI, retI] at hW
 go_enter Tryz.func7, Tryz.ntmps7
 go_wp2_with first
  | (go_at_call 22; have hq := st3; refine (wname_any ⟨#[97, 49]⟩ _ (by decide)).mono ?_; rintro e w4 ⟨r, rfl, hr, hw⟩; have hr' := hr.2 name_a1; subst hr'; have st4 : Below W.heap.size W w4 := by rw [hw]; exact hq
     clear hr hw st3)
  | (go_at_call 12; have hq := st2; refine (chk_R w.heap.size _ (IR.out.on hq)).mono ?_; rintro e w3 ⟨rfl, hb⟩; have st3 := View.more hq hb; clear hb st2)
  | (go_at_call 12; have hq := st1; refine (chk_J w.heap.size _ (IJ.out.on hq)).mono ?_; rintro e w2 ⟨rfl, hb⟩; have st2 := View.more hq hb; obtain ⟨l0, l1, l2, l3⟩ := CR.out.on st2; clear hb st1)
  | (go_at_call 12; refine (chk_no W).mono ?_; rintro e w1 ⟨rfl, hb⟩; have st1 : Below W.heap.size W w1 := hb; obtain ⟨k0, k1, k2, k3⟩ := CJ.out.on st1; clear hb)
 go_ret
 exact ⟨rfl, View.more LW.out st4⟩

structure NotN (M : MV) (s : ByteArray) : Prop where
 ext : ∀ i, i < M.ext.n → (M.E i).name.toList ≠ s.toList
 glo : ∀ i, i < M.glo.n → (M.G i).name.toList ≠ s.toList
 tab : ∀ i, i < M.tab.n → (M.T i).name.toList ≠ s.toList
 fns : ∀ i, i < M.fns.n → (M.F i).name.toList ≠ s.toList

set_option maxRecDepth 10000 in
set_option maxHeartbeats 2000000 in
theorem named_any (M : MV) (s : ByteArray) (w : World) (hM : InM w M) (hs : SmallM M) : Calls Tryz.prog 9 #[M.val, .string s] w fun e w' => Ans (fun r => r = false → NotN M s) w e w' := by
 have x1 := hs.ext
 have x2 := hs.glo
 have x3 := hs.tab
 have x4 := hs.fns
 obtain ⟨W, hW⟩ : ∃ W, w.alloc (.cells (mcells M) 27) = W := ⟨_, rfl⟩
 have LW := hid (show Below w.heap.size w W by rw [← hW]; exact new (same w) _)
 have MC := hid (show MCell M W w.heap.size by rw [← hW]; exact mcell_alloc M w _ rfl)
 have HM := hid (hM.on LW.out)
 obtain ⟨m0, m1, m2, m3⟩ := MC.out
 clear hM hs
 go_enter Tryz.func9, Tryz.ntmps9
 go_wp2_with fail
 clear hW
 go_loopw [5] (fun iv wr => ∃ i : Nat, i ≤ M.ext.n ∧ iv = .int .i64 i ∧ (∀ t, t < i → (M.E t).name.toList ≠ s.toList) ∧ Below W.heap.size W wr) (fun iv _ => M.ext.n - (intOf iv).toNat)
 case atStart => exact ⟨0, Nat.zero_le _, rfl, fun t ht => by omega, same _⟩
 case round =>
  clear m0 m1 m2 m3
  obtain ⟨i, hi, rfl, hall, hb⟩ := hrel
  have HA := hid (And.intro hall hb)
  obtain ⟨m0, m1, m2, m3⟩ := MC.out.on hb
  by_cases li : i < M.ext.n
  ·obtain ⟨fb, fo, hfx, f0, f1, f2⟩ := (HM.out.on hb).ext.at underlying22 size65 li
   by_cases hq : (M.E i).name.toList = s.toList
   ·have t1 : ((M.E i).name.toList == s.toList) = true := by simpa using hq
    clear hall hb hq
    go_wp2_with fail
    go_ret
    exact ⟨true, rfl, fun h => (by cases h), View.more LW.out HA.out.2⟩
   ·have t1 : ((M.E i).name.toList == s.toList) = false := by simpa using hq
    have HQ := hid hq
    clear hall hb hq
    go_wp2_with fail
    go_round
    case rel => exact ⟨i + 1, by omega, by go_num, upto1 HA.out.1 HQ.out, HA.out.2⟩
    case measure => simp [intOf]; omega
  ·obtain rfl : i = M.ext.n := by omega
   have E1 := hid HA.out.1
   clear hall hb
   go_wp2_with fail
   clear m0 m1 m2 m3
   go_loopw [6] (fun iv wr => ∃ i : Nat, i ≤ M.glo.n ∧ iv = .int .i64 i ∧ (∀ t, t < i → (M.G t).name.toList ≠ s.toList) ∧ Below W.heap.size W wr) (fun iv _ => M.glo.n - (intOf iv).toNat)
   case atStart => exact ⟨0, Nat.zero_le _, rfl, fun t ht => by omega, HA.out.2⟩
   case round =>
    clear HA
    obtain ⟨i, hi, rfl, hall, hb⟩ := hrel
    have HA := hid (And.intro hall hb)
    obtain ⟨m0, m1, m2, m3⟩ := MC.out.on hb
    by_cases li : i < M.glo.n
    ·obtain ⟨fb, fo, hfx, f0, f1⟩ := (HM.out.on hb).glo.at underlying23 size47 li
     by_cases hq : (M.G i).name.toList = s.toList
     ·have t1 : ((M.G i).name.toList == s.toList) = true := by simpa using hq
      clear hall hb hq
      go_wp2_with fail
      go_ret
      exact ⟨true, rfl, fun h => (by cases h), View.more LW.out HA.out.2⟩
     ·have t1 : ((M.G i).name.toList == s.toList) = false := by simpa using hq
      have HQ := hid hq
      clear hall hb hq
      go_wp2_with fail
      go_round
      case rel => exact ⟨i + 1, by omega, by go_num, upto1 HA.out.1 HQ.out, HA.out.2⟩
      case measure => simp [intOf]; omega
    ·obtain rfl : i = M.glo.n := by omega
     have E2 := hid HA.out.1
     clear hall hb
     go_wp2_with fail
     clear m0 m1 m2 m3
     go_loopw [7] (fun iv wr => ∃ i : Nat, i ≤ M.tab.n ∧ iv = .int .i64 i ∧ (∀ t, t < i → (M.T t).name.toList ≠ s.toList) ∧ Below W.heap.size W wr) (fun iv _ => M.tab.n - (intOf iv).toNat)
     case atStart => exact ⟨0, Nat.zero_le _, rfl, fun t ht => by omega, HA.out.2⟩
     case round =>
      clear HA
      obtain ⟨i, hi, rfl, hall, hb⟩ := hrel
      have HA := hid (And.intro hall hb)
      obtain ⟨m0, m1, m2, m3⟩ := MC.out.on hb
      by_cases li : i < M.tab.n
      ·obtain ⟨fb, fo, hfx, f0, f1⟩ := (HM.out.on hb).tab.at underlying24 size49 li
       by_cases hq : (M.T i).name.toList = s.toList
       ·have t1 : ((M.T i).name.toList == s.toList) = true := by simpa using hq
        clear hall hb hq
        go_wp2_with fail
        go_ret
        exact ⟨true, rfl, fun h => (by cases h), View.more LW.out HA.out.2⟩
       ·have t1 : ((M.T i).name.toList == s.toList) = false := by simpa using hq
        have HQ := hid hq
        clear hall hb hq
        go_wp2_with fail
        go_round
        case rel => exact ⟨i + 1, by omega, by go_num, upto1 HA.out.1 HQ.out, HA.out.2⟩
        case measure => simp [intOf]; omega
      ·obtain rfl : i = M.tab.n := by omega
       have E3 := hid HA.out.1
       clear hall hb
       go_wp2_with fail
       clear m0 m1 m2 m3
       go_loopw [8] (fun iv wr => ∃ i : Nat, i ≤ M.fns.n ∧ iv = .int .i64 i ∧ (∀ t, t < i → (M.F t).name.toList ≠ s.toList) ∧ Below W.heap.size W wr) (fun iv _ => M.fns.n - (intOf iv).toNat)
       case atStart => exact ⟨0, Nat.zero_le _, rfl, fun t ht => by omega, HA.out.2⟩
       case round =>
        clear HA
        obtain ⟨i, hi, rfl, hall, hb⟩ := hrel
        have HA := hid (And.intro hall hb)
        obtain ⟨m0, m1, m2, m3⟩ := MC.out.on hb
        by_cases li : i < M.fns.n
        ·obtain ⟨fb, fo, hfx, hFA⟩ := (HM.out.on hb).fns.at underlying25 size36 li
         obtain ⟨f0, f1, f2, f3, f4⟩ := hFA
         by_cases hq : (M.F i).name.toList = s.toList
         ·have t1 : ((M.F i).name.toList == s.toList) = true := by simpa using hq
          clear hall hb hq
          go_wp2_with fail
          go_ret
          exact ⟨true, rfl, fun h => (by cases h), View.more LW.out HA.out.2⟩
         ·have t1 : ((M.F i).name.toList == s.toList) = false := by simpa using hq
          have HQ := hid hq
          clear hall hb hq
          go_wp2_with fail
          go_round
          case rel => exact ⟨i + 1, by omega, by go_num, upto1 HA.out.1 HQ.out, HA.out.2⟩
          case measure => simp [intOf]; omega
        ·obtain rfl : i = M.fns.n := by omega
         have E4 := hid HA.out.1
         clear hall hb
         go_wp2_with fail
         go_ret
         exact ⟨false, rfl, fun _ => ⟨E1.out, E2.out, E3.out, E4.out⟩, View.more LW.out HA.out.2⟩

structure MoreM (M O : MV) : Prop where
 ext : M.ext.n ≤ O.ext.n ∧ ∀ i, i < M.ext.n → EqE (O.E i) (M.E i) (O.EP i) (M.EP i)
 glo : M.glo.n ≤ O.glo.n ∧ ∀ i, i < M.glo.n → EqG (O.G i) (M.G i) (O.GC i) (M.GC i)
 tab : M.tab.n ≤ O.tab.n ∧ ∀ i, i < M.tab.n → EqG (O.T i) (M.T i) (O.TF i) (M.TF i)
 fns : O.fns.n = M.fns.n ∧ ∀ i, i < M.fns.n → EqF (O.F i) (M.F i)

theorem more_of {M N : MV} (h : EqM N M) : MoreM M N :=
 ⟨⟨by rw [h.ext.1]; exact Nat.le_refl _, fun i hi => h.ext.2 i (by rw [h.ext.1]; exact hi)⟩, ⟨by rw [h.glo.1]; exact Nat.le_refl _, fun i hi => h.glo.2 i (by rw [h.glo.1]; exact hi)⟩, ⟨by rw [h.tab.1]; exact Nat.le_refl _, fun i hi => h.tab.2 i (by rw [h.tab.1]; exact hi)⟩, ⟨h.fns.1, fun i hi => h.fns.2 i (by rw [h.fns.1]; exact hi)⟩⟩

theorem fsize_eq {F G : FV} (h : EqF F G) : fsize F = fsize G := by
 obtain ⟨_, _, _, _, hb, hB⟩ := h
 unfold fsize
 rw [← hb]
 have key : ∀ n, n ≤ F.blk.n → cnt (fun j => (F.B j).n) n = cnt (fun j => (G.B j).n) n := by
  intro n
  induction n with
  | zero => intro _; rfl
  | succ n ih => intro hn; simp only [cnt]; rw [ih (by omega), (hB n (by omega)).1]
 exact key _ (Nat.le_refl _)

theorem limF_eq {F G : FV} (h : EqF F G) (hl : LimF G) : LimF F := by
 have hs := fsize_eq h
 obtain ⟨_, _, _, hp, hb, _⟩ := h
 exact ⟨by rw [hp.1]; exact hl.par, by rw [hb]; exact hl.one, by rw [hb]; exact hl.blk, by rw [hs]; exact hl.ins⟩

theorem lim_more {M O : MV} (h : MoreM M O) (hl : LimM M) (he : O.ext.n ≤ 12) (hg : O.glo.n ≤ 12) (ht : O.tab.n ≤ 6) (hE : ∀ i, M.ext.n ≤ i → i < O.ext.n → (O.E i).par.n ≤ 5) (hG : ∀ i, M.glo.n ≤ i → i < O.glo.n → 1 ≤ (O.G i).cel.n ∧ (O.G i).cel.n ≤ 16) (hT : ∀ i, M.tab.n ≤ i → i < O.tab.n → 1 ≤ (O.T i).cel.n ∧ (O.T i).cel.n ≤ 12) : LimM O where
 fns := by rw [h.fns.1]; exact hl.fns
 ext := he
 glo := hg
 tab := ht
 extP := fun i hi => by
  by_cases q : i < M.ext.n
  ·rw [(h.ext.2 i q).2.2.1]; exact hl.extP i q
  ·exact hE i (by omega) hi
 gloC := fun i hi => by
  by_cases q : i < M.glo.n
  ·rw [(h.glo.2 i q).2.1]; exact hl.gloC i q
  ·exact hG i (by omega) hi
 tabF := fun i hi => by
  by_cases q : i < M.tab.n
  ·rw [(h.tab.2 i q).2.1]; exact hl.tabF i q
  ·exact hT i (by omega) hi
 fnI := fun i hi => limF_eq (h.fns.2 i (by rw [← h.fns.1]; exact hi)) (hl.fnI i (by rw [← h.fns.1]; exact hi))

theorem formB_eq {v u : IV} {a j a' j' : Nat → Int} (h : EqI v u a j a' j') : formB v = formB u := by
 obtain ⟨h1, h2, h3, h4, h5, h6, h7⟩ := h
 unfold formB swB
 rw [h1, h2, h3, h4, h5, h6.1, h7.1]

theorem formF_eq {F G : FV} (h : EqF F G) (hf : FormF G) : FormF F := by
 obtain ⟨hn, ho, hr, hp, hb, hB⟩ := h
 obtain ⟨⟨f1, f2, f3, f4⟩, fp, fi⟩ := hf
 refine ⟨⟨by rw [hr]; exact f1, by rw [hr]; exact f2, by rw [hr]; exact f3, by rw [ho, hr]; exact f4⟩, fun k hk => ?_, fun j hj k hk => ?_⟩
 ·unfold FormP
  rw [hp.2 k hk, ho]
  exact fp k (by rw [← hp.1]; exact hk)
 ·rw [formB_eq ((hB j hj).2 k hk)]
  exact fi j (by rw [← hb]; exact hj) k (by rw [← (hB j hj).1]; exact hk)

theorem form_more {M O : MV} (h : MoreM M O) (hf : FormM M) (hE : ∀ i, M.ext.n ≤ i → i < O.ext.n → FormE O i) : FormM O where
 ext := fun i hi => by
  by_cases q : i < M.ext.n
  ·obtain ⟨_, e2, e3⟩ := h.ext.2 i q
   obtain ⟨a, b, c⟩ := hf.ext i q
   refine ⟨by rw [e2]; exact a, by rw [e2]; exact b, fun k hk => ?_⟩
   rw [e3.2 k hk]
   exact c k (by rw [← e3.1]; exact hk)
  ·exact hE i (by omega) hi
 fns := fun i hi => formF_eq (h.fns.2 i (by rw [← h.fns.1]; exact hi)) (hf.fns i (by rw [← h.fns.1]; exact hi))

theorem bytes_inj {s t : ByteArray} (h : s.toList = t.toList) : s = t := by
 rw [Go.ByteArray.toList_eq, Go.ByteArray.toList_eq] at h
 cases s; cases t
 simp only at h
 congr 1
 exact Array.toList_inj.1 h

theorem names_eq {n : Nat} {f g : Nat → ByteArray} (h : ∀ i, i < n → (f i).toList = (g i).toList) : (List.range n).map f = (List.range n).map g :=
 List.map_congr_left fun i hi => bytes_inj (h i (List.mem_range.1 hi))

theorem names_split (M : MV) (k : Nat) : namesF M k = (List.range M.ext.n).map (fun i => (M.E i).name) ++ (List.range M.glo.n).map (fun i => (M.G i).name) ++ (List.range M.tab.n).map (fun i => (M.T i).name) ++ (List.range k).map (fun i => (M.F i).name) := rfl

theorem range_add_map {α : Type} (f : Nat → α) (n t : Nat) : (List.range (n + t)).map f = (List.range n).map f ++ (List.range t).map (fun i => f (n + i)) := by
 rw [List.range_add, List.map_append, List.map_map]
 rfl

theorem name_more {M O : MV} (h : MoreM M O) (hn : NameM M) (he : O.ext.n = M.ext.n) (hg : O.glo.n = M.glo.n) (t : Nat) (ht : O.tab.n = M.tab.n + t) (hok : ∀ i, i < t → NameOk (O.T (M.tab.n + i)).name)
  (hnew : ∀ i, i < t → NotN M (O.T (M.tab.n + i)).name) (hdis : ∀ i j, i < t → j < t → (O.T (M.tab.n + i)).name = (O.T (M.tab.n + j)).name → i = j) : NameM O := by
 obtain ⟨g1, g2⟩ := hn
 have eE : (List.range O.ext.n).map (fun i => (O.E i).name) = (List.range M.ext.n).map (fun i => (M.E i).name) := by
  rw [he]; exact names_eq fun i hi => (h.ext.2 i hi).1
 have eG : (List.range O.glo.n).map (fun i => (O.G i).name) = (List.range M.glo.n).map (fun i => (M.G i).name) := by
  rw [hg]; exact names_eq fun i hi => (h.glo.2 i hi).1
 have eF : (List.range O.fns.n).map (fun i => (O.F i).name) = (List.range M.fns.n).map (fun i => (M.F i).name) := by
  rw [h.fns.1]; exact names_eq fun i hi => (h.fns.2 i hi).1
 have eT : (List.range O.tab.n).map (fun i => (O.T i).name) = (List.range M.tab.n).map (fun i => (M.T i).name) ++ (List.range t).map (fun i => (O.T (M.tab.n + i)).name) := by
  rw [ht, range_add_map]
  congr 1
  exact names_eq fun i hi => (h.tab.2 i hi).1
 obtain ⟨L, hL⟩ : ∃ L, (List.range t).map (fun i => (O.T (M.tab.n + i)).name) = L := ⟨_, rfl⟩
 have hp : (namesF O O.fns.n).Perm (namesF M M.fns.n ++ L) := by
  rw [names_split, names_split, eE, eG, eF, eT, hL]
  simp only [List.append_assoc]
  refine List.Perm.append_left _ (List.Perm.append_left _ (List.Perm.append_left _ ?_))
  exact List.perm_append_comm
 have hmem : ∀ s ∈ L, ∃ i, i < t ∧ s = (O.T (M.tab.n + i)).name := fun s hs => by
  rw [← hL] at hs
  obtain ⟨i, hi, e⟩ := List.mem_map.1 hs
  exact ⟨i, List.mem_range.1 hi, e.symm⟩
 have fresh : ∀ s ∈ L, ∀ u ∈ namesF M M.fns.n, u ≠ s := fun s hs u hu e => by
  obtain ⟨i, hi, rfl⟩ := hmem s hs
  have N := hnew i hi
  rw [names_split] at hu
  simp only [List.mem_append, List.mem_map, List.mem_range] at hu
  subst e
  rcases hu with ((⟨k, hk, e⟩ | ⟨k, hk, e⟩) | ⟨k, hk, e⟩) | ⟨k, hk, e⟩
  ·exact N.ext k hk (by rw [e])
  ·exact N.glo k hk (by rw [e])
  ·exact N.tab k hk (by rw [e])
  ·exact N.fns k hk (by rw [e])
 have binj : ∀ s u : ByteArray, bytesOf s = bytesOf u → s = u := fun s u e => bytes_inj (by rw [Go.ByteArray.toList_eq, Go.ByteArray.toList_eq]; exact e)
 refine ⟨fun s hs => ?_, (hp.map bytesOf).nodup_iff.2 ?_⟩
 ·rcases List.mem_append.1 (hp.mem_iff.1 hs) with q | q
  ·exact g1 s q
  ·obtain ⟨i, hi, rfl⟩ := hmem s q
   exact hok i hi
 ·rw [List.map_append, List.nodup_append]
  refine ⟨g2, ?_, fun a ha b hb e => ?_⟩
  ·rw [← hL, List.map_map]
   unfold List.Nodup
   rw [List.pairwise_map]
   refine List.Pairwise.imp_of_mem (R := fun a b => a ≠ b) (fun {i j} hi hj hne e => hne ?_) List.nodup_range
   exact hdis i j (List.mem_range.1 hi) (List.mem_range.1 hj) (binj _ _ e)
  ·obtain ⟨u, hu, rfl⟩ := List.mem_map.1 ha
   obtain ⟨v, hv, rfl⟩ := List.mem_map.1 hb
   exact fresh v hv u hu (binj _ _ e)

theorem not_lim_glo {O : MV} {i : Nat} (hi : i < O.glo.n) (h : (O.G i).cel.n = 0) : ¬ LimM O := fun hl => by have := (hl.gloC i hi).1; omega
theorem not_form_ext {O : MV} {i : Nat} (hi : i < O.ext.n) (h : (O.E i).res = 3) : ¬ FormM O := fun hf => by have := (hf.ext i hi).2.1; omega
theorem not_sym_tab {O : MV} {i : Nat} (hi : i < O.tab.n) (h0 : 0 < (O.T i).cel.n) (h : O.TF i 0 = -2) : ¬ SymM O := fun hs => by have := (hs.tab i hi 0 h0).1; omega

end Go.Proofs.YtolipafcoolpgaaGreat.Wf

/-
  Copies by the document: plnref3.CopyIns.
-/
namespace Go.Proofs.YtolipafcoolpgaaGreat.Copy
open Go.RowKit View Rd

set_option linter.unusedVariables false

theorem append_copy {ops : Array Oper} {rest : List Oper} {o : Oper} {a : Act} {Q : Exit → Act → World → Prop} {w : World} (hgd : o.guard = none) (x : Operand)
  (ho : o.op = .call { callee := .builtin .append, args := #[.const (.slice none 0 0), x], argTypes := #[33, 33] })
  (s : Sl) (f : Nat → Int) (hx : a.eval x = .slice s.a s.n s.c) (hin : Ints w s f) (hn : s.n ≤ 1000)
  (h : ∀ (t : Sl) w', t.n = s.n → Ints w' t f → Mine w.heap.size w'.heap.size w' t → Below w.heap.size w w' → wpList Tryz.prog ops Q rest (a.put o.dst (.slice t.a t.n t.c)) w') : wpList Tryz.prog ops Q (o :: rest) a w := by
 refine append_in hgd (.const (.slice none 0 0)) x ho w.heap.size _ 0 [] rfl (World.ownsRow_nil _ _ _ _) s f hx hin (by omega) (Nat.le_refl _) ?_
 intro v1 w1 hown1 hgrow1
 simp only [Nat.zero_add, List.nil_append] at hown1
 obtain ⟨t, rfl, ht, hi, hm⟩ := ints_of_owns hown1 (by omega)
 exact h t w1 ht (Ints.congr hi (fun i h => getD_row f s.n i (by omega))) hm ((Below.refl _ w).grown hgrow1 (Nat.le_refl _) (fun k hk => by cases hk))

set_option maxHeartbeats 1000000 in
theorem copyIns_ref (v : IV) (a j : Nat → Int) (w : World) (ha : Ints w v.args a) (hj : Ints w v.into j) (h1 : v.args.n ≤ 1000) (h2 : v.into.n ≤ 1000) :
  Calls Tryz.prog 61 #[v.val] w fun e w' => ∃ sa si : Sl, e = .returned ({ v with args := sa, into := si } : IV).val ∧ Twin w.heap.size w'.heap.size w' sa si v a j ∧ Below w.heap.size w w' := by
 have HA := hid ha
 have HJ := hid hj
 clear ha hj
 go_enter Tryz.func61, Tryz.ntmps61
 go_wp2_with (at_builtin; first | (refine append_copy rfl (.tmp 4) rfl v.args a rfl (HA.out.on (new (new (same w) _) _)) h1 ?_; intro sa w1 hn1 hi1 hm1 hb1; have B1 : InsAt w1 w.heap.size 0 v := (((InsAt.alloc w v).on (new (same _) _)).on hb1); have D1 : InsAt w1 (w.heap.size + 1) 0 IV.zero := (by have := (InsAt.alloc (w.alloc (.cells v.cells 43)) IV.zero).on hb1; simpa using this); have F1 : ∀ i, w1.frozen? ⟨w.heap.size, i, none⟩ = false := (fun i => (by rw [hb1.frozen (by simp; omega)]; simp [World.frozen?_alloc_old])); have F1' : ∀ i, w1.frozen? ⟨w.heap.size + 1, i, none⟩ = false := (fun i => (by rw [hb1.frozen (by simp)]; simp)); have K1 := hid (more (new (new (same w) _) _) hb1); obtain ⟨c0, c1, c2, c3, c4, c5, c6⟩ := B1.head; have hm1' : Mine (w.heap.size + 2) w1.heap.size w1 sa := (by simpa using hm1); have Z1 := hid (show w.heap.size + 2 ≤ w1.heap.size by have := hb1.size; simp at this; omega); have M1 := hid (And.intro hn1 (And.intro hi1 hm1')); have HB1 := hid B1; have HD1 := hid D1; clear hn1 hi1 hm1 hm1' B1 D1 hb1) | (refine append_copy rfl (.tmp 8) rfl v.into j rfl (HJ.out.on (K1.out.setCell (p := ⟨w.heap.size, 5, none⟩) (Nat.le_refl _) (.slice sa.a sa.n sa.c))) h2 ?_; intro si w2 hn2 hi2 hm2 hb2; have B2 : InsAt w2 w.heap.size 0 { v with args := sa } := (InsAt.on hb2 (by have := HB1.out.set5 sa; simpa using this)); have D2 : InsAt w2 (w.heap.size + 1) 0 IV.zero := (InsAt.on hb2 (HD1.out.kept ((Kept.refl (fun k => k ≠ w.heap.size) w1).setCell (a := ⟨w.heap.size, 5, none⟩) (fun h => h rfl) _) (by show _ ≠ _; omega))); clear c0 c1 c2 c3 c4 c5 c6; obtain ⟨c0, c1, c2, c3, c4, c5, c6⟩ := B2.head; obtain ⟨d0, d1, d2, d3, d4, d5, d6⟩ := D2.head; have F2 : ∀ i, w2.frozen? ⟨w.heap.size, i, none⟩ = false := (fun i => (by rw [hb2.frozen (by have := Z1.out; simp; omega)]; simp [F1])); have F2' : ∀ i, w2.frozen? ⟨w.heap.size + 1, i, none⟩ = false := (fun i => (by rw [hb2.frozen (by have := Z1.out; simp; omega)]; simp [F1'])); have K3 := hid (more (K1.out.setCell (p := ⟨w.heap.size, 5, none⟩) (Nat.le_refl _) (.slice sa.a sa.n sa.c)) hb2); have M2 := hid (And.intro hn2 (And.intro hi2 hm2)); have H2 := hid hb2; clear hn2 hi2 hm2 B2 D2 hb2 F1 F1'))
 refine bodyPost_ret (v := ({ v with args := sa, into := si } : IV).val) (by rw [results_cell rfl]; go_simp) rfl ?_
 have Z2 : w1.heap.size ≤ w2.heap.size := by have := H2.out.size; simpa using this
 have z1 := Z1.out
 have KW : Kept (fun k => w.heap.size + 2 ≤ k) w1 (w1.setCell ⟨w.heap.size, 5, none⟩ (.slice sa.a sa.n sa.c)) := (Kept.refl _ _).setCell (by simp) _
 have a1 : Ints w2 sa a := Ints.on H2.out (M1.out.2.1.kept' M1.out.2.2 KW (fun b h _ => h))
 have a2 : Mine (w.heap.size + 2) w1.heap.size w2 sa := Mine.on H2.out (by simp) (M1.out.2.2.kept KW (fun b h _ => h))
 have j1 : Mine (w1.heap.size) w2.heap.size w2 si := by have := M2.out.2.2; simpa using this
 have KE : Kept (fun k => w.heap.size + 2 ≤ k) w2 ((((((((w2.setCell { block := w.heap.size, off := 6 } (.slice si.a si.n si.c)).setCell { block := w.heap.size + 1, off := 0 } (.int .i64 v.op)).setCell { block := w.heap.size + 1, off := 1 } (.int .i64 v.ty)).setCell { block := w.heap.size + 1, off := 2 } (.int .i64 v.to)).setCell { block := w.heap.size + 1, off := 3 } (.int .i64 v.sym)).setCell { block := w.heap.size + 1, off := 4 } (.int .i64 v.num)).setCell { block := w.heap.size + 1, off := 5 } (.slice sa.a sa.n sa.c)).setCell { block := w.heap.size + 1, off := 6 } (.slice si.a si.n si.c)) := by
  repeat (refine Kept.setCell ?_ (by simp) _)
  exact Kept.refl _ _
 refine ⟨sa, si, rfl, ⟨M1.out.1, M2.out.1, a1.kept' a2 KE (fun b h _ => h), M2.out.2.1.kept' j1 KE (fun b h _ => by omega), (a2.kept KE (fun b h _ => h)).wide (by omega) (by have := KE.size; omega), (j1.kept KE (fun b h _ => by omega)).wide (by omega) (by have := KE.size; omega), ?_⟩, ?_⟩
 ·intro g g' h h' h0 h0'
  obtain ⟨g1, e1, _, e2, _⟩ := a2 h0
  have := (j1.ge g' 0 h' h0').1
  rw [h] at e1
  simp at e1
  omega
 ·repeat (refine Below.setCell ?_ (by simp) _)
  exact K3.out

end Go.Proofs.YtolipafcoolpgaaGreat.Copy

/-
  A function copied by append: rows that grow; each in a block of its own. plnref3.CopyFunc, what it leaves.
-/
namespace Go.Proofs.YtolipafcoolpgaaGreat.Own
open Go.RowKit View Rd Copy Srt

set_option linter.unusedVariables false

abbrev slv (s : Sl) : Value := .slice s.a s.n s.c

def bk (s : Sl) : Option Nat := if 0 < s.n then some (blkOf s) else none

theorem bk_pos {s : Sl} (h : 0 < s.n) : bk s = some (blkOf s) := if_pos h

def Dn (F : FV) (j k : Nat) : Id → Prop
 | .row a => a < j
 | .arg a t => (a < j ∧ t < (F.B a).n) ∨ (a = j ∧ t < k)
 | .int a t => (a < j ∧ t < (F.B a).n) ∨ (a = j ∧ t < k)

abbrev cpI (F : FV) (S : Id → Sl) (a t : Nat) : IV := { F.I a t with args := S (.arg a t), into := S (.int a t) }

def Room (w : World) (s : Sl) (ty z : Nat) : Prop := 0 < s.n → ∃ cur : Array Value, w.heap[blkOf s]? = some (.cells cur ty (0, 0)) ∧ cur.size = s.c * z ∧ s.c ≤ maxLen

theorem Room.to {w w' : World} {s : Sl} {ty z : Nat} (h : Room w s ty z) (hb : 0 < s.n → w'.heap[blkOf s]? = w.heap[blkOf s]?) : Room w' s ty z := fun h0 => by
 obtain ⟨cur, h1, h2⟩ := h h0
 exact ⟨cur, by rw [hb h0]; exact h1, h2⟩

def InsR (w : World) (s : Sl) (f : Nat → IV) : Prop := Inss w s f ∧ Room w s 43 7

def Cont (F : FV) (w : World) (S : Id → Sl) : Id → Prop
 | .row a => InsR w (S (.row a)) (cpI F S a)
 | .arg a t => Ints w (S (.arg a t)) (F.A a t)
 | .int a t => Ints w (S (.int a t)) (F.J a t)

structure Part (F : FV) (base : Nat) (X : Nat → Prop) (w : World) (j k : Nat) (v bv : Value) (sp : Sl) (S : Id → Sl) : Prop where
 len : ∀ x, Dn F j k x → (S x).n = (sl F x).n
 mine : ∀ x, Dn F j k x → Mine base w.heap.size w (S x)
 cont : ∀ x, Dn F j k x → Cont F w S x
 sep : ∀ x y, Dn F j k x → Dn F j k y → 0 < (S x).n → 0 < (S y).n → blkOf (S x) = blkOf (S y) → x = y
 cur : w.ownsRow base 43 7 v k (flat (cpI F S j) k)
 blks : w.ownsRow base 40 1 bv j ((List.range j).map (fun a => slv (S (.row a))))
 far : ∀ x, Dn F j k x → 0 < (S x).n → some (blkOf (S x)) ≠ v.ownBlock ∧ some (blkOf (S x)) ≠ bv.ownBlock ∧ some (blkOf (S x)) ≠ bk sp
 par : Ints w sp F.P
 pn : sp.n = F.par.n
 pm : Mine base w.heap.size w sp
 pfar : 0 < sp.n → some (blkOf sp) ≠ v.ownBlock ∧ some (blkOf sp) ≠ bv.ownBlock
 av : ∀ x, Dn F j k x → 0 < (S x).n → ¬ X (blkOf (S x))
 avv : ∀ g, v.ownBlock = some g → ¬ X g
 avb : ∀ g, bv.ownBlock = some g → ¬ X g
 avp : 0 < sp.n → ¬ X (blkOf sp)
 xl : ∀ g, X g → g < w.heap.size

theorem mine_blk {base : Nat} {w : World} {s : Sl} (h : Mine base w.heap.size w s) (h0 : 0 < s.n) : s.a = some ⟨blkOf s, 0, none⟩ ∧ base ≤ blkOf s ∧ blkOf s < w.heap.size ∧ ∀ i, w.frozen? ⟨blkOf s, i, none⟩ = false := by
 obtain ⟨g, h1, h2, h3, h4⟩ := h h0
 rw [blkOf_eq h1]
 exact ⟨h1, h2, h3, h4⟩

theorem two_kinds {w : World} {base base' z z' n n' e e' : Nat} {v v' : Value} {xs xs' : List Value} (hne : e ≠ e') (h : w.ownsRow base e z v n xs) (h' : w.ownsRow base' e' z' v' n' xs') : ∀ g, v.ownBlock = some g → v'.ownBlock ≠ some g := by
 intro g e1 e2
 rcases h.2 with ⟨rfl, _⟩ | ⟨g1, cap, cur, rfl, _, hg, _⟩
 ·simp [Value.ownBlock] at e1
 ·rcases h'.2 with ⟨rfl, _⟩ | ⟨g2, cap2, cur2, rfl, _, hg2, _⟩
  ·simp [Value.ownBlock] at e2
  ·simp [Value.ownBlock] at e1 e2
   subst e1
   subst e2
   rw [hg] at hg2
   simp at hg2
   exact hne hg2.2

theorem mine_kept {base : Nat} {w w' : World} {s : Sl} (h : Mine base w.heap.size w s) (hz : w.heap.size ≤ w'.heap.size) (hb : 0 < s.n → w'.heap[blkOf s]? = w.heap[blkOf s]?) : Mine base w'.heap.size w' s := fun h0 => by
 obtain ⟨h1, h2, h3, h4⟩ := mine_blk h h0
 exact ⟨_, h1, h2, by omega, fun i => by rw [World.frozen?_of_block (w := w) (hb h0)]; exact h4 i⟩

theorem ints_blk {base : Nat} {w w' : World} {s : Sl} {f : Nat → Int} (hm : Mine base w.heap.size w s) (h : Ints w s f) (hz : w.heap.size ≤ w'.heap.size) (hb : 0 < s.n → w'.heap[blkOf s]? = w.heap[blkOf s]?) : Ints w' s f := by
 by_cases h0 : 0 < s.n
 ·obtain ⟨h1, _⟩ := mine_blk hm h0
  exact h.kept (p := fun k => k = blkOf s) ⟨hz, fun k hk => by subst hk; exact hb h0⟩ (fun b off e _ => adr_inj h1 e)
 ·exact ⟨h.1, h.2.1, h.2.2.1, fun h => absurd h h0⟩

theorem inss_blk {base : Nat} {w w' : World} {s : Sl} {f : Nat → IV} (hm : Mine base w.heap.size w s) (h : Inss w s f) (hz : w.heap.size ≤ w'.heap.size) (hb : 0 < s.n → w'.heap[blkOf s]? = w.heap[blkOf s]?) : Inss w' s f := by
 by_cases h0 : 0 < s.n
 ·obtain ⟨h1, _⟩ := mine_blk hm h0
  exact Inss_kept h (p := fun k => k = blkOf s) ⟨hz, fun k hk => by subst hk; exact hb h0⟩ (fun b off e _ => adr_inj h1 e)
 ·exact ⟨h.1, h.2.1, h.2.2.1, fun h => absurd h h0⟩

theorem insR_blk {base : Nat} {w w' : World} {s : Sl} {f : Nat → IV} (hm : Mine base w.heap.size w s) (h : InsR w s f) (hz : w.heap.size ≤ w'.heap.size) (hb : 0 < s.n → w'.heap[blkOf s]? = w.heap[blkOf s]?) : InsR w' s f :=
 ⟨inss_blk hm h.1 hz hb, h.2.to hb⟩

theorem Part.to {F : FV} {base : Nat} {X : Nat → Prop} {w w' : World} {j k : Nat} {v bv : Value} {sp : Sl} {S : Id → Sl} (h : Part F base X w j k v bv sp S) (hz : w.heap.size ≤ w'.heap.size) (hb : ∀ g, base ≤ g → g < w.heap.size → ¬ X g → w'.heap[g]? = w.heap[g]?) : Part F base X w' j k v bv sp S := by
 have hm : ∀ s : Sl, Mine base w.heap.size w s → (0 < s.n → ¬ X (blkOf s)) → 0 < s.n → w'.heap[blkOf s]? = w.heap[blkOf s]? := fun s m hx h0 => by
  obtain ⟨_, h2, h3, _⟩ := mine_blk m h0
  exact hb _ h2 h3 (hx h0)
 have ho : ∀ {e z n : Nat} {v : Value} {xs : List Value}, w.ownsRow base e z v n xs → (∀ g, v.ownBlock = some g → ¬ X g) → w'.ownsRow base e z v n xs := fun {e z n v xs} o hx => by
  refine ⟨o.1, ?_⟩
  rcases o.2 with q | ⟨g, cap, cur, h1, h2, h3, h4⟩
  ·exact .inl q
  ·exact .inr ⟨g, cap, cur, h1, h2, by rw [hb g h2 (Array.getElem?_eq_some_iff.1 h3).1 (hx g (by rw [h1]; rfl))]; exact h3, h4⟩
 refine ⟨h.len, fun x hx => mine_kept (h.mine x hx) hz (hm _ (h.mine x hx) (h.av x hx)), fun x hx => ?_, h.sep, ho h.cur h.avv, ho h.blks h.avb, h.far, ints_blk h.pm h.par hz (hm _ h.pm h.avp), h.pn, mine_kept h.pm hz (hm _ h.pm h.avp), h.pfar, h.av, h.avv, h.avb, h.avp, fun g hg => Nat.lt_of_lt_of_le (h.xl g hg) hz⟩
 have hc := h.cont x hx
 have hmx := h.mine x hx
 cases x with
 | row a => exact insR_blk hmx hc hz (hm _ hmx (h.av _ hx))
 | arg a t => exact ints_blk hmx hc hz (hm _ hmx (h.av _ hx))
 | int a t => exact ints_blk hmx hc hz (hm _ hmx (h.av _ hx))

theorem Part.on {F : FV} {base : Nat} {X : Nat → Prop} {w w' : World} {j k : Nat} {v bv : Value} {sp : Sl} {S : Id → Sl} (h : Part F base X w j k v bv sp S) (hb : Below w.heap.size w w') : Part F base X w' j k v bv sp S :=
 h.to hb.size (fun g _ h2 _ => hb.block g h2)

theorem Part.write {F : FV} {base : Nat} {X : Nat → Prop} {w : World} {j k : Nat} {v bv : Value} {sp : Sl} {S : Id → Sl} (h : Part F base X w j k v bv sp S) {a : Addr} (ha : X a.block) (u : Value) : Part F base X (w.setCell a u) j k v bv sp S :=
 h.to (by simp) (fun g _ _ hx => Below.heap_setCell _ _ _ _ (fun e => hx (e ▸ ha)))

theorem Part.alloc {F : FV} {base : Nat} {X : Nat → Prop} {w : World} {j k : Nat} {v bv : Value} {sp : Sl} {S : Id → Sl} (h : Part F base X w j k v bv sp S) (o : Obj) : Part F base (fun g => X g ∨ g = w.heap.size) (w.alloc o) j k v bv sp S := by
 have q := h.on (new (same w) o)
 exact ⟨q.len, q.mine, q.cont, q.sep, q.cur, q.blks, q.far, q.par, q.pn, q.pm, q.pfar, fun x hx h0 e => e.elim (q.av x hx h0) (fun e => by have := (mine_blk (h.mine x hx) h0).2.2.1; omega), fun g hg e => e.elim (q.avv g hg) (fun e => by have := (h.cur.lt g hg).2; omega), fun g hg e => e.elim (q.avb g hg) (fun e => by have := (h.blks.lt g hg).2; omega), fun h0 e => e.elim (q.avp h0) (fun e => by have := (mine_blk h.pm h0).2.2.1; omega), fun g hg => hg.elim (q.xl g) (fun e => by simp; omega)⟩

theorem Part.less {F : FV} {base : Nat} {X Y : Nat → Prop} {w : World} {j k : Nat} {v bv : Value} {sp : Sl} {S : Id → Sl} (h : Part F base X w j k v bv sp S) (hy : ∀ g, Y g → X g) : Part F base Y w j k v bv sp S :=
 ⟨h.len, h.mine, h.cont, h.sep, h.cur, h.blks, h.far, h.par, h.pn, h.pm, h.pfar, fun x hx h0 e => h.av x hx h0 (hy _ e), fun g hg e => h.avv g hg (hy _ e), fun g hg e => h.avb g hg (hy _ e), fun h0 e => h.avp h0 (hy _ e), fun g hg => h.xl g (hy g hg)⟩

def setS (S : Id → Sl) (j k : Nat) (ta ti : Sl) : Id → Sl
 | .row a => S (.row a)
 | .arg a t => if a = j ∧ t = k then ta else S (.arg a t)
 | .int a t => if a = j ∧ t = k then ti else S (.int a t)

theorem Part.step {F : FV} {base : Nat} {X : Nat → Prop} {w w2 w4 : World} {j k : Nat} {v v' bv : Value} {sp : Sl} {S : Id → Sl} (h : Part F base X w j k v bv sp S) {ta ti : Sl} (hb2 : Below w.heap.size w w2)
  (tw : Copy.Twin w.heap.size w2.heap.size w2 ta ti (F.I j k) (F.A j k) (F.J j k)) (hbase : base ≤ w.heap.size)
  (own4 : w4.ownsRow base 43 7 v' (k + 1) (flat (cpI F S j) k ++ ({ F.I j k with args := ta, into := ti } : IV).cells.toList))
  (gr : (w2.alloc (.cells ({ F.I j k with args := ta, into := ti } : IV).cells 43)).grownBy w4 v.ownBlock)
  (hat : v'.ownBlock = v.ownBlock ∨ v'.ownBlock = some (w2.heap.size + 1)) : Part F base X w4 j (k + 1) v' bv sp (setS S j k ta ti) := by
 have z2 := hb2.size
 have z4 := gr.size
 simp only [World.size_alloc] at z4
 have hvl := h.cur.lt
 have hbl := h.blks.lt
 have kinds := two_kinds (by decide) h.cur h.blks
 have hb4 : ∀ g, g < w2.heap.size → some g ≠ v.ownBlock → w4.heap[g]? = w2.heap[g]? := fun g hg hne => by
  rw [gr.block g (by simp; omega) hne, Below.heap_alloc _ _ _ hg]
 have hbw : ∀ g, g < w.heap.size → some g ≠ v.ownBlock → w4.heap[g]? = w.heap[g]? := fun g hg hne => by rw [hb4 g (by omega) hne, hb2.block g hg]
 have oldD : ∀ x, Dn F j (k + 1) x → x ≠ .arg j k → x ≠ .int j k → Dn F j k x ∧ setS S j k ta ti x = S x := by
  intro x hx n1 n2
  cases x with
  | row a => exact ⟨hx, rfl⟩
  | arg a t =>
   have hne : ¬ (a = j ∧ t = k) := fun e => n1 (by rw [e.1, e.2])
   refine ⟨?_, if_neg hne⟩
   rcases hx with h' | ⟨h1, h2⟩
   ·exact .inl h'
   ·exact .inr ⟨h1, by have : t ≠ k := fun e => hne ⟨h1, e⟩; omega⟩
  | int a t =>
   have hne : ¬ (a = j ∧ t = k) := fun e => n2 (by rw [e.1, e.2])
   refine ⟨?_, if_neg hne⟩
   rcases hx with h' | ⟨h1, h2⟩
   ·exact .inl h'
   ·exact .inr ⟨h1, by have : t ≠ k := fun e => hne ⟨h1, e⟩; omega⟩
 have sA : setS S j k ta ti (.arg j k) = ta := if_pos ⟨rfl, rfl⟩
 have sI : setS S j k ta ti (.int j k) = ti := if_pos ⟨rfl, rfl⟩
 have newA : 0 < ta.n → ∃ g, ta.a = some ⟨g, 0, none⟩ ∧ blkOf ta = g ∧ w.heap.size ≤ g ∧ g < w2.heap.size ∧ ∀ i, w2.frozen? ⟨g, i, none⟩ = false := fun h0 => by
  obtain ⟨g, a1, a2, a3, a4⟩ := tw.ma h0
  exact ⟨g, a1, blkOf_eq a1, a2, a3, a4⟩
 have newI : 0 < ti.n → ∃ g, ti.a = some ⟨g, 0, none⟩ ∧ blkOf ti = g ∧ w.heap.size ≤ g ∧ g < w2.heap.size ∧ ∀ i, w2.frozen? ⟨g, i, none⟩ = false := fun h0 => by
  obtain ⟨g, a1, a2, a3, a4⟩ := tw.mj h0
  exact ⟨g, a1, blkOf_eq a1, a2, a3, a4⟩
 have nv : ∀ g, w.heap.size ≤ g → some g ≠ v.ownBlock := fun g hg e => by have := (hvl g e.symm).2; omega
 have nb : ∀ g, w.heap.size ≤ g → some g ≠ bv.ownBlock := fun g hg e => by have := (hbl g e.symm).2; omega
 have np : ∀ g, w.heap.size ≤ g → some g ≠ bk sp := fun g hg e => by
  unfold bk at e
  split at e
  ·next h0 => have := (mine_blk h.pm h0).2.2.1; have := Option.some.inj e; omega
  ·cases e
 have nv' : ∀ g, g < w2.heap.size → some g ≠ v.ownBlock → some g ≠ v'.ownBlock := fun g hg hne e => by
  rcases hat with h' | h'
  ·rw [h'] at e; exact hne e
  ·rw [h'] at e; have := Option.some.inj e; omega
 have mA : Mine base w4.heap.size w4 ta := fun h0 => by
  obtain ⟨g, a1, a2, a3, a4, a5⟩ := newA h0
  exact ⟨g, a1, by omega, by omega, fun i => by rw [World.frozen?_of_block (w := w2) (hb4 g a4 (nv g a3))]; exact a5 i⟩
 have mI : Mine base w4.heap.size w4 ti := fun h0 => by
  obtain ⟨g, a1, a2, a3, a4, a5⟩ := newI h0
  exact ⟨g, a1, by omega, by omega, fun i => by rw [World.frozen?_of_block (w := w2) (hb4 g a4 (nv g a3))]; exact a5 i⟩
 have iA : Ints w4 ta (F.A j k) := tw.args.kept (p := fun g => g < w2.heap.size ∧ w.heap.size ≤ g) ⟨by omega, fun g hg => hb4 g hg.1 (nv g hg.2)⟩ (fun b off e h0 => by
  obtain ⟨g, a1, a2, a3, a4, _⟩ := newA h0
  rw [adr_inj a1 e]; exact ⟨a4, a3⟩)
 have iI : Ints w4 ti (F.J j k) := tw.into.kept (p := fun g => g < w2.heap.size ∧ w.heap.size ≤ g) ⟨by omega, fun g hg => hb4 g hg.1 (nv g hg.2)⟩ (fun b off e h0 => by
  obtain ⟨g, a1, a2, a3, a4, _⟩ := newI h0
  rw [adr_inj a1 e]; exact ⟨a4, a3⟩)
 have blkw : ∀ x, Dn F j k x → 0 < (S x).n → blkOf (S x) < w.heap.size := fun x hx h0 => (mine_blk (h.mine x hx) h0).2.2.1
 have keepX : ∀ x, Dn F j k x → 0 < (S x).n → w4.heap[blkOf (S x)]? = w.heap[blkOf (S x)]? := fun x hx h0 => hbw _ (blkw x hx h0) (h.far x hx h0).1
 have xw : ∀ g, w.heap.size ≤ g → ¬ X g := fun g hg e => by have := h.xl g e; omega
 refine ⟨fun x hx => ?_, fun x hx => ?_, fun x hx => ?_, fun x y hx hy h0 h0' e => ?_, ?_, ?_, fun x hx h0 => ?_, ?_, h.pn, ?_, fun h0 => ?_, fun x hx h0 => ?_, fun g hg => ?_, h.avb, h.avp, fun g hg => by have := h.xl g hg; omega⟩
 ·by_cases e1 : x = .arg j k
  ·rw [e1, sA]; exact tw.an
  ·by_cases e2 : x = .int j k
   ·rw [e2, sI]; exact tw.jn
   ·obtain ⟨d, s⟩ := oldD x hx e1 e2
    rw [s]; exact h.len x d
 ·by_cases e1 : x = .arg j k
  ·rw [e1, sA]; exact mA
  ·by_cases e2 : x = .int j k
   ·rw [e2, sI]; exact mI
   ·obtain ⟨d, s⟩ := oldD x hx e1 e2
    rw [s]; exact mine_kept (h.mine x d) (by omega) (keepX x d)
 ·by_cases e1 : x = .arg j k
  ·subst e1; show Ints w4 (setS S j k ta ti (.arg j k)) _; rw [sA]; exact iA
  ·by_cases e2 : x = .int j k
   ·subst e2; show Ints w4 (setS S j k ta ti (.int j k)) _; rw [sI]; exact iI
   ·obtain ⟨d, s⟩ := oldD x hx e1 e2
    have hc := h.cont x d
    have hm := h.mine x d
    cases x with
    | row a =>
     have ha : a < j := d
     have : InsR w4 (S (.row a)) (cpI F S a) := insR_blk hm hc (by omega) (keepX _ d)
     have ef : cpI F (setS S j k ta ti) a = cpI F S a := by
      funext t
      show ({ F.I a t with args := if a = j ∧ t = k then ta else _, into := if a = j ∧ t = k then ti else _ } : IV) = _
      rw [if_neg (by omega), if_neg (by omega)]
     show InsR w4 (S (.row a)) (cpI F (setS S j k ta ti) a)
     rw [ef]; exact this
    | arg a t => show Ints w4 (setS S j k ta ti (.arg a t)) _; rw [s]; exact ints_blk hm hc (by omega) (keepX _ d)
    | int a t => show Ints w4 (setS S j k ta ti (.int a t)) _; rw [s]; exact ints_blk hm hc (by omega) (keepX _ d)
 ·have old : ∀ z, Dn F j (k + 1) z → z ≠ .arg j k → z ≠ .int j k → 0 < (setS S j k ta ti z).n → blkOf (setS S j k ta ti z) < w.heap.size := fun z hz n1 n2 hp => by
   obtain ⟨d, s⟩ := oldD z hz n1 n2
   rw [s] at hp ⊢; exact blkw z d hp
  have newge : ∀ z, z = .arg j k ∨ z = .int j k → 0 < (setS S j k ta ti z).n → w.heap.size ≤ blkOf (setS S j k ta ti z) := fun z hz hp => by
   rcases hz with rfl | rfl
   ·rw [sA] at hp ⊢; obtain ⟨g, _, a2, a3, _⟩ := newA hp; omega
   ·rw [sI] at hp ⊢; obtain ⟨g, _, a2, a3, _⟩ := newI hp; omega
  by_cases x1 : x = .arg j k
  ·by_cases y1 : y = .arg j k
   ·rw [x1, y1]
   ·by_cases y2 : y = .int j k
    ·exfalso
     subst x1 y2
     rw [sA, sI] at e; rw [sA] at h0; rw [sI] at h0'
     obtain ⟨g, a1, a2, _⟩ := newA h0
     obtain ⟨g', b1, b2, _⟩ := newI h0'
     have := tw.ord g g' a1 b1 h0 h0'
     omega
    ·have := old y hy y1 y2 h0'; have := newge x (.inl x1) h0; omega
  ·by_cases x2 : x = .int j k
   ·by_cases y1 : y = .arg j k
    ·exfalso
     subst x2 y1
     rw [sA, sI] at e; rw [sI] at h0; rw [sA] at h0'
     obtain ⟨g, a1, a2, _⟩ := newA h0'
     obtain ⟨g', b1, b2, _⟩ := newI h0
     have := tw.ord g g' a1 b1 h0' h0
     omega
    ·by_cases y2 : y = .int j k
     ·rw [x2, y2]
     ·have := old y hy y1 y2 h0'; have := newge x (.inr x2) h0; omega
   ·by_cases y1 : y = .arg j k
    ·have := old x hx x1 x2 h0; have := newge y (.inl y1) h0'; omega
    ·by_cases y2 : y = .int j k
     ·have := old x hx x1 x2 h0; have := newge y (.inr y2) h0'; omega
     ·obtain ⟨d, s⟩ := oldD x hx x1 x2
      obtain ⟨d', s'⟩ := oldD y hy y1 y2
      rw [s] at h0 e; rw [s'] at h0' e
      exact h.sep x y d d' h0 h0' e
 ·have ef : flat (cpI F (setS S j k ta ti) j) (k + 1) = flat (cpI F S j) k ++ ({ F.I j k with args := ta, into := ti } : IV).cells.toList := by
   rw [flat, flat_congr (g := cpI F S j) (fun t ht => by
    show ({ F.I j t with args := if j = j ∧ t = k then ta else _, into := if j = j ∧ t = k then ti else _ } : IV) = _
    rw [if_neg (by omega), if_neg (by omega)])]
   have e2 : cpI F (setS S j k ta ti) j k = ({ F.I j k with args := ta, into := ti } : IV) := by
    show ({ F.I j k with args := if j = j ∧ k = k then ta else _, into := if j = j ∧ k = k then ti else _ } : IV) = _
    rw [if_pos ⟨rfl, rfl⟩, if_pos ⟨rfl, rfl⟩]
   rw [e2]
  rw [ef]; exact own4
 ·refine ⟨h.blks.1, ?_⟩
  rcases h.blks.2 with q | ⟨g, cap, cur, h1, h2, h3, h4⟩
  ·exact .inl q
  ·refine .inr ⟨g, cap, cur, h1, h2, ?_, h4⟩
   have hgb : bv.ownBlock = some g := by rw [h1]; rfl
   rw [hbw g (hbl g hgb).2 (fun e => kinds g e.symm hgb)]; exact h3
 ·by_cases e1 : x = .arg j k
  ·subst e1; rw [sA] at h0 ⊢
   obtain ⟨g, _, a2, a3, a4, _⟩ := newA h0
   rw [a2]; exact ⟨nv' g a4 (nv g a3), nb g a3, np g a3⟩
  ·by_cases e2 : x = .int j k
   ·subst e2; rw [sI] at h0 ⊢
    obtain ⟨g, _, a2, a3, a4, _⟩ := newI h0
    rw [a2]; exact ⟨nv' g a4 (nv g a3), nb g a3, np g a3⟩
   ·obtain ⟨d, s⟩ := oldD x hx e1 e2
    rw [s] at h0 ⊢
    obtain ⟨q1, q2, q3⟩ := h.far x d h0
    exact ⟨nv' _ (by have := blkw x d h0; omega) q1, q2, q3⟩
 ·exact ints_blk h.pm h.par (by omega) (fun h0 => hbw _ (mine_blk h.pm h0).2.2.1 (h.pfar h0).1)
 ·exact mine_kept h.pm (by omega) (fun h0 => hbw _ (mine_blk h.pm h0).2.2.1 (h.pfar h0).1)
 ·exact ⟨nv' _ (by have := (mine_blk h.pm h0).2.2.1; omega) (h.pfar h0).1, (h.pfar h0).2⟩
 ·by_cases e1 : x = .arg j k
  ·subst e1; rw [sA] at h0 ⊢
   obtain ⟨g, _, a2, a3, _⟩ := newA h0
   rw [a2]; exact xw g a3
  ·by_cases e2 : x = .int j k
   ·subst e2; rw [sI] at h0 ⊢
    obtain ⟨g, _, a2, a3, _⟩ := newI h0
    rw [a2]; exact xw g a3
   ·obtain ⟨d, s⟩ := oldD x hx e1 e2
    rw [s] at h0 ⊢; exact h.av x d h0
 ·rcases hat with h' | h'
  ·exact h.avv g (by rw [← h']; exact hg)
  ·rw [h'] at hg; have := Option.some.inj hg; exact xw g (by omega)

theorem inss_of_owns {w : World} {base : Nat} {v : Value} {k : Nat} {f : Nat → IV} (h : w.ownsRow base 43 7 v k (flat f k)) (hk : k ≤ 1000) :
  ∃ s : Sl, v = slv s ∧ s.n = k ∧ InsR w s f ∧ Mine base w.heap.size w s ∧ (0 < s.n → v.ownBlock = some (blkOf s)) := by
 rcases h.2 with ⟨rfl, rfl⟩ | ⟨g, cap, cur, rfl, hb, hg, hnc, hm, hs, ht⟩
 ·exact ⟨⟨none, 0, 0⟩, rfl, rfl, ⟨⟨Nat.le_refl _, Nat.zero_le _, fun _ => rfl, fun h => absurd h (by simp)⟩, fun h => absurd h (by simp)⟩, fun h => absurd h (by simp), fun h => absurd h (by simp)⟩
 ·have hlt : g < w.heap.size := (Array.getElem?_eq_some_iff.1 hg).1
  refine ⟨⟨some ⟨g, 0, none⟩, k, cap⟩, rfl, rfl, ⟨⟨hnc, by show k ≤ _; omega, fun e => by simp at e, fun h0 => ⟨g, 0, rfl, fun i hi => ?_⟩⟩, fun _ => ⟨cur, hg, hs, hm⟩⟩, fun h0 => ⟨g, rfl, hb, hlt, fun i => by simp [World.frozen?, hg]⟩, fun _ => rfl⟩
  simp only at hi
  have key : ∀ c, c < 7 → w.cell? ⟨g, 0 + i * 7 + c, none⟩ = (f i).cells.toList[c]? := by
   intro c hc
   rw [Nat.zero_add, h.cellAt (i * 7 + c) (by omega), flat_at _ _ _ _ hi hc]
  exact ⟨by simpa using key 0 (by omega), key 1 (by omega), key 2 (by omega), key 3 (by omega), key 4 (by omega), key 5 (by omega), key 6 (by omega)⟩

def setR (S : Id → Sl) (j : Nat) (vs : Sl) : Id → Sl
 | .row a => if a = j then vs else S (.row a)
 | .arg a t => S (.arg a t)
 | .int a t => S (.int a t)

theorem Part.next {F : FV} {base : Nat} {X : Nat → Prop} {w w5 : World} {j : Nat} {vs : Sl} {bv bv' : Value} {sp : Sl} {S : Id → Sl} (h : Part F base X w j (F.B j).n (slv vs) bv sp S) (hn90 : (F.B j).n ≤ 1000)
  (own5 : w5.ownsRow base 40 1 bv' (j + 1) ((List.range j).map (fun a => slv (S (.row a))) ++ [slv vs]))
  (gr : (w.alloc (.cells #[slv vs] 40)).grownBy w5 bv.ownBlock) (hat : bv'.ownBlock = bv.ownBlock ∨ bv'.ownBlock = some (w.heap.size + 1)) :
  Part F base X w5 (j + 1) 0 (.slice none 0 0) bv' sp (setR S j vs) := by
 obtain ⟨vs', e, hvn, hvi, hvm, hvb⟩ := inss_of_owns h.cur hn90
 obtain rfl : vs = vs' := by
  have h1 : vs.a = vs'.a ∧ vs.n = vs'.n ∧ vs.c = vs'.c := by simpa [slv] using e
  cases vs; cases vs'; simp at h1; simp [h1]
 have z5 := gr.size
 simp only [World.size_alloc] at z5
 have hbl := h.blks.lt
 have hvl := h.cur.lt
 have kinds := two_kinds (by decide) h.cur h.blks
 have hbw : ∀ g, g < w.heap.size → some g ≠ bv.ownBlock → w5.heap[g]? = w.heap[g]? := fun g hg hne => by
  rw [gr.block g (by simp; omega) hne, Below.heap_alloc _ _ _ hg]
 have nb' : ∀ g, g < w.heap.size → some g ≠ bv.ownBlock → some g ≠ bv'.ownBlock := fun g hg hne e => by
  rcases hat with h' | h'
  ·rw [h'] at e; exact hne e
  ·rw [h'] at e; have := Option.some.inj e; omega
 have oldD : ∀ x, Dn F (j + 1) 0 x → x ≠ .row j → Dn F j (F.B j).n x ∧ setR S j vs x = S x := by
  intro x hx hne
  cases x with
  | row a =>
   have ha : a < j + 1 := hx
   have hn : a ≠ j := fun e => hne (by rw [e])
   exact ⟨show a < j by omega, if_neg hn⟩
  | arg a t =>
   refine ⟨?_, rfl⟩
   rcases hx with ⟨h1, h2⟩ | ⟨_, h2⟩
   ·by_cases e : a = j
    ·subst e; exact .inr ⟨rfl, h2⟩
    ·exact .inl ⟨by omega, h2⟩
   ·omega
  | int a t =>
   refine ⟨?_, rfl⟩
   rcases hx with ⟨h1, h2⟩ | ⟨_, h2⟩
   ·by_cases e : a = j
    ·subst e; exact .inr ⟨rfl, h2⟩
    ·exact .inl ⟨by omega, h2⟩
   ·omega
 have sR : setR S j vs (.row j) = vs := if_pos rfl
 have vblk : 0 < vs.n → blkOf vs < w.heap.size ∧ some (blkOf vs) ≠ bv.ownBlock := fun h0 => ⟨(mine_blk hvm h0).2.2.1, fun e => kinds _ (hvb h0) e.symm⟩
 have blkw : ∀ x, Dn F j (F.B j).n x → 0 < (S x).n → blkOf (S x) < w.heap.size := fun x hx h0 => (mine_blk (h.mine x hx) h0).2.2.1
 have keepX : ∀ x, Dn F j (F.B j).n x → 0 < (S x).n → w5.heap[blkOf (S x)]? = w.heap[blkOf (S x)]? := fun x hx h0 => hbw _ (blkw x hx h0) (h.far x hx h0).2.1
 have ecp : ∀ a, cpI F (setR S j vs) a = cpI F S a := fun a => rfl
 have xw : ∀ g, w.heap.size ≤ g → ¬ X g := fun g hg e => by have := h.xl g e; omega
 refine ⟨fun x hx => ?_, fun x hx => ?_, fun x hx => ?_, fun x y hx hy h0 h0' e => ?_, World.ownsRow_nil _ _ _ _, ?_, fun x hx h0 => ?_, ?_, h.pn, ?_, fun h0 => ?_, fun x hx h0 => ?_, fun g hg => (by simp [Value.ownBlock] at hg), fun g hg => ?_, h.avp, fun g hg => by have := h.xl g hg; omega⟩
 ·by_cases e1 : x = .row j
  ·rw [e1, sR]; exact hvn
  ·obtain ⟨d, s⟩ := oldD x hx e1
   rw [s]; exact h.len x d
 ·by_cases e1 : x = .row j
  ·rw [e1, sR]; exact mine_kept hvm (by omega) (fun h0 => hbw _ (vblk h0).1 (vblk h0).2)
  ·obtain ⟨d, s⟩ := oldD x hx e1
   rw [s]; exact mine_kept (h.mine x d) (by omega) (keepX x d)
 ·by_cases e1 : x = .row j
  ·subst e1
   show InsR w5 (setR S j vs (.row j)) (cpI F (setR S j vs) j)
   rw [sR, ecp]
   exact insR_blk hvm hvi (by omega) (fun h0 => hbw _ (vblk h0).1 (vblk h0).2)
  ·obtain ⟨d, s⟩ := oldD x hx e1
   have hc := h.cont x d
   have hm := h.mine x d
   cases x with
   | row a =>
    show InsR w5 (setR S j vs (.row a)) (cpI F (setR S j vs) a)
    rw [s, ecp]; exact insR_blk hm hc (by omega) (keepX _ d)
   | arg a t => exact ints_blk hm hc (by omega) (keepX _ d)
   | int a t => exact ints_blk hm hc (by omega) (keepX _ d)
 ·by_cases x1 : x = .row j
  ·by_cases y1 : y = .row j
   ·rw [x1, y1]
   ·exfalso
    subst x1
    obtain ⟨d', s'⟩ := oldD y hy y1
    rw [sR] at h0 e; rw [s'] at h0' e
    exact (h.far y d' h0').1 (by rw [hvb h0, e])
  ·by_cases y1 : y = .row j
   ·exfalso
    subst y1
    obtain ⟨d, s⟩ := oldD x hx x1
    rw [sR] at h0' e; rw [s] at h0 e
    exact (h.far x d h0).1 (by rw [hvb h0', e])
   ·obtain ⟨d, s⟩ := oldD x hx x1
    obtain ⟨d', s'⟩ := oldD y hy y1
    rw [s] at h0 e; rw [s'] at h0' e
    exact h.sep x y d d' h0 h0' e
 ·have el : (List.range (j + 1)).map (fun a => slv (setR S j vs (.row a))) = (List.range j).map (fun a => slv (S (.row a))) ++ [slv vs] := by
   rw [List.range_succ, List.map_append]
   congr 1
   ·refine List.map_congr_left (fun a ha => ?_)
    have : a < j := List.mem_range.1 ha
    show slv (if a = j then vs else S (.row a)) = _
    rw [if_neg (by omega)]
   ·simp [setR]
  rw [el]; exact own5
 ·by_cases e1 : x = .row j
  ·subst e1; rw [sR] at h0 ⊢
   refine ⟨by simp [Value.ownBlock], nb' _ (vblk h0).1 (vblk h0).2, fun e => ?_⟩
   unfold bk at e
   split at e
   ·next hp => exact (h.pfar hp).1 (by rw [hvb h0]; exact e.symm)
   ·cases e
  ·obtain ⟨d, s⟩ := oldD x hx e1
   rw [s] at h0 ⊢
   obtain ⟨q1, q2, q3⟩ := h.far x d h0
   exact ⟨by simp [Value.ownBlock], nb' _ (blkw x d h0) q2, q3⟩
 ·exact ints_blk h.pm h.par (by omega) (fun h0 => hbw _ (mine_blk h.pm h0).2.2.1 (h.pfar h0).2)
 ·exact mine_kept h.pm (by omega) (fun h0 => hbw _ (mine_blk h.pm h0).2.2.1 (h.pfar h0).2)
 ·exact ⟨by simp [Value.ownBlock], nb' _ (mine_blk h.pm h0).2.2.1 (h.pfar h0).2⟩
 ·by_cases e1 : x = .row j
  ·subst e1; rw [sR] at h0 ⊢; exact h.avv _ (hvb h0)
  ·obtain ⟨d, s⟩ := oldD x hx e1
   rw [s] at h0 ⊢; exact h.av x d h0
 ·rcases hat with h' | h'
  ·exact h.avb g (by rw [← h']; exact hg)
  ·rw [h'] at hg; have := Option.some.inj hg; exact xw g (by omega)

theorem cnt_eq {f g : Nat → Nat} : ∀ {k : Nat}, (∀ t, t < k → f t = g t) → cnt f k = cnt g k
 | 0, _ => rfl
 | k + 1, h => by rw [cnt, cnt, cnt_eq (fun t ht => h t (by omega)), h k (by omega)]

def cpF (F : FV) (sp bs : Sl) (S : Id → Sl) : FV := { F with par := sp, blk := bs, B := fun j => S (.row j), I := cpI F S }

theorem sl_cpF (F : FV) (sp bs : Sl) (S : Id → Sl) (x : Id) : sl (cpF F sp bs S) x = S x := by cases x <;> rfl

theorem sls_of_owns {w : World} {base : Nat} {v : Value} {k : Nat} {f : Nat → Sl} (h : w.ownsRow base 40 1 v k ((List.range k).map (fun a => slv (f a)))) (hk : k ≤ 1000) :
  ∃ s : Sl, v = slv s ∧ s.n = k ∧ Sls w s f ∧ Mine base w.heap.size w s ∧ (0 < s.n → v.ownBlock = some (blkOf s)) ∧ Room w s 40 1 := by
 rcases h.2 with ⟨rfl, rfl⟩ | ⟨g, cap, cur, rfl, hb, hg, hnc, hm, hs, ht⟩
 ·exact ⟨⟨none, 0, 0⟩, rfl, rfl, ⟨Nat.le_refl _, Nat.zero_le _, fun _ => rfl, fun h => absurd h (by simp)⟩, fun h => absurd h (by simp), fun h => absurd h (by simp), fun h => absurd h (by simp)⟩
 ·have hlt : g < w.heap.size := (Array.getElem?_eq_some_iff.1 hg).1
  refine ⟨⟨some ⟨g, 0, none⟩, k, cap⟩, rfl, rfl, ⟨hnc, by show k ≤ _; omega, fun e => by simp at e, fun h0 => ⟨g, 0, rfl, fun i hi => ?_⟩⟩, fun h0 => ⟨g, rfl, hb, hlt, fun i => by simp [World.frozen?, hg]⟩, fun _ => rfl, fun _ => ⟨cur, hg, hs, hm⟩⟩
  simp only at hi
  rw [Nat.zero_add, h.cellAt i (by omega)]
  simp [hi]

def Caps (w : World) (T : FV) : Prop := Room w T.blk 40 1 ∧ ∀ j, j < T.blk.n → Room w (T.B j) 43 7

theorem Part.whole {F : FV} {base : Nat} {X : Nat → Prop} {w : World} {bv : Value} {sp : Sl} {S : Id → Sl} (h : Part F base X w F.blk.n 0 (.slice none 0 0) bv sp S) (hl : Light F) :
  ∃ bs : Sl, bv = slv bs ∧ Own base w (cpF F sp bs S) (fun x => blkOf (S x)) ∧ Light (cpF F sp bs S) ∧ bs.n = F.blk.n ∧ Caps w (cpF F sp bs S) := by
 obtain ⟨bs, rfl, hbn, hbi, hbm, hbb, hbr⟩ := sls_of_owns h.blks (by have := hl.blk; omega)
 have dRow : ∀ a, a < F.blk.n → Dn F F.blk.n 0 (.row a) := fun a ha => ha
 have nB : ∀ a, a < F.blk.n → (S (.row a)).n = (F.B a).n := fun a ha => h.len (.row a) (dRow a ha)
 have hasD : ∀ x, has (cpF F sp bs S) x → Dn F F.blk.n 0 x := fun x hx => by
  cases x with
  | row a => have h1 : a < bs.n := hx; exact show a < F.blk.n by omega
  | arg a t =>
   obtain ⟨h1, h2⟩ : a < bs.n ∧ t < (S (.row a)).n := hx
   exact .inl ⟨by omega, by rw [← nB a (by omega)]; exact h2⟩
  | int a t =>
   obtain ⟨h1, h2⟩ : a < bs.n ∧ t < (S (.row a)).n := hx
   exact .inl ⟨by omega, by rw [← nB a (by omega)]; exact h2⟩
 have dA : ∀ a t, a < F.blk.n → t < (S (.row a)).n → Dn F F.blk.n 0 (.arg a t) := fun a t ha ht => .inl ⟨ha, by rw [← nB a ha]; exact ht⟩
 have dI : ∀ a t, a < F.blk.n → t < (S (.row a)).n → Dn F F.blk.n 0 (.int a t) := fun a t ha ht => .inl ⟨ha, by rw [← nB a ha]; exact ht⟩
 refine ⟨bs, rfl, ⟨⟨h.par, hbi, fun a ha => (h.cont (.row a) (dRow a (by rw [← hbn]; exact ha))).1, fun a ha t ht => h.cont (.arg a t) (dA a t (by rw [← hbn]; exact ha) ht), fun a ha t ht => h.cont (.int a t) (dI a t (by rw [← hbn]; exact ha) ht)⟩, fun x hx h0 => ?_, fun x hx h0 => ?_, fun x hx h0 => ?_, fun x hx h0 => ?_, fun x y hx hy h0 h0' e => ?_, fun x hx h0 b o hb hn => ?_, fun x hx h0 b o hb hn => ?_, h.pm, hbm⟩, ⟨?_, hl.name, by show sp.n ≤ 8; rw [h.pn]; exact hl.par, by show bs.n ≤ 48; rw [hbn]; exact hl.blk, fun a ha => ?_, fun a ha t ht => ?_, fun a ha t ht => ?_⟩, hbn, hbr, fun a ha => (h.cont (.row a) (dRow a (by rw [← hbn]; exact ha))).2⟩
 ·rw [sl_cpF] at h0 ⊢; exact (mine_blk (h.mine x (hasD x hx)) h0).1
 ·rw [sl_cpF] at h0; exact (mine_blk (h.mine x (hasD x hx)) h0).2.1
 ·rw [sl_cpF] at h0; exact (mine_blk (h.mine x (hasD x hx)) h0).2.2.1
 ·rw [sl_cpF] at h0; exact (mine_blk (h.mine x (hasD x hx)) h0).2.2.2
 ·rw [sl_cpF] at h0 h0'; exact h.sep x y (hasD x hx) (hasD y hy) h0 h0' e
 ·rw [sl_cpF] at h0
  intro e
  have hp : 0 < sp.n := hn
  have q := (h.far x (hasD x hx) h0).2.2
  rw [bk_pos hp] at q
  have : blkOf sp = b := blkOf_eq hb
  exact q (by rw [this, e])
 ·rw [sl_cpF] at h0
  intro e
  have hp : 0 < bs.n := hn
  have q := (h.far x (hasD x hx) h0).2.1
  rw [hbb hp] at q
  have : blkOf bs = b := blkOf_eq hb
  exact q (by rw [this, e])
 ·show cnt (fun a => (S (.row a)).n) bs.n ≤ 400
  rw [hbn]
  have e : cnt (fun a => (S (.row a)).n) F.blk.n = cnt (fun j => (F.B j).n) F.blk.n := cnt_eq (fun a ha => nB a ha)
  rw [e]; exact hl.all
 ·have ha' : a < F.blk.n := by rw [← hbn]; exact ha
  show (S (.row a)).n ≤ 400
  rw [nB a ha']; exact hl.ins a ha'
 ·have ha' : a < F.blk.n := by rw [← hbn]; exact ha
  show (S (.arg a t)).n ≤ 20
  rw [h.len _ (dA a t ha' ht)]; exact hl.args a ha' t (by rw [← nB a ha']; exact ht)
 ·have ha' : a < F.blk.n := by rw [← hbn]; exact ha
  show (S (.int a t)).n ≤ 20
  rw [h.len _ (dI a t ha' ht)]; exact hl.into a ha' t (by rw [← nB a ha']; exact ht)

abbrev zF : FV := ⟨⟨#[]⟩, false, ⟨none, 0, 0⟩, 0, ⟨none, 0, 0⟩, fun _ => 0, fun _ => ⟨none, 0, 0⟩, fun _ _ => IV.zero, fun _ _ _ => 0, fun _ _ _ => 0⟩

def Xs (w : World) (Gb g : Nat) : Prop := g = Gb ∨ g = w.heap.size ∨ g = w.heap.size + 1

structure Env (F : FV) (w : World) (Gb : Nat) (sp bs : Sl) (wr : World) : Prop where
 fg : FuncAt wr Gb { F with par := sp, blk := bs }
 ff : FuncAt wr w.heap.size F
 fz : FuncAt wr (w.heap.size + 1) zF
 zg : ∀ i, wr.frozen? ⟨Gb, i, none⟩ = false
 zz : ∀ i, wr.frozen? ⟨w.heap.size + 1, i, none⟩ = false
 low : Below w.heap.size w wr
 lt : Gb < wr.heap.size
 ge : w.heap.size + 2 ≤ Gb

theorem Env.to {F : FV} {w wr w' : World} {Gb : Nat} {sp bs : Sl} (h : Env F w Gb sp bs wr) (hz : wr.heap.size ≤ w'.heap.size) (hb : ∀ g, Xs w Gb g → w'.heap[g]? = wr.heap[g]?) (hl : Below w.heap.size w w') : Env F w Gb sp bs w' := by
 have k : Kept (Xs w Gb) wr w' := ⟨hz, hb⟩
 exact ⟨h.fg.kept k (.inl rfl), h.ff.kept k (.inr (.inl rfl)), h.fz.kept k (.inr (.inr rfl)), fun i => by rw [World.frozen?_of_block (w := wr) (hb _ (.inl rfl))]; exact h.zg i, fun i => by rw [World.frozen?_of_block (w := wr) (hb _ (.inr (.inr rfl)))]; exact h.zz i, hl, Nat.lt_of_lt_of_le h.lt hz, h.ge⟩

theorem Env.xlt {F : FV} {w wr : World} {Gb : Nat} {sp bs : Sl} (h : Env F w Gb sp bs wr) : ∀ g, Xs w Gb g → g < wr.heap.size := fun g hg => by
 have := h.lt; have := h.ge
 rcases hg with e | e | e <;> omega

theorem Env.on {F : FV} {w wr w' : World} {Gb : Nat} {sp bs : Sl} (h : Env F w Gb sp bs wr) (hb : Below wr.heap.size wr w') : Env F w Gb sp bs w' :=
 h.to hb.size (fun g hg => hb.block g (h.xlt g hg)) (more h.low hb)

def OutS (F : FV) (w : World) (Gb : Nat) (sp : Sl) (j : Nat) (wr : World) : Prop :=
 ∃ (bs : Sl) (S : Id → Sl), Part F (w.heap.size + 2) (Xs w Gb) wr j 0 (.slice none 0 0) (slv bs) sp S ∧ Env F w Gb sp bs wr

def InS (F : FV) (w : World) (Gb Bb : Nat) (sp bs : Sl) (j k : Nat) (wx : World) : Prop :=
 ∃ (vs : Sl) (S : Id → Sl), Part F (w.heap.size + 2) (fun g => Xs w Gb g ∨ g = Bb) wx j k (slv vs) (slv bs) sp S ∧ Env F w Gb sp bs wx ∧ wx.cell? ⟨Bb, 0, none⟩ = some (slv vs) ∧ wx.frozen? ⟨Bb, 0, none⟩ = false ∧ Gb < Bb ∧ Bb < wx.heap.size

theorem Part.start {F : FV} {w wr : World} {Gb : Nat} {sp : Sl} (h : Env F w Gb sp ⟨none, 0, 0⟩ wr) (hp : Ints wr sp F.P) (hn : sp.n = F.par.n) (hm : Mine (w.heap.size + 2) wr.heap.size wr sp) (hg : 0 < sp.n → blkOf sp ≠ Gb) :
  Part F (w.heap.size + 2) (Xs w Gb) wr 0 0 (.slice none 0 0) (.slice none 0 0) sp (fun _ => ⟨none, 0, 0⟩) := by
 have no : ∀ x, ¬ Dn F 0 0 x := fun x hx => by
  cases x with
  | row a => exact absurd hx (Nat.not_lt_zero _)
  | arg a t => rcases hx with ⟨h, _⟩ | ⟨_, h⟩ <;> exact absurd h (Nat.not_lt_zero _)
  | int a t => rcases hx with ⟨h, _⟩ | ⟨_, h⟩ <;> exact absurd h (Nat.not_lt_zero _)
 refine ⟨fun x hx => absurd hx (no x), fun x hx => absurd hx (no x), fun x hx => absurd hx (no x), fun x y hx => absurd hx (no x), World.ownsRow_nil _ _ _ _, World.ownsRow_nil _ _ _ _, fun x hx => absurd hx (no x), hp, hn, hm, fun _ => ⟨by simp [Value.ownBlock], by simp [Value.ownBlock]⟩, fun x hx => absurd hx (no x), fun g hg => by simp [Value.ownBlock] at hg, fun g hg => by simp [Value.ownBlock] at hg, fun h0 e => ?_, h.xlt⟩
 have := (mine_blk hm h0).2.1
 rcases e with e | e | e
 ·exact hg h0 e
 ·omega
 ·omega

theorem owns_slv {w : World} {base e z n : Nat} {v : Value} {xs : List Value} (h : w.ownsRow base e z v n xs) : ∃ s : Sl, v = slv s := by
 rcases h.2 with ⟨rfl, _⟩ | ⟨g, cap, cur, rfl, _⟩
 ·exact ⟨⟨none, 0, 0⟩, rfl⟩
 ·exact ⟨⟨some ⟨g, 0, none⟩, n, cap⟩, rfl⟩

theorem cells_new (w : World) (cs : Array Value) (t : TypeId) : ∀ j u, cs.toList[j]? = some u → (w.alloc (.cells cs t)).cell? ((⟨w.heap.size, 0, none⟩ : Addr).add j) = some u := by
 intro j u h
 have e : (⟨w.heap.size, 0, none⟩ : Addr).add j = ⟨w.heap.size, j, none⟩ := by simp [Addr.add_lit]
 rw [e]
 simpa using h

theorem app_ins {w2 : World} {base k : Nat} {v : Value} {f : Nat → IV} (own : w2.ownsRow base 43 7 v k (flat f k)) (hk : k ≤ 1000) (hbase : base ≤ w2.heap.size) (u : IV) (ty : TypeId) :
  ∃ v' w4, (Builtin.append_ #[38, 38] ty #[v, .slice (some ⟨w2.heap.size, 0, none⟩) 1 1]).run Tryz.prog (w2.alloc (.cells u.cells 43)) = .ok v' w4 ∧ w4.ownsRow base 43 7 v' (k + 1) (flat f k ++ u.cells.toList) ∧
   (w2.alloc (.cells u.cells 43)).grownBy w4 v.ownBlock ∧ (v'.ownBlock = v.ownBlock ∨ v'.ownBlock = some (w2.heap.size + 1)) := by
 obtain ⟨i0, hi, hz0, hz1, hz2⟩ := info_parts info43
 obtain ⟨v', w4, h1, h2, h3, _, h5⟩ := run_append_own_at (P := Tryz.prog) (w2.alloc (.cells u.cells 43)) base 38 ty 43 i0 IV.zero.val 7 88 underlying38 hi hz0 hz1 hz2 rfl (by decide) v k _ (own.alloc _) ⟨w2.heap.size, 0, none⟩ 1 1 u.cells.toList (by simp) (cells_new _ _ _) (by intro x hx; simp at hx; rcases hx with rfl | rfl | rfl | rfl | rfl | rfl | rfl <;> rfl) (by simp only [maxLen]; omega) (by omega) (by simp; omega)
 exact ⟨v', w4, h1, h2, h3, by simpa using h5⟩

theorem app_blk {w2 : World} {base k : Nat} {v : Value} {xs : List Value} (own : w2.ownsRow base 40 1 v k xs) (hk : k ≤ 1000) (hbase : base ≤ w2.heap.size) (u : Sl) (ty : TypeId) :
  ∃ v' w4, (Builtin.append_ #[34, 34] ty #[v, .slice (some ⟨w2.heap.size, 0, none⟩) 1 1]).run Tryz.prog (w2.alloc (.cells #[slv u] 40)) = .ok v' w4 ∧ w4.ownsRow base 40 1 v' (k + 1) (xs ++ [slv u]) ∧
   (w2.alloc (.cells #[slv u] 40)).grownBy w4 v.ownBlock ∧ (v'.ownBlock = v.ownBlock ∨ v'.ownBlock = some (w2.heap.size + 1)) := by
 obtain ⟨i0, hi, hz0, hz1, hz2⟩ := info_parts info40
 obtain ⟨v', w4, h1, h2, h3, _, h5⟩ := run_append_own_at (P := Tryz.prog) (w2.alloc (.cells #[slv u] 40)) base 34 ty 40 i0 (.agg #[.slice none 0 0]) 1 24 underlying34 hi hz0 hz1 hz2 rfl (by decide) v k _ (own.alloc _) ⟨w2.heap.size, 0, none⟩ 1 1 [slv u] rfl (cells_new _ #[slv u] _) (by intro x hx; simp at hx; subst hx; rfl) (by simp only [maxLen]; omega) (by omega) (by simp; omega)
 exact ⟨v', w4, h1, h2, h3, by simpa using h5⟩

theorem in_step {F : FV} {w wx w2 w4 : World} {Gb Bb j k : Nat} {sp bs vs ta ti : Sl} {v' : Value} {S : Id → Sl} (p : Part F (w.heap.size + 2) (fun g => Xs w Gb g ∨ g = Bb) wx j k (slv vs) (slv bs) sp S) (e : Env F w Gb sp bs wx)
  (hc : wx.cell? ⟨Bb, 0, none⟩ = some (slv vs)) (hf : wx.frozen? ⟨Bb, 0, none⟩ = false) (hgb : Gb < Bb) (hbz : Bb < wx.heap.size)
  (tw : Copy.Twin wx.drew.heap.size w2.heap.size w2 ta ti (F.I j k) (F.A j k) (F.J j k)) (hb2 : Below wx.drew.heap.size wx.drew w2)
  (own4 : w4.ownsRow (w.heap.size + 2) 43 7 v' (k + 1) (flat (cpI F S j) k ++ ({ F.I j k with args := ta, into := ti } : IV).cells.toList))
  (gr : (w2.alloc (.cells ({ F.I j k with args := ta, into := ti } : IV).cells 43)).grownBy w4 (slv vs).ownBlock)
  (hat : v'.ownBlock = (slv vs).ownBlock ∨ v'.ownBlock = some (w2.heap.size + 1)) : InS F w Gb Bb sp bs j (k + 1) (w4.setCell ⟨Bb, 0, none⟩ v') := by
 obtain ⟨vs', rfl⟩ := owns_slv own4
 have ge := e.ge
 have hlt := e.lt
 have hzw : wx.drew.heap.size = wx.heap.size := rfl
 have p0 := p.on (Below.drew (same wx))
 have p4 := p0.step (v' := slv vs') hb2 tw (by rw [hzw]; omega) own4 gr hat
 have z2 := hb2.size
 have z4 := gr.size
 simp only [World.size_alloc] at z4
 have hbk : ∀ g, (Xs w Gb g ∨ g = Bb) → g < wx.heap.size → w4.heap[g]? = wx.heap[g]? := fun g hg hgz => by
  rw [gr.block g (by simp; omega) (fun h => p.avv g h.symm hg), Below.heap_alloc _ _ _ (by omega), hb2.block g (by omega)]; rfl
 have lo4 : Below w.heap.size w w4 := by
  have l2 : Below w.heap.size w w2 := (e.low.trans (Below.drew (Below.refl _ wx))).trans (hb2.mono (by have := e.low.size; omega))
  refine (l2.alloc l2.size _).grown gr (by simp; have := l2.size; omega) (fun g hg => ?_)
  have := (p.cur.lt g hg).1
  omega
 have e4 : Env F w Gb sp bs w4 := e.to (by omega) (fun g hg => hbk g (.inl hg) (e.xlt g hg)) lo4
 have nb : ¬ Xs w Gb Bb := fun h => by rcases h with h | h | h <;> omega
 refine ⟨vs', _, p4.write (a := ⟨Bb, 0, none⟩) (.inr rfl) _, e4.to (by simp) (fun g hg => Below.heap_setCell _ _ _ _ (fun h => nb (by have h' : g = Bb := h; rw [← h']; exact hg))) (lo4.setCell (by show _ ≤ Bb; omega) _), ?_, ?_, hgb, by simp; omega⟩
 ·refine cell_same (u := slv vs) ?_
  rw [World.cell?_of_block (w := wx) (hbk Bb (.inr rfl) hbz)]; exact hc
 ·rw [World.frozen?_setCell, World.frozen?_of_block (w := wx) (hbk Bb (.inr rfl) hbz)]; exact hf

theorem out_step {F : FV} {w wx w5 : World} {Gb Bb j : Nat} {sp bs vs : Sl} {v' : Value} {S : Id → Sl} (p : Part F (w.heap.size + 2) (fun g => Xs w Gb g ∨ g = Bb) wx j (F.B j).n (slv vs) (slv bs) sp S) (e : Env F w Gb sp bs wx) (hn : (F.B j).n ≤ 1000)
  (own5 : w5.ownsRow (w.heap.size + 2) 40 1 v' (j + 1) ((List.range j).map (fun a => slv (S (.row a))) ++ [slv vs]))
  (gr : (wx.alloc (.cells #[slv vs] 40)).grownBy w5 (slv bs).ownBlock) (hat : v'.ownBlock = (slv bs).ownBlock ∨ v'.ownBlock = some (wx.heap.size + 1)) : OutS F w Gb sp (j + 1) (w5.setCell ⟨Gb, 4, none⟩ v') := by
 obtain ⟨bs', rfl⟩ := owns_slv own5
 have ge := e.ge
 have hlt := e.lt
 have p5 := (p.next (bv' := slv bs') hn own5 gr hat).less (Y := Xs w Gb) (fun g h => .inl h)
 have z5 := gr.size
 simp only [World.size_alloc] at z5
 have hbk : ∀ g, Xs w Gb g → w5.heap[g]? = wx.heap[g]? := fun g hg => by
  rw [gr.block g (by simp; have := e.xlt g hg; omega) (fun h => p.avb g h.symm (.inl hg)), Below.heap_alloc _ _ _ (e.xlt g hg)]
 have lo5 : Below w.heap.size w w5 := by
  refine (e.low.alloc e.low.size _).grown gr (by simp; have := e.low.size; omega) (fun g hg => ?_)
  have := (p.blks.lt g hg).1
  omega
 have e5 : Env F w Gb sp bs w5 := e.to (by omega) hbk lo5
 obtain ⟨c0, c1, c2, c3, c4⟩ := e5.fg
 refine ⟨bs', _, p5.write (a := ⟨Gb, 4, none⟩) (.inl rfl) _, ⟨⟨?_, ?_, ?_, ?_, ?_⟩, ?_, ?_, fun i => by rw [World.frozen?_setCell]; exact e5.zg i, fun i => by rw [World.frozen?_setCell]; exact e5.zz i, lo5.setCell (by show _ ≤ Gb; omega) _, by simp; omega, ge⟩⟩
 ·exact cell_other (ne_off (by omega)) c0
 ·exact cell_other (ne_off (by omega)) c1
 ·exact cell_other (ne_off (by omega)) c2
 ·exact cell_other (ne_off (by omega)) c3
 ·exact cell_same c4
 ·exact e5.ff.kept ((Kept.refl (fun k => k ≠ Gb) w5).setCell (a := ⟨Gb, 4, none⟩) (fun h => h rfl) _) (by show _ ≠ _; omega)
 ·exact e5.fz.kept ((Kept.refl (fun k => k ≠ Gb) w5).setCell (a := ⟨Gb, 4, none⟩) (fun h => h rfl) _) (by show _ ≠ _; omega)

theorem in_start {F : FV} {w wr : World} {Gb j : Nat} {sp bs : Sl} {S : Id → Sl} (p : Part F (w.heap.size + 2) (Xs w Gb) wr j 0 (.slice none 0 0) (slv bs) sp S) (e : Env F w Gb sp bs wr) :
  InS F w Gb wr.heap.size sp bs j 0 (wr.alloc (.cells #[.slice none 0 0] 40)) :=
 ⟨⟨none, 0, 0⟩, S, p.alloc _, e.on (new (same _) _), by simp, by simp, e.lt, by simp⟩

def CopyOfR (F : FV) (w : World) (e : Ending) (w' : World) : Prop :=
 ∃ T at_, e = .returned (FV.val T) ∧ Own w.heap.size w' T at_ ∧ Light T ∧ Twins F T ∧ Below w.heap.size w w' ∧ Caps w' T

theorem out_end {F : FV} {w wr : World} {Gb : Nat} {sp bs : Sl} {S : Id → Sl} (p : Part F (w.heap.size + 2) (Xs w Gb) wr F.blk.n 0 (.slice none 0 0) (slv bs) sp S) (e : Env F w Gb sp bs wr) (hl : Light F) (x0 x1 x2 x3 x4 : Value) :
  CopyOfR F w (.returned ({ F with par := sp, blk := bs } : FV).val) (((((wr.setCell ⟨w.heap.size + 1, 0, none⟩ x0).setCell ⟨w.heap.size + 1, 1, none⟩ x1).setCell ⟨w.heap.size + 1, 2, none⟩ x2).setCell ⟨w.heap.size + 1, 3, none⟩ x3).setCell ⟨w.heap.size + 1, 4, none⟩ x4) := by
 have q := ((((p.write (a := ⟨w.heap.size + 1, 0, none⟩) (.inr (.inr rfl)) x0).write (a := ⟨w.heap.size + 1, 1, none⟩) (.inr (.inr rfl)) x1).write (a := ⟨w.heap.size + 1, 2, none⟩) (.inr (.inr rfl)) x2).write (a := ⟨w.heap.size + 1, 3, none⟩) (.inr (.inr rfl)) x3).write (a := ⟨w.heap.size + 1, 4, none⟩) (.inr (.inr rfl)) x4
 obtain ⟨bs', eb, own, li, hn, hcap⟩ := q.whole hl
 obtain rfl : bs = bs' := by
  have h1 : bs.a = bs'.a ∧ bs.n = bs'.n ∧ bs.c = bs'.c := by simpa [slv] using eb
  cases bs; cases bs'; simp at h1; simp [h1]
 have dRow : ∀ a, a < F.blk.n → (S (.row a)).n = (F.B a).n := fun a ha => p.len (.row a) ha
 refine ⟨cpF F sp bs S, _, rfl, own.less (by omega), li, ⟨rfl, rfl, rfl, p.pn, rfl, hn, dRow, fun _ _ _ _ => rfl, fun _ _ _ _ => rfl, fun _ _ _ _ => rfl, fun _ _ _ _ => rfl, fun _ _ _ _ => rfl, fun j hj k hk => p.len (.arg j k) (.inl ⟨hj, hk⟩), fun j hj k hk => p.len (.int j k) (.inl ⟨hj, hk⟩), rfl, rfl⟩, ?_, hcap⟩
 repeat (refine Below.setCell ?_ (by simp) _)
 exact e.low

end Go.Proofs.YtolipafcoolpgaaGreat.Own
