/-
  Wfk, TyIr, Wfz: laid together.
-/
import Derived.Test.YtolipafcoolpgaaGreatJ8
import Derived.Test.YtolipafcoolpgaaGreatChkS
import Derived.Test.YtolipafcoolpgaaGreatJ1
import Derived.Test.YtolipafcoolpgaaGreatWfy
import Derived.Test.YtolipafcoolpgaaGreatJ15
import Derived.Test.YtolipafcoolpgaaGreatJ10
import Derived.Test.YtolipafcoolpgaaGreatJ14
import Derived.Test.YtolipafcoolpgaaGreatWfb
import Derived.Test.YtolipafcoolpgaaGreatJ7
/-
  wf: what a Sym names.
-/
namespace Go.Proofs.YtolipafcoolpgaaGreat.Wf
open Go.RowKit View Rd Num Opn Copy Srt Go.Proofs.YtolipafcoolpgaaGreat.Mod Chk

set_option linter.unusedVariables false

def plB (a b : Int) : Bool := decide (0 ≤ a) && decide (a < b)

theorem isPlace_any (a b : Int) (w : World) : Calls Tryz.prog 75 #[.int .i64 a, .int .i64 b] w fun e w' => e = .returned (.bool (plB a b)) ∧ w' = w := by
 by_cases h1 : 0 ≤ a
 all_goals
  by_cases h2 : a < b
  all_goals
   go_enter Tryz.func75, Tryz.ntmps75
   go_wp2
   go_ret
   exact ⟨congrArg (fun b => Ending.returned (.bool b)) (show _ = plB a b by simp [plB]; try omega), rfl⟩

theorem plB_iff {a b : Int} : plB a b = true ↔ 0 ≤ a ∧ a < b := by simp [plB]
theorem plB_not {a b : Int} : plB a b = false ↔ ¬ (0 ≤ a ∧ a < b) := by rw [← plB_iff]; simp

structure MBox (M : MV) (w : World) (c : Addr) : Prop where
 c0 : w.cell? ⟨c.block, c.off, none⟩ = some (.slice M.ext.a M.ext.n M.ext.c)
 c1 : w.cell? ⟨c.block, c.off + 1, none⟩ = some (.slice M.glo.a M.glo.n M.glo.c)
 c2 : w.cell? ⟨c.block, c.off + 2, none⟩ = some (.slice M.tab.a M.tab.n M.tab.c)
 c3 : w.cell? ⟨c.block, c.off + 3, none⟩ = some (.slice M.fns.a M.fns.n M.fns.c)

theorem MBox.on {M : MV} {w w' : World} {c : Addr} (hb : Below w.heap.size w w') (h : MBox M w c) : MBox M w' c := ⟨cell_on hb h.c0, cell_on hb h.c1, cell_on hb h.c2, cell_on hb h.c3⟩

theorem ansNot {w w' : World} {q : Prop} (b : Bool) (hb : b = true ↔ q) (lo : Below w.heap.size w w') : Ans (fun r => r = true ↔ ¬ q) w (.returned (.bool !b)) w' :=
 ⟨!b, rfl, by cases b <;> simp_all, lo⟩

theorem symi_any (M : MV) (b : Nat) (x : Int) (w : World) (hm : MBox M w ⟨b, 0, none⟩) : Calls Tryz.prog 74 #[.int .i64 x, .pointer (some ⟨b, 0, none⟩)] w fun e w' => Ans (fun r => r = true ↔ ¬ (-1 ≤ x ∧ x < M.fns.n)) w e w' := by
 have c3 : w.cell? ⟨b, 3, none⟩ = some (.slice M.fns.a M.fns.n M.fns.c) := by have := hm.c3; simpa using this
 by_cases h1 : x = -1
 ·have t1 : (x != -1) = false := by simpa using h1
  have HX := hid h1
  clear h1 hm
  go_enter Tryz.func74, Tryz.ntmps74
  go_wp2_with fail
  go_ret
  exact ⟨false, rfl, by have := HX.out; simp; omega, same w⟩
 ·have t1 : (x != -1) = true := by simpa using h1
  have HX := hid h1
  clear h1 hm
  go_enter Tryz.func74, Tryz.ntmps74
  go_wp2_with (go_at_call 75; refine (isPlace_any _ _ _).mono ?_; rintro e w1 ⟨rfl, hw1⟩; rw [hw1]; clear hw1; cases hp : plB x M.fns.n)
  all_goals
   go_ret
   refine ⟨_, rfl, ?_, same w⟩
   have hq := HX.out
   first
    | rw [plB_iff] at hp; simp; omega
    | rw [plB_not] at hp; simp; omega

theorem form_sym {v : IV} (h : formB v = true) (h2 : v.op ≠ 2) (h3 : v.op ≠ 3) (h22 : v.op ≠ 22) (h23 : v.op ≠ 23) (h24 : v.op ≠ 24) : v.sym = 0 := by
 unfold formB at h
 simp only [Bool.and_eq_true, Bool.or_eq_true, decide_eq_true_eq] at h
 obtain ⟨⟨⟨⟨⟨_, hs⟩, _⟩, _⟩, _⟩, _⟩ := h
 have hm : (mk v.op).s = false := by
  unfold mk
  repeat' split
  all_goals first
   | rfl
   | omega
 rcases hs with hs | hs
 ·rw [hm] at hs; cases hs
 ·exact hs

set_option maxHeartbeats 2000000 in
theorem insSym_any (M : MV) (v : IV) (w : World) (hf : formB v = true) : Calls Tryz.prog 78 #[M.val, v.val] w fun e w' => Ans (fun r => r = true ↔ ¬ SymI M v) w e w' := by
 have hlow := hid (show ∀ o1 o2, Below w.heap.size w ((w.alloc o1).alloc o2) from fun o1 o2 => new (new (same w) _) _)
 by_cases h2 : v.op = 2
 ·have HN := hid (show symN M v.op = M.fns.n by simp [symN, h2])
  have t1 : (v.op == 2) = true := by simpa using h2
  clear h2 hf
  go_enter Tryz.func78, Tryz.ntmps78
  go_wp2_with (go_at_call 75; refine (isPlace_any _ _ _).mono ?_; rintro e w1 ⟨rfl, hw1⟩; rw [hw1]; clear hw1; cases hp : plB v.sym M.fns.n)
  all_goals
   go_ret
   refine ⟨_, rfl, ?_, hlow.out _ _⟩
   have hn := HN.out
   unfold SymI
   rw [hn]
   first
    | rw [plB_iff] at hp; simp [hp]
    | rw [plB_not] at hp; simpa using hp
 have t2 : (v.op == 2) = false := by rw [beq_eq_false_iff_ne]; exact h2
 by_cases h22 : v.op = 22
 ·have HN := hid (show symN M v.op = M.fns.n by simp [symN, h22])
  have t1 : (v.op == 22) = true := by simpa using h22
  clear h2 h22 hf
  go_enter Tryz.func78, Tryz.ntmps78
  go_wp2_with (go_at_call 75; refine (isPlace_any _ _ _).mono ?_; rintro e w1 ⟨rfl, hw1⟩; rw [hw1]; clear hw1; cases hp : plB v.sym M.fns.n)
  all_goals
   go_ret
   refine ⟨_, rfl, ?_, hlow.out _ _⟩
   have hn := HN.out
   unfold SymI
   rw [hn]
   first
    | rw [plB_iff] at hp; simp [hp]
    | rw [plB_not] at hp; simpa using hp
 have t22 : (v.op == 22) = false := by rw [beq_eq_false_iff_ne]; exact h22
 by_cases h3 : v.op = 3
 ·have HN := hid (show symN M v.op = M.glo.n by simp [symN, h3])
  have t1 : (v.op == 3) = true := by simpa using h3
  clear h2 h22 h3 hf
  go_enter Tryz.func78, Tryz.ntmps78
  go_wp2_with (go_at_call 75; refine (isPlace_any _ _ _).mono ?_; rintro e w1 ⟨rfl, hw1⟩; rw [hw1]; clear hw1; cases hp : plB v.sym M.glo.n)
  all_goals
   go_ret
   refine ⟨_, rfl, ?_, hlow.out _ _⟩
   have hn := HN.out
   unfold SymI
   rw [hn]
   first
    | rw [plB_iff] at hp; simp [hp]
    | rw [plB_not] at hp; simpa using hp
 have t3 : (v.op == 3) = false := by rw [beq_eq_false_iff_ne]; exact h3
 by_cases h23 : v.op = 23
 ·have HN := hid (show symN M v.op = M.ext.n by simp [symN, h23])
  have t1 : (v.op == 23) = true := by simpa using h23
  clear h2 h22 h3 h23 hf
  go_enter Tryz.func78, Tryz.ntmps78
  go_wp2_with (go_at_call 75; refine (isPlace_any _ _ _).mono ?_; rintro e w1 ⟨rfl, hw1⟩; rw [hw1]; clear hw1; cases hp : plB v.sym M.ext.n)
  all_goals
   go_ret
   refine ⟨_, rfl, ?_, hlow.out _ _⟩
   have hn := HN.out
   unfold SymI
   rw [hn]
   first
    | rw [plB_iff] at hp; simp [hp]
    | rw [plB_not] at hp; simpa using hp
 have t23 : (v.op == 23) = false := by rw [beq_eq_false_iff_ne]; exact h23
 by_cases h24 : v.op = 24
 ·have HN := hid (show symN M v.op = M.tab.n by simp [symN, h24])
  have t1 : (v.op == 24) = true := by simpa using h24
  clear h2 h22 h3 h23 h24 hf
  go_enter Tryz.func78, Tryz.ntmps78
  go_wp2_with (go_at_call 75; refine (isPlace_any _ _ _).mono ?_; rintro e w1 ⟨rfl, hw1⟩; rw [hw1]; clear hw1; cases hp : plB v.sym M.tab.n)
  all_goals
   go_ret
   refine ⟨_, rfl, ?_, hlow.out _ _⟩
   have hn := HN.out
   unfold SymI
   rw [hn]
   first
    | rw [plB_iff] at hp; simp [hp]
    | rw [plB_not] at hp; simpa using hp
 have t24 : (v.op == 24) = false := by rw [beq_eq_false_iff_ne]; exact h24
 have HS := hid (show SymI M v from by
  have hs0 := form_sym hf h2 h3 h22 h23 h24
  unfold SymI symN
  rw [if_neg (by omega), if_neg h3, if_neg h23, if_neg h24, hs0]
  omega)
 clear h2 h22 h3 h23 h24 hf
 go_enter Tryz.func78, Tryz.ntmps78
 go_wp2_with fail
 go_ret
 exact ⟨false, rfl, by have := HS.out; simp; exact this, hlow.out _ _⟩

theorem symI_any (M : MV) (b : Nat) (v : IV) (w : World) (hm : MBox M w ⟨b, 0, none⟩) (hf : formB v = true) : Calls Tryz.prog 77 #[v.val, .pointer (some ⟨b, 0, none⟩)] w fun e w' => Ans (fun r => r = true ↔ ¬ SymI M v) w e w' := by
 have c0 : w.cell? ⟨b, 0, none⟩ = some (.slice M.ext.a M.ext.n M.ext.c) := by have := hm.c0; simpa using this
 have c1 : w.cell? ⟨b, 1, none⟩ = some (.slice M.glo.a M.glo.n M.glo.c) := by have := hm.c1; simpa using this
 have c2 : w.cell? ⟨b, 2, none⟩ = some (.slice M.tab.a M.tab.n M.tab.c) := by have := hm.c2; simpa using this
 have c3 : w.cell? ⟨b, 3, none⟩ = some (.slice M.fns.a M.fns.n M.fns.c) := by have := hm.c3; simpa using this
 have hbl : b < w.heap.size := World.block_lt_of_cell? _ _ c0
 clear hm
 go_enter Tryz.func77, Tryz.ntmps77
 go_wp2_with (go_at_call 78; refine (insSym_any M v _ hf).mono ?_; rintro e w1 ⟨r, rfl, hr, hb⟩; have HR := hid hr; have HB := hid hb; clear hr hb)
 go_ret
 exact ⟨r, rfl, HR.out, View.more (new (same w) _) HB.out⟩

set_option maxRecDepth 10000 in
set_option maxHeartbeats 4000000 in
theorem symFault_any (M : MV) (w : World) (hM : InM w M) (hs : SmallM M) (hF : FormM M) : Calls Tryz.prog 29 #[M.val] w fun e w' => Ans (fun r => r = true ↔ ¬ SymM M) w e w' := by
 have x1 := hs.ext
 have x2 := hs.glo
 have x3 := hs.tab
 have x4 := hs.fns
 obtain ⟨W, hW⟩ : ∃ W, w.alloc (.cells (mcells M) 27) = W := ⟨_, rfl⟩
 have BX := hid (show MBox M W ⟨w.heap.size, 0, none⟩ by rw [← hW]; constructor <;> simp)
 have b2 : W.cell? ⟨w.heap.size, 2, none⟩ = some (.slice M.tab.a M.tab.n M.tab.c) := by have := BX.out.c2; simpa using this
 have HM := hid (show InM W M by rw [← hW]; exact hM.on (new (same w) _))
 have LW := hid (show Below w.heap.size w W by rw [← hW]; exact new (same w) _)
 have HS := hid hs
 have HF := hid hF
 have HWW := hid hW
 clear hM hs hF hW
 go_enter Tryz.func29, Tryz.ntmps29
 go_wp2_with fail
 simp only [HWW.out]
 clear HWW
 go_loopw [15] (fun iv wr => ∃ i : Nat, i ≤ M.tab.n ∧ iv = .int .i64 i ∧ (∀ t, t < i → ∀ k, k < (M.T t).cel.n → -1 ≤ M.TF t k ∧ M.TF t k < M.fns.n) ∧ Below W.heap.size W wr) (fun iv _ => M.tab.n - (intOf iv).toNat)
 case atStart => exact ⟨0, Nat.zero_le _, rfl, fun t ht => by omega, same _⟩
 case round =>
  obtain ⟨i, hi, rfl, hall, hb⟩ := hrel
  have HA := hid (And.intro hall hb)
  have b2 : wr.cell? ⟨w.heap.size, 2, none⟩ = some (.slice M.tab.a M.tab.n M.tab.c) := by have := (BX.out.on hb).c2; simpa using this
  by_cases li : i < M.tab.n
  ·obtain ⟨rb, ro, hrx, hrA⟩ := HM.out.tab.at underlying24 size49 li
   have r0 := cell_on hb hrA.c0
   have r1 := cell_on hb hrA.c1
   have gr := (HS.out.tabI i li).2
   clear hrA hall hb
   go_wp2_with fail
   refine (has_symi (M.T i).cel (M.TF i) (fun k => ¬ (-1 ≤ M.TF i k ∧ M.TF i k < M.fns.n)) ⟨w.heap.size, 0, none⟩ _ (by omega) (fun wx h => (HM.out.tabF i li).on (View.more (View.more HA.out.2 (new (same wr) _)) h)) (fun k hk wx h => symi_any M _ _ wx (BX.out.on (View.more (View.more HA.out.2 (new (same wr) _)) h)))).mono ?_
   rintro e w1 ⟨r, rfl, hr, hb⟩
   have B1 := hid (View.more (View.more HA.out.2 (new (same wr) _)) hb)
   have R := hid hr
   clear hr hb
   cases r with
   | true =>
    have D := hid (show ¬ SymM M from fun h => by obtain ⟨k, h1, h2⟩ := R.out.1 rfl; exact h2 (h.tab i li k h1))
    go_wp2_with fail
    go_ret
    exact ⟨true, rfl, ⟨fun _ => D.out, fun _ => rfl⟩, View.more LW.out B1.out⟩
   | false =>
    have P1 := hid (show ∀ k, k < (M.T i).cel.n → -1 ≤ M.TF i k ∧ M.TF i k < M.fns.n from fun k hk => by
     by_cases q : -1 ≤ M.TF i k ∧ M.TF i k < M.fns.n
     ·exact q
     ·exact absurd (R.out.2 ⟨k, hk, q⟩) (by simp))
    clear R
    go_wp2_with fail
    go_round
    case rel => exact ⟨i + 1, by omega, by go_num, upto2 (p := fun t => ∀ k, k < (M.T t).cel.n → -1 ≤ M.TF t k ∧ M.TF t k < M.fns.n) HA.out.1 P1.out, B1.out⟩
    case measure => simp [intOf]; omega
  ·obtain rfl : i = M.tab.n := by omega
   have m3 : wr.cell? ⟨w.heap.size, 3, none⟩ = some (.slice M.fns.a M.fns.n M.fns.c) := by have := (BX.out.on hb).c3; simpa using this
   clear hall hb
   go_wp2_with fail
   clear b2 m3
   go_loopw [28] (fun iv wr => ∃ i : Nat, i ≤ M.fns.n ∧ iv = .int .i64 i ∧ (∀ t, t < i → ∀ j, j < (M.F t).blk.n → ∀ k, k < ((M.F t).B j).n → SymI M ((M.F t).I j k)) ∧ Below W.heap.size W wr) (fun iv _ => M.fns.n - (intOf iv).toNat)
   case atStart => exact ⟨0, Nat.zero_le _, rfl, fun t ht => by omega, HA.out.2⟩
   case round =>
    have HX := hid HA.out.1
    clear HA
    obtain ⟨i, hi, rfl, hall, hb⟩ := hrel
    have HA := hid (And.intro hall hb)
    have m3 : wr.cell? ⟨w.heap.size, 3, none⟩ = some (.slice M.fns.a M.fns.n M.fns.c) := by have := (BX.out.on hb).c3; simpa using this
    by_cases li : i < M.fns.n
    ·obtain ⟨fb, fo, hfx, hFA⟩ := HM.out.fns.at underlying25 size36 li
     have F4 := hid hFA.c4
     obtain ⟨f0, f1, f2, f3, f4⟩ := hFA.on hb
     have LF := hid (HS.out.light i li)
     have gb := LF.out.blk
     clear hFA hall hb
     go_wp2_with fail
     clear m3 f0 f1 f2 f3 f4
     go_loopw [35] (fun iv wx => ∃ j : Nat, j ≤ (M.F i).blk.n ∧ iv = .int .i64 j ∧ (∀ t, t < j → ∀ k, k < ((M.F i).B t).n → SymI M ((M.F i).I t k)) ∧ Below W.heap.size W wx) (fun iv _ => (M.F i).blk.n - (intOf iv).toNat)
     case atStart => exact ⟨0, Nat.zero_le _, rfl, fun t ht => by omega, View.more HA.out.2 (new (same wr) _)⟩
     case round =>
      obtain ⟨j, hj, rfl, hall, hb⟩ := hrel
      have HJ := hid (And.intro hall hb)
      by_cases lj : j < (M.F i).blk.n
      ·obtain ⟨bb, bo, hbx, hbc0⟩ := (HM.out.fnI i li).blk.at lj
       have hbc := cell_on hb hbc0
       have gi := LF.out.ins j lj
       clear hbc0 hall hb
       go_wp2_with fail
       refine (has_symI ((M.F i).B j) ((M.F i).I j) (fun k => ¬ SymI M ((M.F i).I j k)) ⟨w.heap.size, 0, none⟩ _ (by omega) (fun wx h => ((HM.out.fnI i li).ins j lj).on (View.more (View.more HJ.out.2 (new (same wr) _)) h)) (fun k hk wx h => symI_any M _ _ wx (BX.out.on (View.more (View.more HJ.out.2 (new (same wr) _)) h)) ((HF.out.fns i li).2.2 j lj k hk))).mono ?_
       rintro e w1 ⟨r, rfl, hr, hb⟩
       have B1 := hid (View.more (View.more HJ.out.2 (new (same wr) _)) hb)
       have R := hid hr
       clear hr hb
       cases r with
       | true =>
        have D := hid (show ¬ SymM M from fun h => by obtain ⟨k, h1, h2⟩ := R.out.1 rfl; exact h2 (h.ins i li j lj k h1))
        go_wp2_with fail
        go_ret
        exact ⟨true, rfl, ⟨fun _ => D.out, fun _ => rfl⟩, View.more LW.out B1.out⟩
       | false =>
        have P1 := hid (show ∀ k, k < ((M.F i).B j).n → SymI M ((M.F i).I j k) from fun k hk => by
         by_cases q : SymI M ((M.F i).I j k)
         ·exact q
         ·exact absurd (R.out.2 ⟨k, hk, q⟩) (by simp))
        clear R
        go_wp2_with fail
        go_round
        case rel => exact ⟨j + 1, by omega, by go_num, upto2 (p := fun t => ∀ k, k < ((M.F i).B t).n → SymI M ((M.F i).I t k)) HJ.out.1 P1.out, B1.out⟩
        case measure => simp [intOf]; omega
      ·obtain rfl : j = (M.F i).blk.n := by omega
       clear hall hb
       go_wp2_with fail
       go_round
       case rel =>
        have f := upto2 (p := fun t => ∀ j, j < (M.F t).blk.n → ∀ k, k < ((M.F t).B j).n → SymI M ((M.F t).I j k)) HA.out.1 HJ.out.1
        first
         | exact ⟨i + 1, by omega, by go_num, f, HJ.out.2⟩
         | ((repeat apply Exists.intro); exact ⟨⟨i + 1, by omega, by go_num, f, HJ.out.2⟩, rfl⟩)
       case measure => simp [intOf]; omega
    ·obtain rfl : i = M.fns.n := by omega
     have HB := hid hb
     clear hall hb
     go_wp2_with fail
     go_ret
     exact ⟨false, rfl, ⟨fun h => absurd h (by simp), fun h => absurd ⟨HX.out, HA.out.1⟩ h⟩, View.more LW.out HB.out⟩

end Go.Proofs.YtolipafcoolpgaaGreat.Wf

/-
  The types of a function's values, by the program: ir.Types.
-/
namespace Go.Proofs.YtolipafcoolpgaaGreat.Ty
open Go.RowKit View Rd Copy

set_option linter.unusedVariables false

set_option maxHeartbeats 1000000 in
theorem types_ir (F : FV) (w : World) (hF : In w F) (hl : Light F) :
  Calls Tryz.prog 82 #[F.val] w fun e w' => Lists (typesL F) w e w' := by
 have HF := hid hF
 have HL := hid hl
 have gp := hl.par
 have gb := hl.blk
 have GG : Hid (∀ j, j ≤ F.blk.n → cnt (fun j => giv (F.I j) (F.B j).n) j ≤ j * 400) := fun j hj => cnt_le (fun i hi => Nat.le_trans (giv_le _ _) (hl.ins i (by omega)))
 clear hF hl
 go_enter Tryz.func82, Tryz.ntmps82
 have r0 : ((w.alloc (.cells (fcells F) 36)).alloc (.cells #[.int .i64 0] 3)).ownsRow (w.heap.size + 1) 3 1 (.slice (some ⟨w.heap.size + 1, 0, none⟩) 1 1) 1 (([0] : List Int).map (Value.int .i64)) :=
  ⟨rfl, .inr ⟨w.heap.size + 1, 1, #[.int .i64 0], rfl, Nat.le_refl _, by have := heap_alloc_new (w.alloc (.cells (fcells F) 36)) (.cells #[.int .i64 0] 3); simpa using this, Nat.le_refl _, by decide, rfl, rfl⟩⟩
 have R0 := hid r0
 clear r0
 go_wp2_with (at_builtin; refine append_in rfl (.tmp 8) (.tmp 10) rfl (w.heap.size + 1) _ 1 [0] rfl R0.out F.par F.P rfl (HF.out.par.on (new (new (same w) _) _)) (by omega) (by simp) ?_; intro v1 w1 hown1 hgr1; have f1 : FuncAt w1 w.heap.size F := (FuncAt.grown ((FuncAt.alloc w F).on (new (same _) _)) hgr1 (fun k hk => by have := (R0.out.lt k hk).1; omega)); have F1 := hid f1; obtain ⟨c0, c1, c2, c3, c4⟩ := f1)
 have b1 : Below w.heap.size w w1 := (new (new (same w) _) _).grown hgr1 (by simp; omega) (fun k hk => by have := (R0.out.lt k hk).1; omega)
 have f1 := F1.out
 have e1 : 1 + F.par.n = (pre F 0 0).length := by simp [pre, tyAll, tyRow, row_length]; omega
 have e2 : ([0] : List Int) ++ row F.P F.par.n = pre F 0 0 := by simp [pre, tyAll, tyRow]
 rw [e1, e2] at hown1
 have O1 := hid hown1
 clear e1 e2
 have FB := hid (And.intro f1 b1)
 clear hown1 hgr1 b1 R0 f1 F1
 go_wp2_with fail
 go_loopw [3, 15] (fun v i wr => ∃ j : Nat, j ≤ F.blk.n ∧ i = .int .i64 j ∧ wr.ownsRow (w.heap.size + 1) 3 1 v (pre F j 0).length ((pre F j 0).map (Value.int .i64)) ∧ w.heap.size < wr.heap.size ∧ Below w.heap.size w wr) (fun _ i _ => F.blk.n - (intOf i).toNat)
 case atStart => exact ⟨0, Nat.zero_le _, rfl, O1.out, World.block_lt_of_cell? _ _ FB.out.1.c0, FB.out.2⟩
 case round =>
  clear O1 FB c0 c1 c2 c3 c4
  obtain ⟨j, hj, rfl, hown, hws, hb⟩ := hrel
  have HO := hid hown
  clear hown
  by_cases hlt : j < F.blk.n
  ·obtain ⟨bb, oo, hix, hck⟩ := (HF.out.blk.on hb).at hlt
   have g1 := GG.out j hj
   have g5 := HL.out.ins j hlt
   go_wp2_with fail
   go_loopw [3, 22] (fun v i wx => ∃ t : Nat, t ≤ (F.B j).n ∧ i = .int .i64 t ∧ wx.ownsRow (w.heap.size + 1) 3 1 v (pre F j t).length ((pre F j t).map (Value.int .i64)) ∧ w.heap.size < wx.heap.size ∧ Below w.heap.size w wx) (fun _ i _ => (F.B j).n - (intOf i).toNat)
   case atStart => exact ⟨0, Nat.zero_le _, rfl, owns_on (new (same _) _) HO.out, by simp; omega, new hb _⟩
   case round =>
    clear HO hb hck hws
    obtain ⟨t, ht, rfl, hown, hws, hb⟩ := hrel
    have HO := hid hown
    clear hown
    by_cases htl : t < (F.B j).n
    ·obtain ⟨ib, io, hiy, i0, i1, i2, i3, i4, i5, i6⟩ := ((HF.out.ins j hlt).on hb).at htl
     have hlen : (pre F j t).length ≤ 1000000 := by rw [pre_length]; have := giv_le (F.I j) t; omega
     go_wp2_with fail
     refine (gives_any (F.I j t) _).mono ?_
     rintro e w2 ⟨rfl, hb2⟩
     have hb3 := more (new hb _) hb2
     have hz2 := hb2.size
     simp only [World.size_alloc] at hz2
     have HO2 := hid (owns_on hb2 (owns_on (new (same _) (.cells (F.I j t).cells 43)) HO.out))
     have d1 : w2.cell? ⟨wr.heap.size, 1, none⟩ = some (.int .i64 (F.I j t).ty) := by have := ((InsAt.alloc wr (F.I j t)).on hb2).c1; simpa using this
     clear HO i0 i1 i2 i3 i4 i5 i6 hb2
     by_cases hty : (F.I j t).ty = 0
     ·have t1 : ((F.I j t).ty != 0) = false := by simp [hty]
      have HTY := hid hty
      clear hty
      go_wp2_with fail
      go_round
      case rel => exact ⟨t + 1, by omega, by go_num, by rw [pre_no F j t HTY.out]; exact HO2.out, by omega, hb3⟩
      case measure => simp [intOf]; omega
     ·have t1 : ((F.I j t).ty != 0) = true := by simp [hty]
      have HTY := hid hty
      clear hty
      obtain ⟨X, hX⟩ : ∃ X, pre F j t = X := ⟨_, rfl⟩
      rw [hX] at hlen HO2
      have HX := hid hX
      clear hX
      go_wp2_with (at_builtin; refine append_one rfl (.tmp 28) (.tmp 31) rfl (w.heap.size + 1) _ X rfl (F.I j t).ty HO2.out rfl hlen (by omega) ?_; intro v3 w3 hown3 hgr3)
      have b4 : Below w.heap.size w w3 := (new hb3 _).grown hgr3 (by have := hb3.size; simp; omega) (fun k hk => by have := (HO2.out.lt k hk).1; omega)
      have z4 := hgr3.size
      simp only [World.size_alloc] at z4
      have FIN := hid (And.intro hown3 b4)
      clear hown3 hgr3 b4
      go_round
      case rel => exact ⟨t + 1, by omega, by go_num, by rw [pre_yes F j t HTY.out, HX.out]; exact FIN.out.1, by omega, FIN.out.2⟩
      case measure => simp [intOf]; omega
    ·obtain rfl : t = (F.B j).n := by omega
     go_wp2_with fail
     go_round
     case rel => exact ⟨j + 1, by omega, by go_num, by rw [← pre_next]; exact HO.out, hws, hb⟩
     case measure => simp [intOf]; omega
  ·obtain rfl : j = F.blk.n := by omega
   go_wp2_with fail
   go_ret
   have HO2 := HO.out
   rw [pre_all] at HO2
   obtain ⟨t, ht, hn, hi, hm⟩ := ints_of_owns HO2 (by have := GG.out F.blk.n (Nat.le_refl _); rw [typesL_length]; omega)
   exact ⟨t, by rw [← ht]; rfl, hn, hi, hm.wide (by omega) (Nat.le_refl _), hb⟩

end Go.Proofs.YtolipafcoolpgaaGreat.Ty

/-
  wf: typeFault; wf.Check: the first error that holds.
-/
namespace Go.Proofs.YtolipafcoolpgaaGreat.Wf
open Go.RowKit View Rd Num Opn Copy Ty Srt Go.Proofs.YtolipafcoolpgaaGreat.Mod Chk Flo

set_option linter.unusedVariables false

set_option maxHeartbeats 1000000 in
theorem idx_typI (s : Sl) (f : Nat → IV) (p : Nat → Prop) (c1 c2 c3 : Addr) (w : World) (hn : s.n ≤ 1000) (hs : ∀ wx, Below w.heap.size w wx → Inss wx s f)
  (hc : ∀ k, k < s.n → ∀ wx, Below w.heap.size w wx → Calls Tryz.prog 83 #[(f k).val, .pointer (some c1), .pointer (some c2), .pointer (some c3)] wx fun e w' => Ans (fun r => r = true ↔ p k) wx e w') :
  Calls Tryz.prog 124 #[.slice s.a s.n s.c, .func (.func 83) #[] #[.pointer (some c1), .pointer (some c2), .pointer (some c3)]] w fun e w' => ∃ r : Int, e = .returned (.int .i64 r) ∧ (0 ≤ r ↔ ∃ k, k < s.n ∧ p k) ∧ Below w.heap.size w w' := by
 go_enter Tryz.func124, Tryz.ntmps124
 go_wp2_with fail
 go_loopw [8] (fun iv wr => ∃ k : Nat, k ≤ s.n ∧ iv = .int .i64 k ∧ (∀ i, i < k → ¬ p i) ∧ Below w.heap.size w wr) (fun iv _ => s.n - (intOf iv).toNat)
 case atStart => exact ⟨0, Nat.zero_le _, rfl, fun i hi => by omega, same w⟩
 case round =>
  obtain ⟨k, hk, rfl, hall, hb⟩ := hrel
  have HA := hid hall
  clear hall
  by_cases lk : k < s.n
  ·obtain ⟨b, o, hix, c0, c1, c2, c3, c4, c5, c6⟩ := (hs wr hb).at lk
   have HB := hid hb
   go_wp2_with fail
   refine (hc k lk _ HB.out).mono ?_
   rintro e w2 ⟨r, rfl, hr, hb2⟩
   have HR := hid hr
   have B2 := hid (View.more HB.out hb2)
   clear hr hb2
   cases r with
   | false =>
    go_wp2_with fail
    go_round
    case rel => exact ⟨k + 1, by omega, by go_num, fun i hi => by
     by_cases e : i = k
     ·subst e; exact fun h => absurd (HR.out.2 h) (by simp)
     ·exact HA.out i (by omega), B2.out⟩
    case measure => simp [intOf]; omega
   | true =>
    go_wp2_with fail
    go_ret
    exact ⟨k, rfl, ⟨fun _ => ⟨k, lk, HR.out.1 (by simp)⟩, fun _ => by omega⟩, B2.out⟩
  ·obtain rfl : k = s.n := by omega
   have HB := hid hb
   clear hb
   go_wp2_with fail
   go_ret
   exact ⟨-1, rfl, ⟨fun h => by omega, fun ⟨i, h1, h2⟩ => absurd h2 (HA.out i h1)⟩, HB.out⟩

set_option maxHeartbeats 1000000 in
theorem has_typI (s : Sl) (f : Nat → IV) (p : Nat → Prop) (c1 c2 c3 : Addr) (w : World) (hn : s.n ≤ 1000) (hs : ∀ wx, Below w.heap.size w wx → Inss wx s f)
  (hc : ∀ k, k < s.n → ∀ wx, Below w.heap.size w wx → Calls Tryz.prog 83 #[(f k).val, .pointer (some c1), .pointer (some c2), .pointer (some c3)] wx fun e w' => Ans (fun r => r = true ↔ p k) wx e w') :
  Calls Tryz.prog 79 #[.slice s.a s.n s.c, .func (.func 83) #[] #[.pointer (some c1), .pointer (some c2), .pointer (some c3)]] w fun e w' => Ans (fun r => r = true ↔ ∃ k, k < s.n ∧ p k) w e w' := by
 go_enter Tryz.func79, Tryz.ntmps79
 go_wp2_with fail
 refine (idx_typI s f p c1 c2 c3 w hn hs hc).mono ?_
 rintro e w1 ⟨r, rfl, hr, hb⟩
 have HR := hid hr
 have HB := hid hb
 clear hr hb
 go_wp2_with fail
 go_ret
 exact ⟨decide (0 ≤ r), rfl, by rw [← HR.out]; simp, HB.out⟩

set_option maxHeartbeats 1000000 in
theorem typc_any (M : MV) (F : FV) (v : IV) (s : Sl) (A T : Nat → Int) (c1 c2 c3 : Nat) (w : World) (h : TyIn M w v s A T) (hm : MBox M w ⟨c1, 0, none⟩) (hf : w.cell? ⟨c2, 3, none⟩ = some (.int .i64 F.res)) (ht : w.cell? ⟨c3, 0, none⟩ = some (.slice s.a s.n s.c)) :
  Calls Tryz.prog 83 #[v.val, .pointer (some ⟨c1, 0, none⟩), .pointer (some ⟨c2, 0, none⟩), .pointer (some ⟨c3, 0, none⟩)] w fun e w' => Ans (fun r => r = true ↔ ¬ FitI M F v v.args.n (gotW A T)) w e w' := by
 obtain ⟨W, hW⟩ : ∃ W, w.alloc (.cells v.cells 43) = W := ⟨_, rfl⟩
 have LW := hid (show Below w.heap.size w W by rw [← hW]; exact new (same w) _)
 obtain ⟨m0, m1, m2, m3⟩ := hm.on LW.out
 simp only [Nat.zero_add] at m0 m1 m2 m3
 have hf := cell_on LW.out hf
 have ht := cell_on LW.out ht
 obtain ⟨i0, i1, i2, i3, i4, i5, i6⟩ := (show InsAt W w.heap.size 0 v by rw [← hW]; exact InsAt.alloc w v).head
 have HH := hid (show TyIn M W v s A T from ⟨h.args.on LW.out, h.typs.on LW.out, h.lt, h.few, h.form, h.sym, h.mod.on LW.out, h.small⟩)
 clear h hm
 go_enter Tryz.func83, Tryz.ntmps83
 go_wp2_with fail
 refine (typesFit_any M F v s A T _ HH.out).mono ?_
 rintro e w1 ⟨r, rfl, hr, hb⟩
 have H := hid hr
 have B := hid (View.more LW.out hb)
 clear hr hb
 go_wp2_with fail
 go_ret
 exact ansNot r H.out B.out

set_option maxRecDepth 10000 in
set_option maxHeartbeats 4000000 in
theorem typeFault_any (M : MV) (w : World) (hM : InM w M) (hs : SmallM M) (hf : FormM M) (hy : SymM M) (hu : UseM M) : Calls Tryz.prog 32 #[M.val] w fun e w' => Ans (fun r => r = true ↔ ¬ TypeA M) w e w' := by
 have x4 := hs.fns
 obtain ⟨W, hW⟩ : ∃ W, w.alloc (.cells (mcells M) 27) = W := ⟨_, rfl⟩
 have BX := hid (show MBox M W ⟨w.heap.size, 0, none⟩ by rw [← hW]; exact ⟨by simp, by simp, by simp, by simp⟩)
 have b3 : W.cell? ⟨w.heap.size, 3, none⟩ = some (.slice M.fns.a M.fns.n M.fns.c) := by rw [← hW]; simp
 have HM := hid (show InM W M by rw [← hW]; exact hM.on (new (same w) _))
 have LW := hid (show Below w.heap.size w W by rw [← hW]; exact new (same w) _)
 have HS := hid hs
 have HF := hid hf
 have HY := hid hy
 have HU := hid (show ∀ i, i < M.fns.n → ArgsF (M.F i) from fun i hi => argsF_of (hu i hi))
 clear hM hs hf hy hu
 go_enter Tryz.func32, Tryz.ntmps32
 go_wp2_with fail
 clear hW b3
 go_loopw [12] (fun iv wr => ∃ i : Nat, i ≤ M.fns.n ∧ iv = .int .i64 i ∧ (∀ t, t < i → TypeF M (M.F t)) ∧ Below W.heap.size W wr) (fun iv _ => M.fns.n - (intOf iv).toNat)
 case atStart => exact ⟨0, Nat.zero_le _, rfl, fun t ht => by omega, same _⟩
 case round =>
  obtain ⟨i, hi, rfl, hall, hb⟩ := hrel
  have HA := hid (And.intro hall hb)
  have m3 : wr.cell? ⟨w.heap.size, 3, none⟩ = some (.slice M.fns.a M.fns.n M.fns.c) := by have := (BX.out.on hb).c3; simpa using this
  by_cases li : i < M.fns.n
  ·obtain ⟨fb, fo, hfx, hFA⟩ := HM.out.fns.at underlying25 size36 li
   obtain ⟨f0, f1, f2, f3, f4⟩ := hFA.on hb
   have LF := hid (HS.out.light i li)
   have gb := LF.out.blk
   have z0 : W.heap.size ≤ wr.heap.size := hb.size
   clear hFA hall hb
   obtain ⟨Wb, hWb⟩ : ∃ Wb, wr.alloc (.cells (fcells (M.F i)) 36) = Wb := ⟨_, rfl⟩
   have FB := hid (show FuncAt Wb wr.heap.size (M.F i) by rw [← hWb]; exact FuncAt.alloc wr (M.F i))
   have LB := hid (show Below W.heap.size W Wb by rw [← hWb]; exact new HA.out.2 _)
   obtain ⟨g0, g1, g2, g3, g4⟩ := FB.out
   go_wp2_with fail
   clear hWb f0 f1 f2 f3 f4 g0 g1 g2 g3 g4 m3
   refine (types_ir (M.F i) Wb ((HM.out.fnI i li).on LB.out) LF.out).mono ?_
   rintro e w1 ⟨s5, rfl, hn5, hi5, hm5, hb5⟩
   have N5 := hid hn5
   have I5 := hid hi5
   have g5 : s5.n ≤ 1000 := by rw [hn5, typesL_length]; have := NeatLaw.total_le LF.out; omega
   obtain ⟨W1, hW1⟩ : ∃ W1, w1.alloc (.cells #[.slice s5.a s5.n s5.c] 33) = W1 := ⟨_, rfl⟩
   have L1 := hid (show Below w1.heap.size w1 W1 by rw [← hW1]; exact new (same _) _)
   have X1 := hid (show W1.cell? ⟨w1.heap.size, 0, none⟩ = some (.slice s5.a s5.n s5.c) by rw [← hW1]; simp)
   have B5 := hid (View.more hb5 L1.out)
   have BW := hid (View.more LB.out B5.out)
   have F1 := hid (FB.out.on B5.out)
   obtain ⟨f0, f1, f2, f3, f4⟩ := F1.out
   clear hn5 hi5 hm5 hb5
   go_wp2_with fail
   clear hW1 f0 f1 f2 f3 f4
   obtain ⟨NB, hNB⟩ : ∃ NB, wr.heap.size = NB := ⟨_, rfl⟩
   rw [hNB] at F1 ⊢
   clear hNB z0 FB
   go_loopw [22] (fun iv wx => ∃ j : Nat, j ≤ (M.F i).blk.n ∧ iv = .int .i64 j ∧ (∀ t, t < j → ∀ k, k < ((M.F i).B t).n → FitI M (M.F i) ((M.F i).I t k) ((M.F i).I t k).args.n (gotT (M.F i) t k)) ∧ Below W1.heap.size W1 wx) (fun iv _ => (M.F i).blk.n - (intOf iv).toNat)
   case atStart => exact ⟨0, Nat.zero_le _, rfl, fun t ht => by omega, same _⟩
   case round =>
    obtain ⟨j, hj, rfl, hall, hb⟩ := hrel
    have HJ := hid (And.intro hall hb)
    by_cases lj : j < (M.F i).blk.n
    ·obtain ⟨bb, bo, hbx, hbc0⟩ := (HM.out.fnI i li).blk.at lj
     have hbc := cell_on (View.more BW.out hb) hbc0
     have gi := LF.out.ins j lj
     clear hbc0 hall hb
     go_wp2_with fail
     refine (has_typI ((M.F i).B j) ((M.F i).I j) (fun k => ¬ FitI M (M.F i) ((M.F i).I j k) ((M.F i).I j k).args.n (gotT (M.F i) j k)) ⟨w.heap.size, 0, none⟩ ⟨NB, 0, none⟩ ⟨w1.heap.size, 0, none⟩ _ (by omega) (fun wx h => ((HM.out.fnI i li).ins j lj).on (View.more BW.out (View.more (View.more HJ.out.2 (new (same _) _)) h))) (fun k hk wx h => ?_)).mono ?_
     ·have hh := View.more (View.more HJ.out.2 (new (same _) _)) h
      refine typc_any M (M.F i) ((M.F i).I j k) s5 ((M.F i).A j k) (fun n => (typesL (M.F i)).getD n 0) w.heap.size NB w1.heap.size wx ?_ (BX.out.on (View.more BW.out hh)) (F1.out.on hh).c3 (cell_on hh X1.out)
      exact ⟨((HM.out.fnI i li).args j lj k hk).on (View.more BW.out hh), (I5.out.on (View.more L1.out hh)), fun q hq => by have := HU.out i li j lj k hk q hq; have := N5.out; omega, LF.out.args j lj k hk, (HF.out.fns i li).2.2 j lj k hk, HY.out.ins i li j lj k hk, HM.out.on (View.more BW.out hh), HS.out⟩
     rintro e w2 ⟨r, rfl, hr, hb2⟩
     have HR := hid hr
     have B2 := hid (View.more (View.more HJ.out.2 (new (same _) _)) hb2)
     clear hr hb2 hbc
     cases r with
     | true =>
      have D := hid (show ¬ TypeA M from fun h => by obtain ⟨k, h1, h2⟩ := HR.out.1 rfl; exact h2 (h i li j lj k h1))
      go_wp2_with fail
      go_ret
      exact ⟨true, rfl, ⟨fun _ => D.out, fun _ => rfl⟩, View.more LW.out (View.more BW.out B2.out)⟩
     | false =>
      have P1 := hid (show ∀ k, k < ((M.F i).B j).n → FitI M (M.F i) ((M.F i).I j k) ((M.F i).I j k).args.n (gotT (M.F i) j k) from fun k hk => by
       by_cases q : FitI M (M.F i) ((M.F i).I j k) ((M.F i).I j k).args.n (gotT (M.F i) j k)
       ·exact q
       ·exact absurd (HR.out.2 ⟨k, hk, q⟩) (by simp))
      clear HR
      go_wp2_with fail
      go_round
      case rel => exact ⟨j + 1, by omega, by go_num, upto1 (p := fun t => ∀ k, k < ((M.F i).B t).n → FitI M (M.F i) ((M.F i).I t k) ((M.F i).I t k).args.n (gotT (M.F i) t k)) HJ.out.1 P1.out, B2.out⟩
      case measure => simp [intOf]; omega
    ·obtain rfl : j = (M.F i).blk.n := by omega
     clear hall hb
     go_wp2_with fail
     go_round
     case rel =>
      have f : ∀ t, t < i + 1 → TypeF M (M.F t) := upto1 (p := fun t => TypeF M (M.F t)) HA.out.1 HJ.out.1
      have l := View.more BW.out HJ.out.2
      first
       | exact ⟨i + 1, by omega, by go_num, f, l⟩
       | ((repeat apply Exists.intro); exact ⟨⟨i + 1, by omega, by go_num, f, l⟩, rfl⟩)
     case measure => simp [intOf]; omega
  ·obtain rfl : i = M.fns.n := by omega
   clear hall hb
   go_wp2_with fail
   go_ret
   exact ⟨false, rfl, ⟨fun h => absurd h (by simp), fun h => absurd HA.out.1 h⟩, View.more LW.out HA.out.2⟩

set_option maxHeartbeats 2000000 in

theorem wcheck_any (M : MV) (w : World) (hM : InM w M) (hs : SmallM M) (hj : ∀ i, i < M.fns.n → Jng (M.F i)) : Calls Tryz.prog 12 #[M.val] w fun e w' => ErrX (errM M) w e w' := by
 obtain ⟨W, hW⟩ : ∃ W, w.alloc (.cells (mcells M) 27) = W := ⟨_, rfl⟩
 have LW := hid (show Below w.heap.size w W by rw [← hW]; exact new (same w) _)
 have MW := hid (show W.cell? ⟨w.heap.size, 0, none⟩ = some (.slice M.ext.a M.ext.n M.ext.c) ∧ W.cell? ⟨w.heap.size, 1, none⟩ = some (.slice M.glo.a M.glo.n M.glo.c) ∧ W.cell? ⟨w.heap.size, 2, none⟩ = some (.slice M.tab.a M.tab.n M.tab.c) ∧ W.cell? ⟨w.heap.size, 3, none⟩ = some (.slice M.fns.a M.fns.n M.fns.c) by
  rw [← hW]
  exact ⟨by simp, by simp, by simp, by simp⟩)
 have HM := hid (hM.on LW.out)
 have HS := hid hs
 have HJ := hid hj
 obtain ⟨m0, m1, m2, m3⟩ := MW.out
 clear hM hs hj
 go_enter Tryz.func12, Tryz.ntmps12
 go_wp2_with fail
 clear hW m0 m1 m2 m3
 refine (limitFault_any M _ HM.out HS.out).mono ?_
 rintro e w1 ⟨r1, rfl, hr1, hb1⟩
 have B1 := hid hb1
 have R1 := hid hr1
 clear hr1 hb1
 cases r1 with
 | true =>
  have HN := hid (err_lim (R1.out.1 rfl))
  go_wp2_with fail
  go_ret
  exact ⟨_, rfl, HN.out.symm, View.more LW.out B1.out⟩
 | false =>
 have P1 := hid (Classical.byContradiction fun h => by have := R1.out.2 h; cases this)
 have m0 := cell_on B1.out MW.out.1
 have m1 := cell_on B1.out MW.out.2.1
 have m2 := cell_on B1.out MW.out.2.2.1
 have m3 := cell_on B1.out MW.out.2.2.2
 go_wp2_with fail
 clear m0 m1 m2 m3
 refine (formFault_any M _ (HM.out.on B1.out) HS.out).mono ?_
 rintro e w2 ⟨r2, rfl, hr2, hb2⟩
 have B2 := hid (View.more B1.out hb2)
 have R2 := hid hr2
 clear hr2 hb2
 cases r2 with
 | true =>
  have HN := hid (err_form P1.out (R2.out.1 rfl))
  go_wp2_with fail
  go_ret
  exact ⟨_, rfl, HN.out.symm, View.more LW.out B2.out⟩
 | false =>
 have P2 := hid (Classical.byContradiction fun h => by have := R2.out.2 h; cases this)
 have m0 := cell_on B2.out MW.out.1
 have m1 := cell_on B2.out MW.out.2.1
 have m2 := cell_on B2.out MW.out.2.2.1
 have m3 := cell_on B2.out MW.out.2.2.2
 go_wp2_with fail
 clear m0 m1 m2 m3
 refine (nameFault_any M _ (HM.out.on B2.out) HS.out).mono ?_
 rintro e w3 ⟨r3, rfl, hr3, hb3⟩
 have B3 := hid (View.more B2.out hb3)
 have R3 := hid hr3
 clear hr3 hb3
 cases r3 with
 | true =>
  have HN := hid (err_name P1.out P2.out (R3.out.1 rfl))
  go_wp2_with fail
  go_ret
  exact ⟨_, rfl, HN.out.symm, View.more LW.out B3.out⟩
 | false =>
 have P3 := hid (Classical.byContradiction fun h => by have := R3.out.2 h; cases this)
 have m0 := cell_on B3.out MW.out.1
 have m1 := cell_on B3.out MW.out.2.1
 have m2 := cell_on B3.out MW.out.2.2.1
 have m3 := cell_on B3.out MW.out.2.2.2
 go_wp2_with fail
 clear m0 m1 m2 m3
 refine (symFault_any M _ (HM.out.on B3.out) HS.out P2.out).mono ?_
 rintro e w4 ⟨r4, rfl, hr4, hb4⟩
 have B4 := hid (View.more B3.out hb4)
 have R4 := hid hr4
 clear hr4 hb4
 cases r4 with
 | true =>
  have HN := hid (err_sym P1.out P2.out P3.out (R4.out.1 rfl))
  go_wp2_with fail
  go_ret
  exact ⟨_, rfl, HN.out.symm, View.more LW.out B4.out⟩
 | false =>
 have P4 := hid (Classical.byContradiction fun h => by have := R4.out.2 h; cases this)
 have m0 := cell_on B4.out MW.out.1
 have m1 := cell_on B4.out MW.out.2.1
 have m2 := cell_on B4.out MW.out.2.2.1
 have m3 := cell_on B4.out MW.out.2.2.2
 go_wp2_with fail
 clear m0 m1 m2 m3
 refine (flowFault_any M _ (HM.out.on B4.out) HS.out HJ.out P2.out).mono ?_
 rintro e w5 ⟨r5, rfl, hr5, hb5⟩
 have B5 := hid (View.more B4.out hb5)
 have R5 := hid hr5
 clear hr5 hb5
 cases r5 with
 | true =>
  have HN := hid (err_flow P1.out P2.out P3.out P4.out (R5.out.1 rfl))
  go_wp2_with fail
  go_ret
  exact ⟨_, rfl, HN.out.symm, View.more LW.out B5.out⟩
 | false =>
 have P5 := hid (show FlowM M from Classical.byContradiction fun h => by have := R5.out.2 h; cases this)
 have m0 := cell_on B5.out MW.out.1
 have m1 := cell_on B5.out MW.out.2.1
 have m2 := cell_on B5.out MW.out.2.2.1
 have m3 := cell_on B5.out MW.out.2.2.2
 go_wp2_with fail
 clear m0 m1 m2 m3
 refine (useFault_all M _ (HM.out.on B5.out) HS.out HJ.out P2.out P5.out (fun i hi => (P1.out.fnI i hi).one)).mono ?_
 rintro e w6 ⟨r6, rfl, hr6, hb6⟩
 have B6 := hid (View.more B5.out hb6)
 have R6 := hid hr6
 clear hr6 hb6
 cases r6 with
 | true =>
  have HN := hid (err_use P1.out P2.out P3.out P4.out P5.out (R6.out.1 rfl))
  go_wp2_with fail
  go_ret
  exact ⟨_, rfl, HN.out.symm, View.more LW.out B6.out⟩
 | false =>
 have P6 := hid (show UseM M from Classical.byContradiction fun h => by have := R6.out.2 h; cases this)
 have m0 := cell_on B6.out MW.out.1
 have m1 := cell_on B6.out MW.out.2.1
 have m2 := cell_on B6.out MW.out.2.2.1
 have m3 := cell_on B6.out MW.out.2.2.2
 go_wp2_with fail
 clear m0 m1 m2 m3
 refine (typeFault_any M _ (HM.out.on B6.out) HS.out P2.out P4.out P6.out).mono ?_
 rintro e w7 ⟨r7, rfl, hr7, hb7⟩
 have B7 := hid (View.more B6.out hb7)
 have R7 := hid hr7
 clear hr7 hb7
 cases r7 with
 | true =>
  have HN := hid (err_type P1.out P2.out P3.out P4.out P5.out P6.out (R7.out.1 rfl))
  go_wp2_with fail
  go_ret
  exact ⟨_, rfl, HN.out.symm, View.more LW.out B7.out⟩
 | false =>
  have P7 := hid (show TypeA M from Classical.byContradiction fun h => by have := R7.out.2 h; cases this)
  have HN := hid (err_ok ⟨P1.out, P2.out, P3.out, P4.out, P5.out, P6.out, P7.out⟩)
  go_wp2_with fail
  go_ret
  exact ⟨_, rfl, HN.out.symm, View.more LW.out B7.out⟩

end Go.Proofs.YtolipafcoolpgaaGreat.Wf
