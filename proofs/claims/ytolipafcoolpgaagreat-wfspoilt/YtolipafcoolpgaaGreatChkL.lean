/-
  How many may be, by the document: plnref3.limits.
-/
import Derived.Test.YtolipafcoolpgaaGreatChk
namespace Go.Proofs.YtolipafcoolpgaaGreat.Chk
open Go.RowKit View Rd Num Opn Copy Go.Proofs.YtolipafcoolpgaaGreat.Mod

set_option linter.unusedVariables false

structure LimF (F : FV) : Prop where
 par : F.par.n ≤ 5
 one : 1 ≤ F.blk.n
 blk : F.blk.n ≤ 40
 ins : fsize F ≤ 300

structure LimM (M : MV) : Prop where
 fns : M.fns.n ≤ 24
 ext : M.ext.n ≤ 12
 glo : M.glo.n ≤ 12
 tab : M.tab.n ≤ 6
 extP : ∀ i, i < M.ext.n → (M.E i).par.n ≤ 5
 gloC : ∀ i, i < M.glo.n → 1 ≤ (M.G i).cel.n ∧ (M.G i).cel.n ≤ 16
 tabF : ∀ i, i < M.tab.n → 1 ≤ (M.T i).cel.n ∧ (M.T i).cel.n ≤ 12
 fnI : ∀ i, i < M.fns.n → LimF (M.F i)

theorem upto2 {p : Nat → Prop} {k : Nat} (h : ∀ i, i < k → p i) (hk : p k) : ∀ i, i < k + 1 → p i := fun i hi => by
 rcases Nat.lt_or_eq_of_le (Nat.le_of_lt_succ hi) with h' | rfl
 ·exact h i h'
 ·exact hk

set_option maxRecDepth 10000 in
set_option maxHeartbeats 4000000 in
theorem limits_any (M : MV) (w : World) (hM : InM w M) (hs : SmallM M) : Calls Tryz.prog 54 #[M.val] w fun e w' => Ans (fun r => r = true ↔ LimM M) w e w' := by
 have x1 := hs.ext
 have x2 := hs.glo
 have x3 := hs.tab
 have x4 := hs.fns
 obtain ⟨W, hW⟩ : ∃ W, w.alloc (.cells (mcells M) 27) = W := ⟨_, rfl⟩
 have B0 : W.cell? ⟨w.heap.size, 0, none⟩ = some (.slice M.ext.a M.ext.n M.ext.c) := by rw [← hW]; simp
 have B1 : W.cell? ⟨w.heap.size, 1, none⟩ = some (.slice M.glo.a M.glo.n M.glo.c) := by rw [← hW]; simp
 have B2 : W.cell? ⟨w.heap.size, 2, none⟩ = some (.slice M.tab.a M.tab.n M.tab.c) := by rw [← hW]; simp
 have B3 : W.cell? ⟨w.heap.size, 3, none⟩ = some (.slice M.fns.a M.fns.n M.fns.c) := by rw [← hW]; simp
 have BX := hid (And.intro B0 (And.intro B1 (And.intro B2 B3)))
 have HM := hid (show InM W M by rw [← hW]; exact hM.on (new (same w) _))
 have LW := hid (show Below w.heap.size w W by rw [← hW]; exact new (same w) _)
 have HS := hid hs
 have HWW := hid hW
 clear hM hs hW B0 B1 B2 B3
 by_cases g1 : (24 : Int) < M.fns.n
 ·have dg1 : decide ((24 : Int) < M.fns.n) = true := by simpa using g1
  have HN := hid (show ¬ LimM M from fun h => by have := h.fns; omega)
  clear g1
  go_enter Tryz.func54, Tryz.ntmps54
  go_wp2_with fail
  go_ret
  exact ⟨false, rfl, by simp [HN.out], new (same w) _⟩
 have dg1 : decide ((24 : Int) < M.fns.n) = false := by simpa using g1
 by_cases g2 : (12 : Int) < M.ext.n
 ·have dg2 : decide ((12 : Int) < M.ext.n) = true := by simpa using g2
  have HN := hid (show ¬ LimM M from fun h => by have := h.ext; omega)
  clear g2
  go_enter Tryz.func54, Tryz.ntmps54
  go_wp2_with fail
  go_ret
  exact ⟨false, rfl, by simp [HN.out], new (same w) _⟩
 have dg2 : decide ((12 : Int) < M.ext.n) = false := by simpa using g2
 by_cases g3 : (12 : Int) < M.glo.n
 ·have dg3 : decide ((12 : Int) < M.glo.n) = true := by simpa using g3
  have HN := hid (show ¬ LimM M from fun h => by have := h.glo; omega)
  clear g3
  go_enter Tryz.func54, Tryz.ntmps54
  go_wp2_with fail
  go_ret
  exact ⟨false, rfl, by simp [HN.out], new (same w) _⟩
 have dg3 : decide ((12 : Int) < M.glo.n) = false := by simpa using g3
 by_cases g4 : (6 : Int) < M.tab.n
 ·have dg4 : decide ((6 : Int) < M.tab.n) = true := by simpa using g4
  have HN := hid (show ¬ LimM M from fun h => by have := h.tab; omega)
  clear g4
  go_enter Tryz.func54, Tryz.ntmps54
  go_wp2_with fail
  go_ret
  exact ⟨false, rfl, by simp [HN.out], new (same w) _⟩
 have dg4 : decide ((6 : Int) < M.tab.n) = false := by simpa using g4
 have G := hid (show M.fns.n ≤ 24 ∧ M.ext.n ≤ 12 ∧ M.glo.n ≤ 12 ∧ M.tab.n ≤ 6 by omega)
 clear g1 g2 g3 g4
 go_enter Tryz.func54, Tryz.ntmps54
 go_wp2_with fail
 simp only [HWW.out]
 clear HWW
 go_loopw [3] (fun iv wr => ∃ a : Nat, a ≤ M.ext.n ∧ iv = .int .i64 a ∧ (∀ t, t < a → (M.E t).par.n ≤ 5) ∧ Below W.heap.size W wr) (fun iv _ => M.ext.n - (intOf iv).toNat)
 case atStart => exact ⟨0, Nat.zero_le _, rfl, fun t ht => by omega, same _⟩
 case round =>
  obtain ⟨a, ha, rfl, hall, hb⟩ := hrel
  have HaA := hid (And.intro hall hb)
  have b0 := cell_on hb BX.out.1
  have b1 := cell_on hb BX.out.2.1
  have b2 := cell_on hb BX.out.2.2.1
  have b3 := cell_on hb BX.out.2.2.2
  by_cases la : a < M.ext.n
  ·obtain ⟨rb, ro, hrx, r0, r1, r2⟩ := (HM.out.on hb).ext.at underlying22 size65 la
   clear hall hb
   by_cases h1 : (5 : Int) < (M.E a).par.n
   ·have th1 : decide ((5 : Int) < (M.E a).par.n) = true := by simpa using h1
    have HN := hid (show ¬ LimM M from fun h => by have := h.extP a la; omega)
    clear h1
    go_wp2_with fail
    go_ret
    exact ⟨false, rfl, by simp [HN.out], View.more LW.out (View.more HaA.out.2 (by first | exact same _ | exact new (same _) _))⟩
   have th1 : decide ((5 : Int) < (M.E a).par.n) = false := by simpa using h1
   have FIN := hid (show (M.E a).par.n ≤ 5 by omega)
   clear h1
   go_wp2_with fail
   go_round
   case rel => exact ⟨a + 1, by omega, by go_num, upto2 HaA.out.1 FIN.out, HaA.out.2⟩
   case measure => simp [intOf]; omega
  ·obtain rfl : a = M.ext.n := by omega
   clear hall hb
   go_wp2_with fail
   clear b0 b1 b2 b3
   go_loopw [4] (fun iv wr => ∃ g : Nat, g ≤ M.glo.n ∧ iv = .int .i64 g ∧ (∀ t, t < g → 1 ≤ (M.G t).cel.n ∧ (M.G t).cel.n ≤ 16) ∧ Below W.heap.size W wr) (fun iv _ => M.glo.n - (intOf iv).toNat)
   case atStart => exact ⟨0, Nat.zero_le _, rfl, fun t ht => by omega, HaA.out.2⟩
   case round =>
    obtain ⟨g, hg, rfl, hall, hb⟩ := hrel
    have HgA := hid (And.intro hall hb)
    have b0 := cell_on hb BX.out.1
    have b1 := cell_on hb BX.out.2.1
    have b2 := cell_on hb BX.out.2.2.1
    have b3 := cell_on hb BX.out.2.2.2
    by_cases lg : g < M.glo.n
    ·obtain ⟨rb, ro, hrx, r0, r1⟩ := (HM.out.on hb).glo.at underlying23 size47 lg
     clear hall hb
     by_cases h1 : ((M.G g).cel.n : Int) < 1
     ·have th1 : decide (((M.G g).cel.n : Int) < 1) = true := by simpa using h1
      have HN := hid (show ¬ LimM M from fun h => by have := (h.gloC g lg).1; omega)
      clear h1
      go_wp2_with fail
      go_ret
      exact ⟨false, rfl, by simp [HN.out], View.more LW.out (View.more HgA.out.2 (by first | exact same _ | exact new (same _) _))⟩
     have th1 : decide (((M.G g).cel.n : Int) < 1) = false := by simpa using h1
     by_cases h2 : (16 : Int) < (M.G g).cel.n
     ·have th2 : decide ((16 : Int) < (M.G g).cel.n) = true := by simpa using h2
      have HN := hid (show ¬ LimM M from fun h => by have := (h.gloC g lg).2; omega)
      clear h2
      go_wp2_with fail
      go_ret
      exact ⟨false, rfl, by simp [HN.out], View.more LW.out (View.more HgA.out.2 (by first | exact same _ | exact new (same _) _))⟩
     have th2 : decide ((16 : Int) < (M.G g).cel.n) = false := by simpa using h2
     have FIN := hid (show 1 ≤ (M.G g).cel.n ∧ (M.G g).cel.n ≤ 16 by constructor <;> omega)
     clear h1 h2
     go_wp2_with fail
     go_round
     case rel => exact ⟨g + 1, by omega, by go_num, upto2 HgA.out.1 FIN.out, HgA.out.2⟩
     case measure => simp [intOf]; omega
    ·obtain rfl : g = M.glo.n := by omega
     clear hall hb
     go_wp2_with fail
     clear b0 b1 b2 b3
     go_loopw [6] (fun iv wr => ∃ t : Nat, t ≤ M.tab.n ∧ iv = .int .i64 t ∧ (∀ s, s < t → 1 ≤ (M.T s).cel.n ∧ (M.T s).cel.n ≤ 12) ∧ Below W.heap.size W wr) (fun iv _ => M.tab.n - (intOf iv).toNat)
     case atStart => exact ⟨0, Nat.zero_le _, rfl, fun t ht => by omega, HgA.out.2⟩
     case round =>
      obtain ⟨t, ht, rfl, hall, hb⟩ := hrel
      have HtA := hid (And.intro hall hb)
      have b0 := cell_on hb BX.out.1
      have b1 := cell_on hb BX.out.2.1
      have b2 := cell_on hb BX.out.2.2.1
      have b3 := cell_on hb BX.out.2.2.2
      by_cases lt : t < M.tab.n
      ·obtain ⟨rb, ro, hrx, r0, r1⟩ := (HM.out.on hb).tab.at underlying24 size49 lt
       clear hall hb
       by_cases h1 : ((M.T t).cel.n : Int) < 1
       ·have th1 : decide (((M.T t).cel.n : Int) < 1) = true := by simpa using h1
        have HN := hid (show ¬ LimM M from fun h => by have := (h.tabF t lt).1; omega)
        clear h1
        go_wp2_with fail
        go_ret
        exact ⟨false, rfl, by simp [HN.out], View.more LW.out (View.more HtA.out.2 (by first | exact same _ | exact new (same _) _))⟩
       have th1 : decide (((M.T t).cel.n : Int) < 1) = false := by simpa using h1
       by_cases h2 : (12 : Int) < (M.T t).cel.n
       ·have th2 : decide ((12 : Int) < (M.T t).cel.n) = true := by simpa using h2
        have HN := hid (show ¬ LimM M from fun h => by have := (h.tabF t lt).2; omega)
        clear h2
        go_wp2_with fail
        go_ret
        exact ⟨false, rfl, by simp [HN.out], View.more LW.out (View.more HtA.out.2 (by first | exact same _ | exact new (same _) _))⟩
       have th2 : decide ((12 : Int) < (M.T t).cel.n) = false := by simpa using h2
       have FIN := hid (show 1 ≤ (M.T t).cel.n ∧ (M.T t).cel.n ≤ 12 by constructor <;> omega)
       clear h1 h2
       go_wp2_with fail
       go_round
       case rel => exact ⟨t + 1, by omega, by go_num, upto2 HtA.out.1 FIN.out, HtA.out.2⟩
       case measure => simp [intOf]; omega
      ·obtain rfl : t = M.tab.n := by omega
       clear hall hb
       go_wp2_with fail
       clear b0 b1 b2 b3
       go_loopw [8] (fun iv wr => ∃ f : Nat, f ≤ M.fns.n ∧ iv = .int .i64 f ∧ (∀ t, t < f → LimF (M.F t)) ∧ Below W.heap.size W wr) (fun iv _ => M.fns.n - (intOf iv).toNat)
       case atStart => exact ⟨0, Nat.zero_le _, rfl, fun t ht => by omega, HtA.out.2⟩
       case round =>
        obtain ⟨f, hf, rfl, hall, hb⟩ := hrel
        have HfA := hid (And.intro hall hb)
        have b0 := cell_on hb BX.out.1
        have b1 := cell_on hb BX.out.2.1
        have b2 := cell_on hb BX.out.2.2.1
        have b3 := cell_on hb BX.out.2.2.2
        by_cases lf : f < M.fns.n
        ·obtain ⟨rb, ro, hrx, r0, r1, r2, r3, r4⟩ := (HM.out.on hb).fns.at underlying25 size36 lf
         clear hall hb
         by_cases h1 : (5 : Int) < (M.F f).par.n
         ·have th1 : decide ((5 : Int) < (M.F f).par.n) = true := by simpa using h1
          have HN := hid (show ¬ LimM M from fun h => by have := (h.fnI f lf).par; omega)
          clear h1
          go_wp2_with fail
          go_ret
          exact ⟨false, rfl, by simp [HN.out], View.more LW.out (View.more HfA.out.2 (by first | exact same _ | exact new (same _) _))⟩
         have th1 : decide ((5 : Int) < (M.F f).par.n) = false := by simpa using h1
         by_cases h2 : ((M.F f).blk.n : Int) < 1
         ·have th2 : decide (((M.F f).blk.n : Int) < 1) = true := by simpa using h2
          have HN := hid (show ¬ LimM M from fun h => by have := (h.fnI f lf).one; omega)
          clear h2
          go_wp2_with fail
          go_ret
          exact ⟨false, rfl, by simp [HN.out], View.more LW.out (View.more HfA.out.2 (by first | exact same _ | exact new (same _) _))⟩
         have th2 : decide (((M.F f).blk.n : Int) < 1) = false := by simpa using h2
         by_cases h3 : (40 : Int) < (M.F f).blk.n
         ·have th3 : decide ((40 : Int) < (M.F f).blk.n) = true := by simpa using h3
          have HN := hid (show ¬ LimM M from fun h => by have := (h.fnI f lf).blk; omega)
          clear h3
          go_wp2_with fail
          go_ret
          exact ⟨false, rfl, by simp [HN.out], View.more LW.out (View.more HfA.out.2 (by first | exact same _ | exact new (same _) _))⟩
         have th3 : decide ((40 : Int) < (M.F f).blk.n) = false := by simpa using h3
         have LF := hid (HS.out.light f lf)
         have ga := LF.out.all
         by_cases h9 : 300 < cnt (fun j => ((M.F f).B j).n) (M.F f).blk.n
         ·have t9 : decide ((300 : Int) < (cnt (fun j => ((M.F f).B j).n) (M.F f).blk.n : Nat)) = true := by simp; omega
          have HN := hid (show ¬ LimM M from fun h => by have := (h.fnI f lf).ins; unfold fsize at this; omega)
          have IF := hid ((HM.out.fnI f lf).on HfA.out.2)
          clear h1 h2 h3 h9 ga
          go_wp2_with fail
          refine (size_ref (M.F f) _ (IF.out.on (new (same _) _)) LF.out).mono ?_
          rintro e w9 ⟨rfl, hb9⟩
          have B9 := hid hb9
          clear hb9
          go_wp2_with fail
          go_ret
          exact ⟨false, rfl, by simp [HN.out], View.more LW.out (View.more HfA.out.2 (View.more (new (same _) _) B9.out))⟩
         have t9 : decide ((300 : Int) < (cnt (fun j => ((M.F f).B j).n) (M.F f).blk.n : Nat)) = false := by simp; omega
         have FIN := hid (show LimF (M.F f) from ⟨by omega, by omega, by omega, by show cnt _ _ ≤ 300; omega⟩)
         have IF := hid ((HM.out.fnI f lf).on HfA.out.2)
         clear h1 h2 h3 h9 ga
         go_wp2_with fail
         refine (size_ref (M.F f) _ (IF.out.on (new (same _) _)) LF.out).mono ?_
         rintro e w9 ⟨rfl, hb9⟩
         have B9 := hid hb9
         clear hb9
         go_wp2_with fail
         go_round
         case rel => exact ⟨f + 1, by omega, by go_num, upto2 HfA.out.1 FIN.out, View.more HfA.out.2 (View.more (new (same _) _) B9.out)⟩
         case measure => simp [intOf]; omega
        ·obtain rfl : f = M.fns.n := by omega
         clear hall hb
         go_wp2_with fail
         go_ret
         exact ⟨true, rfl, by simp; exact ⟨G.out.1, G.out.2.1, G.out.2.2.1, G.out.2.2.2, HaA.out.1, HgA.out.1, HtA.out.1, HfA.out.1⟩, View.more LW.out HfA.out.2⟩

end Go.Proofs.YtolipafcoolpgaaGreat.Chk
