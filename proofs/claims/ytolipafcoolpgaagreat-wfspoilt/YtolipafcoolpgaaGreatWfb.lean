/-
  wf.limitFault: is there more of something than may be, or none of what must be there?
-/
import Derived.Test.YtolipafcoolpgaaGreatWfa
import Derived.Test.YtolipafcoolpgaaGreatChkL
namespace Go.Proofs.YtolipafcoolpgaaGreat.Wf
open Go.RowKit View Rd Num Opn Copy Ty Srt Go.Proofs.YtolipafcoolpgaaGreat.Mod Chk

set_option linter.unusedVariables false

theorem isWithin_any (a b : Int) (w : World) : Calls Tryz.prog 66 #[.int .i64 a, .int .i64 b] w fun e w' => e = .returned (.bool (decide (1 ≤ a) && decide (a ≤ b))) ∧ Below w.heap.size w w' := by
 by_cases h : 1 ≤ a
 ·have t1 : decide ((1 : Int) ≤ a) = true := by simpa using h
  go_enter Tryz.func66, Tryz.ntmps66
  go_wp2_with fail
  go_ret
  exact ⟨by first | rfl | (rw [t1]; rfl), same w⟩
 ·have t1 : decide ((1 : Int) ≤ a) = false := by simpa using h
  go_enter Tryz.func66, Tryz.ntmps66
  go_wp2_with fail
  go_ret
  exact ⟨by first | rfl | (rw [t1]; rfl), same w⟩

theorem limE_any (v : EV) (w : World) : Calls Tryz.prog 63 #[.agg #[.string v.name, .slice v.par.a v.par.n v.par.c, .int .i64 v.res]] w fun e w' => Ans (fun r => r = true ↔ ¬ v.par.n ≤ 5) w e w' := by
 go_enter Tryz.func63, Tryz.ntmps63
 go_wp2_with fail
 go_ret
 exact ⟨decide ((5 : Int) < v.par.n), rfl, by simp; omega, new (same w) _⟩

theorem limG_any (v : GV) (w : World) : Calls Tryz.prog 65 #[.agg #[.string v.name, .slice v.cel.a v.cel.n v.cel.c]] w fun e w' => Ans (fun r => r = true ↔ ¬ (1 ≤ v.cel.n ∧ v.cel.n ≤ 16)) w e w' := by
 go_enter Tryz.func65, Tryz.ntmps65
 go_wp2_with fail
 refine (isWithin_any _ _ _).mono ?_
 rintro e w1 ⟨rfl, hb⟩
 have HB := hid (View.more (new (same w) _) hb)
 clear hb
 go_wp2_with fail
 go_ret
 exact ⟨_, rfl, by simp; omega, HB.out⟩

theorem limT_any (v : GV) (w : World) : Calls Tryz.prog 68 #[.agg #[.string v.name, .slice v.cel.a v.cel.n v.cel.c]] w fun e w' => Ans (fun r => r = true ↔ ¬ (1 ≤ v.cel.n ∧ v.cel.n ≤ 12)) w e w' := by
 go_enter Tryz.func68, Tryz.ntmps68
 go_wp2_with fail
 refine (isWithin_any _ _ _).mono ?_
 rintro e w1 ⟨rfl, hb⟩
 have HB := hid (View.more (new (same w) _) hb)
 clear hb
 go_wp2_with fail
 go_ret
 exact ⟨_, rfl, by simp; omega, HB.out⟩

set_option maxHeartbeats 1000000 in
theorem limF_any (F : FV) (w : World) (hF : In w F) (hl : Light F) : Calls Tryz.prog 70 #[F.val] w fun e w' => Ans (fun r => r = true ↔ ¬ LimF F) w e w' := by
 have HF := hid hF
 have HL := hid hl
 clear hF hl
 by_cases h1 : F.par.n ≤ 5
 ·have t1 : decide ((5 : Int) < F.par.n) = false := by simp; omega
  go_enter Tryz.func70, Tryz.ntmps70
  go_wp2_with fail
  refine (isWithin_any _ _ _).mono ?_
  rintro e w1 ⟨rfl, hb1⟩
  have F1 := hid ((FuncAt.alloc w F).on hb1)
  have B1 := hid (View.more (new (same w) _) hb1)
  obtain ⟨c0, c1, c2, c3, c4⟩ := F1.out
  clear hb1
  by_cases h2 : 1 ≤ F.blk.n ∧ F.blk.n ≤ 40
  ·have t2 : (decide ((1 : Int) ≤ F.blk.n) && decide ((F.blk.n : Int) ≤ 40)) = true := by simp; omega
   rw [t2]
   go_wp2_with fail
   refine (size_ir F _ (HF.out.on B1.out) HL.out).mono ?_
   rintro e w2 ⟨rfl, hb2⟩
   have B2 := hid (View.more B1.out hb2)
   clear hb2 c0 c1 c2 c3 c4
   go_wp2_with fail
   go_ret
   refine ⟨_, rfl, ?_, B2.out⟩
   simp only [decide_eq_true_eq]
   constructor
   ·intro h q
    have := q.ins
    unfold fsize at this
    omega
   ·intro h
    by_cases z : fsize F ≤ 300
    ·exact absurd ⟨h1, h2.1, h2.2, z⟩ h
    ·unfold fsize at z; omega
  ·have t2 : (decide ((1 : Int) ≤ F.blk.n) && decide ((F.blk.n : Int) ≤ 40)) = false := by simp; omega
   rw [t2]
   go_wp2_with fail
   go_ret
   exact ⟨true, rfl, by simp; exact fun q => h2 ⟨q.one, q.blk⟩, B1.out⟩
 ·have t1 : decide ((5 : Int) < F.par.n) = true := by simp; omega
  go_enter Tryz.func70, Tryz.ntmps70
  go_wp2_with fail
  go_ret
  exact ⟨true, rfl, by simp; exact fun q => h1 q.par, new (same w) _⟩

set_option maxRecDepth 10000 in
set_option maxHeartbeats 4000000 in
theorem limitFault_any (M : MV) (w : World) (hM : InM w M) (hs : SmallM M) : Calls Tryz.prog 26 #[M.val] w fun e w' => Ans (fun r => r = true ↔ ¬ LimM M) w e w' := by
 have x1 := hs.ext
 have x2 := hs.glo
 have x3 := hs.tab
 have x4 := hs.fns
 obtain ⟨W, hW⟩ : ∃ W, w.alloc (.cells (mcells M) 27) = W := ⟨_, rfl⟩
 have BX := hid (show W.cell? ⟨w.heap.size, 0, none⟩ = some (.slice M.ext.a M.ext.n M.ext.c) ∧ W.cell? ⟨w.heap.size, 1, none⟩ = some (.slice M.glo.a M.glo.n M.glo.c) ∧ W.cell? ⟨w.heap.size, 2, none⟩ = some (.slice M.tab.a M.tab.n M.tab.c) ∧ W.cell? ⟨w.heap.size, 3, none⟩ = some (.slice M.fns.a M.fns.n M.fns.c) by rw [← hW]; exact ⟨by simp, by simp, by simp, by simp⟩)
 have HM := hid (show InM W M by rw [← hW]; exact hM.on (new (same w) _))
 have LW := hid (show Below w.heap.size w W by rw [← hW]; exact new (same w) _)
 have HS := hid hs
 have HWW := hid hW
 clear hM hs hW
 by_cases g1 : 24 < M.fns.n
 ·have d1 : decide ((24 : Int) < M.fns.n) = true := by simp; omega
  have HN := hid (show ¬ LimM M from fun h => by have := h.fns; omega)
  clear g1
  go_enter Tryz.func26, Tryz.ntmps26
  go_wp2_with fail
  go_ret
  exact ⟨true, rfl, by simp [HN.out], new (same w) _⟩
 have d1 : decide ((24 : Int) < M.fns.n) = false := by simp; omega
 by_cases g2 : 12 < M.ext.n
 ·have d2 : decide ((12 : Int) < M.ext.n) = true := by simp; omega
  have HN := hid (show ¬ LimM M from fun h => by have := h.ext; omega)
  clear g1 g2
  go_enter Tryz.func26, Tryz.ntmps26
  go_wp2_with fail
  go_ret
  exact ⟨true, rfl, by simp [HN.out], new (same w) _⟩
 have d2 : decide ((12 : Int) < M.ext.n) = false := by simp; omega
 by_cases g3 : 12 < M.glo.n
 ·have d3 : decide ((12 : Int) < M.glo.n) = true := by simp; omega
  have HN := hid (show ¬ LimM M from fun h => by have := h.glo; omega)
  clear g1 g2 g3
  go_enter Tryz.func26, Tryz.ntmps26
  go_wp2_with fail
  go_ret
  exact ⟨true, rfl, by simp [HN.out], new (same w) _⟩
 have d3 : decide ((12 : Int) < M.glo.n) = false := by simp; omega
 by_cases g4 : 6 < M.tab.n
 ·have d4 : decide ((6 : Int) < M.tab.n) = true := by simp; omega
  have HN := hid (show ¬ LimM M from fun h => by have := h.tab; omega)
  clear g1 g2 g3 g4
  go_enter Tryz.func26, Tryz.ntmps26
  go_wp2_with fail
  go_ret
  exact ⟨true, rfl, by simp [HN.out], new (same w) _⟩
 have d4 : decide ((6 : Int) < M.tab.n) = false := by simp; omega
 go_enter Tryz.func26, Tryz.ntmps26
 go_wp2_with fail
 simp only [HWW.out]
 refine (has_limE M.ext M.E (fun i => ¬ (M.E i).par.n ≤ 5) W (by omega) (fun wx h => (HM.out.on h).ext) (fun i hi wx h => limE_any (M.E i) wx)).mono ?_
 rintro e w1 ⟨r, rfl, hr, hb⟩
 have B1 := hid hb
 have R1 := hid hr
 clear hr hb
 cases r with
 | true =>
  have HN := hid (show ¬ LimM M from fun h => by obtain ⟨i, h1, h2⟩ := R1.out.1 rfl; exact h2 (h.extP i h1))
  go_wp2_with fail
  go_ret
  exact ⟨true, rfl, by simp [HN.out], View.more LW.out B1.out⟩
 | false =>
 have P1 := hid (show ∀ i, i < M.ext.n → (M.E i).par.n ≤ 5 from fun i hi => by
  by_cases q : (M.E i).par.n ≤ 5
  ·exact q
  ·exact absurd (R1.out.2 ⟨i, hi, q⟩) (by simp))
 clear R1
 obtain ⟨m0, m1, m2, m3⟩ := BX.out
 have m1 := cell_on B1.out m1
 clear m0 m2 m3
 go_wp2_with fail
 refine (has_limG M.glo M.G (fun i => ¬ (1 ≤ (M.G i).cel.n ∧ (M.G i).cel.n ≤ 16)) _ (by omega) (fun wx h => (HM.out.on (View.more B1.out h)).glo) (fun i hi wx h => limG_any (M.G i) wx)).mono ?_
 rintro e w2 ⟨r, rfl, hr, hb⟩
 have B2 := hid (View.more B1.out hb)
 have R1 := hid hr
 clear hr hb m1
 cases r with
 | true =>
  have HN := hid (show ¬ LimM M from fun h => by obtain ⟨i, h1, h2⟩ := R1.out.1 rfl; exact h2 (h.gloC i h1))
  go_wp2_with fail
  go_ret
  exact ⟨true, rfl, by simp [HN.out], View.more LW.out B2.out⟩
 | false =>
 have P2 := hid (show ∀ i, i < M.glo.n → 1 ≤ (M.G i).cel.n ∧ (M.G i).cel.n ≤ 16 from fun i hi => by
  by_cases q : 1 ≤ (M.G i).cel.n ∧ (M.G i).cel.n ≤ 16
  ·exact q
  ·exact absurd (R1.out.2 ⟨i, hi, q⟩) (by simp))
 clear R1
 obtain ⟨m0, m1, m2, m3⟩ := BX.out
 have m2 := cell_on B2.out m2
 clear m0 m1 m3
 go_wp2_with fail
 refine (has_limT M.tab M.T (fun i => ¬ (1 ≤ (M.T i).cel.n ∧ (M.T i).cel.n ≤ 12)) _ (by omega) (fun wx h => (HM.out.on (View.more B2.out h)).tab) (fun i hi wx h => limT_any (M.T i) wx)).mono ?_
 rintro e w3 ⟨r, rfl, hr, hb⟩
 have B3 := hid (View.more B2.out hb)
 have R1 := hid hr
 clear hr hb m2
 cases r with
 | true =>
  have HN := hid (show ¬ LimM M from fun h => by obtain ⟨i, h1, h2⟩ := R1.out.1 rfl; exact h2 (h.tabF i h1))
  go_wp2_with fail
  go_ret
  exact ⟨true, rfl, by simp [HN.out], View.more LW.out B3.out⟩
 | false =>
 have P3 := hid (show ∀ i, i < M.tab.n → 1 ≤ (M.T i).cel.n ∧ (M.T i).cel.n ≤ 12 from fun i hi => by
  by_cases q : 1 ≤ (M.T i).cel.n ∧ (M.T i).cel.n ≤ 12
  ·exact q
  ·exact absurd (R1.out.2 ⟨i, hi, q⟩) (by simp))
 clear R1
 obtain ⟨m0, m1, m2, m3⟩ := BX.out
 have m3 := cell_on B3.out m3
 clear m0 m1 m2
 go_wp2_with fail
 refine (has_limF M.fns M.F (fun i => ¬ LimF (M.F i)) _ (by omega) (fun wx h => (HM.out.on (View.more B3.out h)).fns) (fun i hi wx h => limF_any (M.F i) wx ((HM.out.on (View.more B3.out h)).fnI i hi) (HS.out.light i hi))).mono ?_
 rintro e w4 ⟨r, rfl, hr, hb⟩
 have B4 := hid (View.more B3.out hb)
 have R1 := hid hr
 clear hr hb m3
 go_wp2_with fail
 go_ret
 refine ⟨r, rfl, ?_, View.more LW.out B4.out⟩
 show r = true ↔ ¬ LimM M
 rw [R1.out]
 constructor
 ·rintro ⟨i, h1, h2⟩ h
  exact h2 (h.fnI i h1)
 ·intro h
  by_cases q : ∃ i, i < M.fns.n ∧ ¬ LimF (M.F i)
  ·exact q
  ·exact absurd ⟨by omega, by omega, by omega, by omega, P1.out, P2.out, P3.out, fun i hi => by
    by_cases z : LimF (M.F i)
    ·exact z
    ·exact absurd ⟨i, hi, z⟩ q⟩ h

end Go.Proofs.YtolipafcoolpgaaGreat.Wf
