/-
  ChkAll, FloE, Wga: laid together.
-/
import Derived.Test.YtnodofbpogcheaaGreatChkZ
import Derived.Test.YtnodofbpogcheaaGreatJ7
import Derived.Test.YtnodofbpogcheaaGreatChkL
import Derived.Test.YtnodofbpogcheaaGreatChkS
import Derived.Deep.RegionHeld3
import Derived.Test.YtnodofbpogcheaaGreatJ3
import Derived.Test.YtnodofbpogcheaaGreatJ1

namespace Go.Proofs.YtnodofbpogcheaaGreat.Chk
open Go.RowKit View Rd Num Opn Copy Ty Srt Go.Proofs.YtnodofbpogcheaaGreat.Mod Go.Proofs.YtnodofbpogcheaaGreat.Flo

set_option linter.unusedVariables false

structure FitM (M : MV) : Prop where
 lim : LimM M
 form : FormM M
 name : NameM M
 sym : SymM M
 flow : ∀ i, i < M.fns.n → FlowF (M.F i)
 use : ∀ i, i < M.fns.n → UseF (M.F i)
 type : ∀ i, i < M.fns.n → TypeF M (M.F i)

theorem argsF_of {F : FV} (h : UseF F) : ArgsF F := fun j hj k hk i hi => by
 obtain ⟨h1, h2, _⟩ := h.2 j hj k hk i hi
 rw [typesL_length]
 unfold allV at h2
 omega

def FlowA (M : MV) : Prop := ∀ i, i < M.fns.n → FlowF (M.F i)

def UseA (M : MV) : Prop := ∀ i, i < M.fns.n → UseF (M.F i)

def TypeA (M : MV) : Prop := ∀ i, i < M.fns.n → TypeF M (M.F i)

open Classical in

noncomputable def errM (M : MV) : Int :=
 if ¬ LimM M then 2 else if ¬ FormM M then 1 else if ¬ NameM M then 3 else if ¬ SymM M then 4 else if ¬ FlowA M then 5 else if ¬ UseA M then 6 else if ¬ TypeA M then 7 else 0

theorem err_lim {M : MV} (h : ¬ LimM M) : errM M = 2 := by simp [errM, h]
theorem err_form {M : MV} (h1 : LimM M) (h : ¬ FormM M) : errM M = 1 := by simp [errM, h1, h]
theorem err_name {M : MV} (h1 : LimM M) (h2 : FormM M) (h : ¬ NameM M) : errM M = 3 := by simp [errM, h1, h2, h]
theorem err_sym {M : MV} (h1 : LimM M) (h2 : FormM M) (h3 : NameM M) (h : ¬ SymM M) : errM M = 4 := by simp [errM, h1, h2, h3, h]
theorem err_flow {M : MV} (h1 : LimM M) (h2 : FormM M) (h3 : NameM M) (h4 : SymM M) (h : ¬ FlowA M) : errM M = 5 := by simp [errM, h1, h2, h3, h4, h]
theorem err_use {M : MV} (h1 : LimM M) (h2 : FormM M) (h3 : NameM M) (h4 : SymM M) (h5 : FlowA M) (h : ¬ UseA M) : errM M = 6 := by simp [errM, h1, h2, h3, h4, h5, h]
theorem err_type {M : MV} (h1 : LimM M) (h2 : FormM M) (h3 : NameM M) (h4 : SymM M) (h5 : FlowA M) (h6 : UseA M) (h : ¬ TypeA M) : errM M = 7 := by simp [errM, h1, h2, h3, h4, h5, h6, h]
theorem err_ok {M : MV} (h : FitM M) : errM M = 0 := by
 have h1 := h.lim; have h2 := h.form; have h3 := h.name; have h4 := h.sym
 have h5 : FlowA M := h.flow; have h6 : UseA M := h.use; have h7 : TypeA M := h.type
 simp [errM, h1, h2, h3, h4, h5, h6, h7]

theorem fit_iff {M : MV} : errM M = 0 ↔ FitM M := by
 constructor
 ·intro h
  unfold errM at h
  by_cases h1 : LimM M
  ·by_cases h2 : FormM M
   ·by_cases h3 : NameM M
    ·by_cases h4 : SymM M
     ·by_cases h5 : FlowA M
      ·by_cases h6 : UseA M
       ·by_cases h7 : TypeA M
        ·exact ⟨h1, h2, h3, h4, h5, h6, h7⟩
        ·simp [h1, h2, h3, h4, h5, h6, h7] at h
       ·simp [h1, h2, h3, h4, h5, h6] at h
      ·simp [h1, h2, h3, h4, h5] at h
     ·simp [h1, h2, h3, h4] at h
    ·simp [h1, h2, h3] at h
   ·simp [h1, h2] at h
  ·simp [h1] at h
 ·exact err_ok

def ErrX (x : Int) (w : World) (e : Ending) (w' : World) : Prop := ∃ r : Int, e = .returned (.int .i64 r) ∧ r = x ∧ Below w.heap.size w w'

def Err (p : Prop) (w : World) (e : Ending) (w' : World) : Prop := ∃ r : Int, e = .returned (.int .i64 r) ∧ (r = 0 ↔ p) ∧ Below w.heap.size w w'

set_option maxRecDepth 10000 in
set_option maxHeartbeats 8000000 in
theorem check_exact (M : MV) (w : World) (hM : InM w M) (hs : SmallM M) : Calls Tryz.prog 24 #[M.val] w fun e w' => ErrX (errM M) w e w' := by
 have x4 := hs.fns
 obtain ⟨W, hW⟩ : ∃ W, w.alloc (.cells (mcells M) 27) = W := ⟨_, rfl⟩
 have LW := hid (show Below w.heap.size w W by rw [← hW]; exact new (same w) _)
 have MW := hid (show W.cell? ⟨w.heap.size, 0, none⟩ = some (.slice M.ext.a M.ext.n M.ext.c) ∧ W.cell? ⟨w.heap.size, 1, none⟩ = some (.slice M.glo.a M.glo.n M.glo.c) ∧ W.cell? ⟨w.heap.size, 2, none⟩ = some (.slice M.tab.a M.tab.n M.tab.c) ∧ W.cell? ⟨w.heap.size, 3, none⟩ = some (.slice M.fns.a M.fns.n M.fns.c) by
  rw [← hW]
  exact ⟨by simp, by simp, by simp, by simp⟩)
 have IM := hid (hM.on LW.out)
 have HS := hid hs
 have HWW := hid hW
 have S0 := hid (same W)
 clear hM hs hW
 go_enter Tryz.func24, Tryz.ntmps24
 go_wp2_with fail
 simp only [HWW.out]
 clear HWW
 obtain ⟨m0, m1, m2, m3⟩ := MW.out
 have m0 := cell_on S0.out m0
 have m1 := cell_on S0.out m1
 have m2 := cell_on S0.out m2
 have m3 := cell_on S0.out m3
 go_wp2_with fail
 refine (limits_any M _ (IM.out.on S0.out) HS.out).mono ?_
 rintro e w1 ⟨r1, rfl, hr1, hb1⟩
 have R1 := hid hr1
 have B1 := hid (View.more S0.out hb1)
 clear hr1 hb1 m0 m1 m2 m3
 cases r1 with
 | false =>
  have HN := hid (show errM M = 2 from err_lim (fun h => by have := R1.out.2 h; cases this))
  go_wp2_with fail
  go_ret
  exact ⟨_, rfl, HN.out.symm, View.more LW.out B1.out⟩
 | true =>
 have P1 := hid (R1.out.1 rfl)
 clear R1
 obtain ⟨m0, m1, m2, m3⟩ := MW.out
 have m0 := cell_on B1.out m0
 have m1 := cell_on B1.out m1
 have m2 := cell_on B1.out m2
 have m3 := cell_on B1.out m3
 go_wp2_with fail
 refine (forms_any M _ (IM.out.on B1.out) HS.out).mono ?_
 rintro e w2 ⟨r2, rfl, hr2, hb2⟩
 have R2 := hid hr2
 have B2 := hid (View.more B1.out hb2)
 clear hr2 hb2 m0 m1 m2 m3
 cases r2 with
 | false =>
  have HN := hid (show errM M = 1 from err_form P1.out (fun h => by have := R2.out.2 h; cases this))
  go_wp2_with fail
  go_ret
  exact ⟨_, rfl, HN.out.symm, View.more LW.out B2.out⟩
 | true =>
 have P2 := hid (R2.out.1 rfl)
 clear R2
 obtain ⟨m0, m1, m2, m3⟩ := MW.out
 have m0 := cell_on B2.out m0
 have m1 := cell_on B2.out m1
 have m2 := cell_on B2.out m2
 have m3 := cell_on B2.out m3
 go_wp2_with fail
 refine (names_any M _ (IM.out.on B2.out) HS.out).mono ?_
 rintro e w3 ⟨r3, rfl, hr3, hb3⟩
 have R3 := hid hr3
 have B3 := hid (View.more B2.out hb3)
 clear hr3 hb3 m0 m1 m2 m3
 cases r3 with
 | false =>
  have HN := hid (show errM M = 3 from err_name P1.out P2.out (fun h => by have := R3.out.2 h; cases this))
  go_wp2_with fail
  go_ret
  exact ⟨_, rfl, HN.out.symm, View.more LW.out B3.out⟩
 | true =>
 have P3 := hid (R3.out.1 rfl)
 clear R3
 obtain ⟨m0, m1, m2, m3⟩ := MW.out
 have m0 := cell_on B3.out m0
 have m1 := cell_on B3.out m1
 have m2 := cell_on B3.out m2
 have m3 := cell_on B3.out m3
 go_wp2_with fail
 refine (syms_any M _ (IM.out.on B3.out) HS.out).mono ?_
 rintro e w4 ⟨r4, rfl, hr4, hb4⟩
 have R4 := hid hr4
 have B4 := hid (View.more B3.out hb4)
 clear hr4 hb4 m0 m1 m2 m3
 cases r4 with
 | false =>
  have HN := hid (show errM M = 4 from err_sym P1.out P2.out P3.out (fun h => by have := R4.out.2 h; cases this))
  go_wp2_with fail
  go_ret
  exact ⟨_, rfl, HN.out.symm, View.more LW.out B4.out⟩
 | true =>
 have P4 := hid (R4.out.1 rfl)
 clear R4
 go_wp2_with fail
 go_loopw [3] (fun iv wr => ∃ i_ : Nat, i_ ≤ M.fns.n ∧ iv = .int .i64 i_ ∧ (∀ i, i < i_ → FlowF (M.F i)) ∧ Below W.heap.size W wr) (fun iv _ => M.fns.n - (intOf iv).toNat)
 case atStart => exact ⟨0, Nat.zero_le _, rfl, fun t ht => by omega, B4.out⟩
 case round =>
  obtain ⟨i, hi, rfl, hall, hb⟩ := hrel
  have HA := hid (And.intro hall hb)
  obtain ⟨m0, m1, m2, m3⟩ := MW.out
  have m0 := cell_on hb m0
  have m1 := cell_on hb m1
  have m2 := cell_on hb m2
  have m3 := cell_on hb m3
  by_cases li : i < M.fns.n
  ·obtain ⟨b, o, hix, c0, c1, c2, c3, c4⟩ := (IM.out.on hb).fns.at underlying25 size36 li
   have HZ := same wr
   have CL := hid (flows_any (M.F i) _ (((IM.out.on hb).fnI i li).on HZ) (HS.out.light i li) (P2.out.fns i li))
   clear hall hb
   go_wp2_with fail
   refine CL.out.mono ?_
   rintro e w9 ⟨r, rfl, hr, hb9⟩
   have HR := hid hr
   have B9 := hid (View.more HA.out.2 hb9)
   clear hr hb9 c0 c1 c2 c3 c4 m0 m1 m2 m3
   cases r with
   | false =>
    have HN := hid (show errM M = 5 from err_flow P1.out P2.out P3.out P4.out (fun h => by have := HR.out.2 (h i li); cases this))
    go_wp2_with fail
    go_ret
    exact ⟨_, rfl, HN.out.symm, View.more LW.out B9.out⟩
   | true =>
    have HP := hid (HR.out.1 rfl)
    go_wp2_with fail
    go_round
    case rel =>
     have f := upto1 HA.out.1 HP.out
     first
      | exact ⟨i + 1, by omega, by go_num, f, B9.out⟩
      | ((repeat apply Exists.intro); exact ⟨⟨i + 1, by omega, by go_num, f, B9.out⟩, rfl⟩)
    case measure => simp [intOf]; omega
  ·obtain rfl : i = M.fns.n := by omega
   have Q1 := hid hall
   have BQ1 := hid hb
   clear hall hb HA
   go_wp2_with fail
   clear m0 m1 m2 m3
   go_loopw [4] (fun iv wr => ∃ i_ : Nat, i_ ≤ M.fns.n ∧ iv = .int .i64 i_ ∧ (∀ i, i < i_ → UseF (M.F i)) ∧ Below W.heap.size W wr) (fun iv _ => M.fns.n - (intOf iv).toNat)
   case atStart => exact ⟨0, Nat.zero_le _, rfl, fun t ht => by omega, BQ1.out⟩
   case round =>
    obtain ⟨i, hi, rfl, hall, hb⟩ := hrel
    have HA := hid (And.intro hall hb)
    obtain ⟨m0, m1, m2, m3⟩ := MW.out
    have m0 := cell_on hb m0
    have m1 := cell_on hb m1
    have m2 := cell_on hb m2
    have m3 := cell_on hb m3
    by_cases li : i < M.fns.n
    ·obtain ⟨b, o, hix, c0, c1, c2, c3, c4⟩ := (IM.out.on hb).fns.at underlying25 size36 li
     have HZ := same wr
     have CL := hid (uses_any (M.F i) _ (((IM.out.on hb).fnI i li).on HZ) (HS.out.light i li) (P2.out.fns i li) (Q1.out i li))
     clear hall hb
     go_wp2_with fail
     refine CL.out.mono ?_
     rintro e w9 ⟨r, rfl, hr, hb9⟩
     have HR := hid hr
     have B9 := hid (View.more HA.out.2 hb9)
     clear hr hb9 c0 c1 c2 c3 c4 m0 m1 m2 m3
     cases r with
     | false =>
      have HN := hid (show errM M = 6 from err_use P1.out P2.out P3.out P4.out Q1.out (fun h => by have := HR.out.2 (h i li); cases this))
      go_wp2_with fail
      go_ret
      exact ⟨_, rfl, HN.out.symm, View.more LW.out B9.out⟩
     | true =>
      have HP := hid (HR.out.1 rfl)
      go_wp2_with fail
      go_round
      case rel =>
       have f := upto1 HA.out.1 HP.out
       first
        | exact ⟨i + 1, by omega, by go_num, f, B9.out⟩
        | ((repeat apply Exists.intro); exact ⟨⟨i + 1, by omega, by go_num, f, B9.out⟩, rfl⟩)
      case measure => simp [intOf]; omega
    ·obtain rfl : i = M.fns.n := by omega
     have Q2 := hid hall
     have BQ2 := hid hb
     clear hall hb HA
     go_wp2_with fail
     clear m0 m1 m2 m3
     go_loopw [5] (fun iv wr => ∃ i_ : Nat, i_ ≤ M.fns.n ∧ iv = .int .i64 i_ ∧ (∀ i, i < i_ → TypeF M (M.F i)) ∧ Below W.heap.size W wr) (fun iv _ => M.fns.n - (intOf iv).toNat)
     case atStart => exact ⟨0, Nat.zero_le _, rfl, fun t ht => by omega, BQ2.out⟩
     case round =>
      obtain ⟨i, hi, rfl, hall, hb⟩ := hrel
      have HA := hid (And.intro hall hb)
      by_cases li : i < M.fns.n
      ·obtain ⟨b, o, hix, fat⟩ := IM.out.fns.at underlying25 size36 li
       have cc : ∀ wx, Below W.heap.size W wx → (wx.cell? ⟨w.heap.size, 0, none⟩ = some (.slice M.ext.a M.ext.n M.ext.c) ∧ wx.cell? ⟨w.heap.size, 1, none⟩ = some (.slice M.glo.a M.glo.n M.glo.c) ∧ wx.cell? ⟨w.heap.size, 2, none⟩ = some (.slice M.tab.a M.tab.n M.tab.c) ∧ wx.cell? ⟨w.heap.size, 3, none⟩ = some (.slice M.fns.a M.fns.n M.fns.c)) := fun wx h => ⟨cell_on h MW.out.1, cell_on h MW.out.2.1, cell_on h MW.out.2.2.1, cell_on h MW.out.2.2.2⟩
       have k0 := fun wx h => (cc wx h).1
       have k1 := fun wx h => (cc wx h).2.1
       have k2 := fun wx h => (cc wx h).2.2.1
       have k3 := fun wx h => (cc wx h).2.2.2
       have k4 : ∀ wx, Below W.heap.size W wx → wx.cell? ⟨b, o, none⟩ = some (.string (M.F i).name) := fun wx h => (fat.on h).c0
       have k5 : ∀ wx, Below W.heap.size W wx → wx.cell? ⟨b, o + 1, none⟩ = some (.bool (M.F i).out) := fun wx h => (fat.on h).c1
       have k6 : ∀ wx, Below W.heap.size W wx → wx.cell? ⟨b, o + 2, none⟩ = some (.slice (M.F i).par.a (M.F i).par.n (M.F i).par.c) := fun wx h => (fat.on h).c2
       have k7 : ∀ wx, Below W.heap.size W wx → wx.cell? ⟨b, o + 3, none⟩ = some (.int .i64 (M.F i).res) := fun wx h => (fat.on h).c3
       have k8 : ∀ wx, Below W.heap.size W wx → wx.cell? ⟨b, o + 4, none⟩ = some (.slice (M.F i).blk.a (M.F i).blk.n (M.F i).blk.c) := fun wx h => (fat.on h).c4
       have m3 := k3 _ hb
       have st0 : Below W.heap.size W wr.drew := Below.drew hb
       clear hall hb cc fat
       go_wp2_with fail
       clear m3
       go_region_held3 (fun wx => Below W.heap.size W wx) (first | exact st0 | exact st1)
        (first
         | (go_at_call 61; refine (types_any M (M.F i) _ (IM.out.on (by assumption)) HS.out ((IM.out.on (by assumption)).fnI i li) (HS.out.light i li) (P2.out.fns i li) (fun j hj k hk => P4.out.ins i li j hj k hk) (argsF_of (Q2.out i li))).mono ?_; rintro e w9 ⟨r, rfl, hr, hb9⟩; have HR := hid hr; have st1 : Below W.heap.size W w9 := View.more (by assumption) hb9; clear hr hb9))
       have B9 := hid st1
       clear k0 k1 k2 k3 k4 k5 k6 k7 k8 st0 st1
       cases r with
       | false =>
        have HN := hid (show errM M = 7 from err_type P1.out P2.out P3.out P4.out Q1.out Q2.out (fun h => by have := HR.out.2 (h i li); cases this))
        go_wp2_with fail
        go_ret
        exact ⟨_, rfl, HN.out.symm, View.more LW.out B9.out⟩
       | true =>
        have HP := hid (HR.out.1 rfl)
        go_wp2_with fail
        go_round
        case rel =>
         have f := upto1 HA.out.1 HP.out
         first
          | exact ⟨i + 1, by omega, by go_num, f, B9.out⟩
          | ((repeat apply Exists.intro); exact ⟨⟨i + 1, by omega, by go_num, f, B9.out⟩, rfl⟩)
        case measure => simp [intOf]; omega
      ·obtain rfl : i = M.fns.n := by omega
       have Q3 := hid hall
       have BQ3 := hid hb
       have m3 := cell_on hb MW.out.2.2.2
       clear hall hb HA
       go_wp2_with fail
       go_ret
       exact ⟨_, rfl, (err_ok ⟨P1.out, P2.out, P3.out, P4.out, Q1.out, Q2.out, Q3.out⟩).symm, View.more LW.out BQ3.out⟩

theorem check_any (M : MV) (w : World) (hM : InM w M) (hs : SmallM M) : Calls Tryz.prog 24 #[M.val] w fun e w' => Err (FitM M) w e w' := by
 refine (check_exact M w hM hs).mono ?_
 rintro e w1 ⟨r, rfl, hr, hb⟩
 exact ⟨r, rfl, by rw [hr]; exact fit_iff, hb⟩

set_option maxHeartbeats 1000000 in
theorem fit_any (M : MV) (w : World) (hM : InM w M) : Calls Tryz.prog 9 #[M.val] w fun e w' => Ans (fun r => r = true → SmallM M ∧ FitM M) w e w' := by
 have HM := hid hM
 clear hM
 go_enter Tryz.func9, Tryz.ntmps9
 go_wp2_with fail
 refine (small_any M _ (HM.out.on (new (same w) _))).mono ?_
 rintro e w1 ⟨r, rfl, hr, hb⟩
 have HR := hid (show r = true → SmallM M from hr)
 have B1 := hid (View.more (new (same w) _) hb)
 have m0 := cell_on hb (show (w.alloc (.cells (mcells M) 27)).cell? ⟨w.heap.size, 0, none⟩ = some (.slice M.ext.a M.ext.n M.ext.c) by simp)
 have m1 := cell_on hb (show (w.alloc (.cells (mcells M) 27)).cell? ⟨w.heap.size, 1, none⟩ = some (.slice M.glo.a M.glo.n M.glo.c) by simp)
 have m2 := cell_on hb (show (w.alloc (.cells (mcells M) 27)).cell? ⟨w.heap.size, 2, none⟩ = some (.slice M.tab.a M.tab.n M.tab.c) by simp)
 have m3 := cell_on hb (show (w.alloc (.cells (mcells M) 27)).cell? ⟨w.heap.size, 3, none⟩ = some (.slice M.fns.a M.fns.n M.fns.c) by simp)
 clear hr hb
 cases r with
 | false =>
  go_wp2_with fail
  go_ret
  exact ⟨false, rfl, (fun h => by cases h), B1.out⟩
 | true =>
  have HSm := hid (HR.out rfl)
  clear HR
  go_wp2_with fail
  refine (check_any M _ (HM.out.on B1.out) HSm.out).mono ?_
  rintro e w2 ⟨r, rfl, hr, hb⟩
  have HR2 := hid hr
  have B2 := hid (View.more B1.out hb)
  clear hr hb m0 m1 m2 m3
  go_wp2_with fail
  go_ret
  exact ⟨_, rfl, (fun h => ⟨HSm.out, HR2.out.1 (by simpa using h)⟩), B2.out⟩

end Go.Proofs.YtnodofbpogcheaaGreat.Chk

namespace Go.Proofs.YtnodofbpogcheaaGreat.Flo
open Go.RowKit View Rd Copy Num Ty Srt

set_option linter.unusedVariables false

abbrev xi (N j : Nat) : IV :=
 if j = 0 then ⟨28, 0, 0, 0, 0, ⟨some ⟨N, 0, none⟩, 1, 1⟩, ⟨some ⟨N + 1, 0, none⟩, 2, 2⟩⟩
 else if j = 1 then ⟨27, 0, 0, 0, 0, ⟨none, 0, 0⟩, ⟨some ⟨N + 1 + 1 + 1, 0, none⟩, 1, 1⟩⟩
 else if j = 2 then ⟨27, 0, 0, 0, 0, ⟨none, 0, 0⟩, ⟨some ⟨N + 1 + 1 + 1 + 1 + 1, 0, none⟩, 1, 1⟩⟩
 else ⟨29, 0, 0, 0, 0, ⟨none, 0, 0⟩, ⟨none, 0, 0⟩⟩

abbrev xb (N j : Nat) : Sl :=
 if j = 0 then ⟨some ⟨N + 1 + 1, 0, none⟩, 1, 1⟩
 else if j = 1 then ⟨some ⟨N + 1 + 1 + 1 + 1, 0, none⟩, 1, 1⟩
 else if j = 2 then ⟨some ⟨N + 1 + 1 + 1 + 1 + 1 + 1, 0, none⟩, 1, 1⟩
 else ⟨some ⟨N + 1 + 1 + 1 + 1 + 1 + 1 + 1, 0, none⟩, 1, 1⟩

abbrev ex4 (N : Nat) : FV where
 name := ⟨#[]⟩
 out := false
 par := ⟨none, 0, 0⟩
 res := 0
 blk := ⟨some ⟨N + 1 + 1 + 1 + 1 + 1 + 1 + 1 + 1, 0, none⟩, 4, 4⟩
 P := fun _ => 0
 B := fun j => xb N j
 I := fun j _ => xi N j
 A := fun _ _ _ => 1
 J := fun j _ i => if j = 0 then (i : Int) + 1 else 3

theorem four {p : Nat → Prop} (h0 : p 0) (h1 : p 1) (h2 : p 2) (h3 : p 3) : ∀ j, j < 4 → p j := fun j hj => by
 have : j = 0 ∨ j = 1 ∨ j = 2 ∨ j = 3 := by omega
 rcases this with rfl | rfl | rfl | rfl
 ·exact h0
 ·exact h1
 ·exact h2
 ·exact h3

theorem lit1 (w : World) (x : Int) (f : Nat → Int) (hf : f 0 = x) (N : Nat) (hN : w.heap.size = N) : Ints (w.alloc (.cells #[.int .i64 x] 3)) ⟨some ⟨N, 0, none⟩, 1, 1⟩ f := by
 subst hN
 refine ⟨Nat.le_refl _, by show 1 ≤ _; omega, fun h => by simp at h, fun _ => ⟨w.heap.size, 0, rfl, fun i hi => ?_⟩⟩
 obtain rfl : i = 0 := by simp at hi; omega
 simp [hf]

theorem lit2 (w : World) (x y : Int) (f : Nat → Int) (hx : f 0 = x) (hy : f 1 = y) (N : Nat) (hN : w.heap.size = N) : Ints (w.alloc (.cells #[.int .i64 x, .int .i64 y] 3)) ⟨some ⟨N, 0, none⟩, 2, 2⟩ f := by
 subst hN
 refine ⟨Nat.le_refl _, by show 2 ≤ _; omega, fun h => by simp at h, fun _ => ⟨w.heap.size, 0, rfl, fun i hi => ?_⟩⟩
 have : i = 0 ∨ i = 1 := by simp at hi; omega
 rcases this with rfl | rfl <;> simp [hx, hy]

theorem litN (w : World) (f : Nat → Int) : Ints w ⟨none, 0, 0⟩ f := ⟨Nat.le_refl _, Nat.zero_le _, fun _ => rfl, fun h => absurd h (by simp)⟩

abbrev w4 (w : World) : World :=
 ((((((((w.alloc (.cells #[.int .i64 1] 3)).alloc (.cells #[.int .i64 1, .int .i64 2] 3)).alloc (.cells (xi w.heap.size 0).cells 43)).alloc (.cells #[.int .i64 3] 3)).alloc (.cells (xi w.heap.size 1).cells 43)).alloc (.cells #[.int .i64 3] 3)).alloc (.cells (xi w.heap.size 2).cells 43)).alloc (.cells (xi w.heap.size 3).cells 43)).alloc
  (.cells #[.slice (xb w.heap.size 0).a (xb w.heap.size 0).n (xb w.heap.size 0).c, .slice (xb w.heap.size 1).a (xb w.heap.size 1).n (xb w.heap.size 1).c, .slice (xb w.heap.size 2).a (xb w.heap.size 2).n (xb w.heap.size 2).c, .slice (xb w.heap.size 3).a (xb w.heap.size 3).n (xb w.heap.size 3).c] 40)

end Go.Proofs.YtnodofbpogcheaaGreat.Flo

namespace Go.Proofs.YtnodofbpogcheaaGreat.Wf
open Go.RowKit View Rd Num Opn Copy Srt Go.Proofs.YtnodofbpogcheaaGreat.Mod Go.Proofs.YtnodofbpogcheaaGreat.Chk Go.Proofs.YtnodofbpogcheaaGreat.Flo

set_option linter.unusedVariables false

abbrev oneF (b r : Nat) (v : IV) (J : Nat → Int) : FV where
 name := ⟨#[102]⟩
 out := false
 par := ⟨none, 0, 0⟩
 res := 0
 blk := ⟨some ⟨b, 0, none⟩, 1, 1⟩
 P := fun _ => 0
 B := fun _ => ⟨some ⟨r, 0, none⟩, 1, 1⟩
 I := fun _ _ => v
 A := fun _ _ _ => 0
 J := fun _ _ => J

abbrev oneM (m : Nat) (F : FV) : MV where
 ext := ⟨none, 0, 0⟩
 glo := ⟨none, 0, 0⟩
 tab := ⟨none, 0, 0⟩
 fns := ⟨some ⟨m, 0, none⟩, 1, 1⟩
 E := fun _ => default
 EP := fun _ _ => 0
 G := fun _ => default
 GC := fun _ _ => 0
 T := fun _ => default
 TF := fun _ _ => 0
 F := fun _ => F

abbrev noM : MV where
 ext := ⟨none, 0, 0⟩
 glo := ⟨none, 0, 0⟩
 tab := ⟨none, 0, 0⟩
 fns := ⟨none, 0, 0⟩
 E := fun _ => default
 EP := fun _ _ => 0
 G := fun _ => default
 GC := fun _ _ => 0
 T := fun _ => default
 TF := fun _ _ => 0
 F := fun _ => default

abbrev retI : IV := ⟨29, 0, 0, 0, 0, ⟨none, 0, 0⟩, ⟨none, 0, 0⟩⟩
abbrev jumpI (a : Nat) : IV := ⟨27, 0, 0, 0, 0, ⟨none, 0, 0⟩, ⟨some ⟨a, 0, none⟩, 1, 1⟩⟩

theorem light_one (b r : Nat) (v : IV) (J : Nat → Int) (h1 : v.args.n ≤ 20) (h2 : v.into.n ≤ 20) : Light (oneF b r v J) :=
 ⟨show 0 + 1 ≤ 400 by decide, show (1 : Nat) ≤ 40 by decide, show 0 ≤ 8 by decide, show 1 ≤ 48 by decide, fun j hj => show 1 ≤ 400 by decide, fun j hj k hk => h1, fun j hj k hk => h2⟩

theorem small_one (m b r : Nat) (v : IV) (J : Nat → Int) (h1 : v.args.n ≤ 20) (h2 : v.into.n ≤ 20) : SmallM (oneM m (oneF b r v J)) :=
 ⟨show 0 ≤ 14 by decide, show 0 ≤ 14 by decide, show 0 ≤ 8 by decide, show 1 ≤ 26 by decide, fun i hi => absurd (show i < 0 from hi) (by omega), fun i hi => absurd (show i < 0 from hi) (by omega), fun i hi => absurd (show i < 0 from hi) (by omega), fun k hk => light_one b r v J h1 h2, show 0 + (0 + 1) ≤ 400 by decide⟩

theorem small_no : SmallM noM :=
 ⟨show 0 ≤ 14 by decide, show 0 ≤ 14 by decide, show 0 ≤ 8 by decide, show 0 ≤ 26 by decide, fun i hi => absurd (show i < 0 from hi) (by omega), fun i hi => absurd (show i < 0 from hi) (by omega), fun i hi => absurd (show i < 0 from hi) (by omega), fun i hi => absurd (show i < 0 from hi) (by omega), show 0 ≤ 400 by decide⟩

theorem fit_no : FitM noM where
 lim := ⟨show 0 ≤ 24 by decide, show 0 ≤ 12 by decide, show 0 ≤ 12 by decide, show 0 ≤ 6 by decide, fun i hi => absurd (show i < 0 from hi) (by omega), fun i hi => absurd (show i < 0 from hi) (by omega), fun i hi => absurd (show i < 0 from hi) (by omega), fun i hi => absurd (show i < 0 from hi) (by omega)⟩
 form := ⟨fun i hi => absurd (show i < 0 from hi) (by omega), fun i hi => absurd (show i < 0 from hi) (by omega)⟩
 name := by
  have e : namesF noM noM.fns.n = [] := rfl
  unfold NameM Chk.Good
  rw [e]
  exact ⟨fun s h => by simp at h, by simp⟩
 sym := ⟨fun i hi => absurd (show i < 0 from hi) (by omega), fun i hi => absurd (show i < 0 from hi) (by omega)⟩
 flow := fun i hi => absurd (show i < 0 from hi) (by omega)
 use := fun i hi => absurd (show i < 0 from hi) (by omega)
 type := fun i hi => absurd (show i < 0 from hi) (by omega)

theorem lim_one (m b r : Nat) (v : IV) (J : Nat → Int) : LimM (oneM m (oneF b r v J)) :=
 ⟨show 1 ≤ 24 by decide, show 0 ≤ 12 by decide, show 0 ≤ 12 by decide, show 0 ≤ 6 by decide, fun i hi => absurd (show i < 0 from hi) (by omega), fun i hi => absurd (show i < 0 from hi) (by omega), fun i hi => absurd (show i < 0 from hi) (by omega), fun i hi => ⟨show 0 ≤ 5 by decide, show 1 ≤ 1 by decide, show 1 ≤ 40 by decide, show 0 + 1 ≤ 300 by decide⟩⟩

theorem form_one (m b r : Nat) (v : IV) (J : Nat → Int) (h : formB v = true) : FormM (oneM m (oneF b r v J)) :=
 ⟨fun i hi => absurd (show i < 0 from hi) (by omega), fun i hi => ⟨⟨show (0 : Int) ≤ 0 by decide, show (0 : Int) ≤ 4 by decide, show (0 : Int) ≠ 3 by decide, fun h => by cases h⟩, fun k hk => absurd (show k < 0 from hk) (by omega), fun j hj k hk => h⟩⟩

theorem name_f : NameOk ⟨#[102]⟩ := by
 refine ⟨by decide, by decide, by decide +kernel, by decide +kernel, fun i hi => ?_⟩
 have hi' : i < 1 := hi
 obtain rfl : i = 0 := by omega
 decide +kernel

theorem name_one (m b r : Nat) (v : IV) (J : Nat → Int) : NameM (oneM m (oneF b r v J)) := by
 have e : namesF (oneM m (oneF b r v J)) (oneM m (oneF b r v J)).fns.n = [⟨#[102]⟩] := rfl
 unfold NameM Chk.Good
 rw [e]
 refine ⟨fun s h => ?_, by simp⟩
 rw [List.mem_singleton.1 h]
 exact name_f

theorem sym_one (m b r : Nat) (v : IV) (J : Nat → Int) (h0 : v.sym = 0) (h : v.op = 27 ∨ v.op = 29) : SymM (oneM m (oneF b r v J)) :=
 ⟨fun i hi => absurd (show i < 0 from hi) (by omega), fun i hi j hj k hk => by
  show SymI _ v
  unfold SymI symN
  rcases h with h | h <;> rw [h, h0] <;> simp⟩

theorem fit_ret (m b r : Nat) (J : Nat → Int) : FitM (oneM m (oneF b r retI J)) where
 lim := lim_one _ _ _ _ _
 form := form_one _ _ _ _ _ (by decide)
 name := name_one _ _ _ _ _
 sym := sym_one _ _ _ _ _ rfl (.inr rfl)
 flow := fun i hi => by
  refine ⟨fun a ha => ⟨show 1 ≤ 1 by decide, fun k hk => ⟨?_, ?_⟩, fun i hi => absurd (show i < 0 from hi) (by omega), fun h => absurd (show (29 : Int) = 28 from h) (by decide)⟩, fun a ha => ⟨?_, fun k hk h => absurd (show (29 : Int) = 26 from h) (by decide)⟩⟩
  ·have hk' : k < 1 := hk
   obtain rfl : k = 0 := by omega
   show endB 29 = decide (0 = 1 - 1)
   simp [endB]
  ·rintro ⟨_, h, _⟩
   exact absurd (show (29 : Int) = 26 from h) (by decide)
  ·have ha' : a < 1 := ha
   obtain rfl : a = 0 := by omega
   exact .refl 0
 use := fun i hi => ⟨fun a ha k hk h => absurd (show (0 : Int) = 0 from rfl) h, fun a ha k hk i hi => absurd (show i < 0 from hi) (by omega)⟩
 type := fun i hi j hj k hk => by
  show FitI _ _ retI 0 _
  simp [FitI]

theorem err_jump (m b r a : Nat) : errM (oneM m (oneF b r (jumpI a) (fun _ => 0))) = 5 := by
 refine err_flow (lim_one _ _ _ _ _) (form_one _ _ _ _ _ (by simp [formB, mk, swB, endB])) (name_one _ _ _ _ _) (sym_one _ _ _ _ _ rfl (.inl rfl)) (fun h => ?_)
 have h1 := ((h 0 (show 0 < 1 by decide)).1 0 (show 0 < 1 by decide)).2.2.1 0 (show 0 < 1 by decide)
 exact absurd (show (1 : Int) ≤ 0 from h1.1) (by decide)

theorem jng_one {m b r : Nat} {v : IV} : ∀ i, i < (oneM m (oneF b r v (fun _ => 0))).fns.n → Jng ((oneM m (oneF b r v (fun _ => 0))).F i) :=
 fun i hi j hj k hk t ht => by show W64 0; constructor <;> decide

theorem in_one {w : World} {b r : Nat} {v : IV} {J : Nat → Int} (hb : Sls w ⟨some ⟨b, 0, none⟩, 1, 1⟩ (fun _ => ⟨some ⟨r, 0, none⟩, 1, 1⟩)) (hr : Inss w ⟨some ⟨r, 0, none⟩, 1, 1⟩ (fun _ => v)) (ha : Ints w v.args (fun _ => 0)) (hj : Ints w v.into J) : In w (oneF b r v J) :=
 ⟨litN _ _, hb, fun j hj => hr, fun j hj' k hk => ha, fun j hj' k hk => hj⟩

theorem row_no {α : Type} {z : Nat} {p : World → Nat → Nat → α → Prop} {w : World} {f : Nat → α} : Row z p w ⟨none, 0, 0⟩ f := ⟨Nat.le_refl _, Nat.zero_le _, fun _ => rfl, fun h => absurd h (by simp)⟩

theorem inM_one {w : World} {m : Nat} {F : FV} (hr : Row 5 FAt w ⟨some ⟨m, 0, none⟩, 1, 1⟩ (fun _ => F)) (hF : In w F) : InM w (oneM m F) :=
 ⟨row_no, fun i hi => absurd (show i < 0 from hi) (by omega), row_no, fun i hi => absurd (show i < 0 from hi) (by omega), row_no, fun i hi => absurd (show i < 0 from hi) (by omega), hr, fun k hk => hF⟩

theorem inM_no {w : World} : InM w noM :=
 ⟨row_no, fun i hi => absurd (show i < 0 from hi) (by omega), row_no, fun i hi => absurd (show i < 0 from hi) (by omega), row_no, fun i hi => absurd (show i < 0 from hi) (by omega), row_no, fun i hi => absurd (show i < 0 from hi) (by omega)⟩

theorem lit_ins (w : World) (v : IV) (N : Nat) (hN : w.heap.size = N) : Inss (w.alloc (.cells v.cells 43)) ⟨some ⟨N, 0, none⟩, 1, 1⟩ (fun _ => v) := by
 subst hN
 refine ⟨Nat.le_refl _, by show 1 ≤ _; omega, fun h => by simp at h, fun _ => ⟨w.heap.size, 0, rfl, fun i hi => ?_⟩⟩
 obtain rfl : i = 0 := by simp at hi; omega
 exact InsAt.alloc w v

theorem lit_blk (w : World) (s : Sl) (N : Nat) (hN : w.heap.size = N) : Sls (w.alloc (.cells #[.slice s.a s.n s.c] 40)) ⟨some ⟨N, 0, none⟩, 1, 1⟩ (fun _ => s) := by
 subst hN
 refine ⟨Nat.le_refl _, by show 1 ≤ _; omega, fun h => by simp at h, fun _ => ⟨w.heap.size, 0, rfl, fun i hi => ?_⟩⟩
 obtain rfl : i = 0 := by simp at hi; omega
 simp

theorem lit_fn (w : World) (F : FV) (N : Nat) (hN : w.heap.size = N) : Row 5 FAt (w.alloc (.cells (fcells F) 36)) ⟨some ⟨N, 0, none⟩, 1, 1⟩ (fun _ => F) := by
 subst hN
 refine ⟨Nat.le_refl _, by show 1 ≤ _; omega, fun h => by simp at h, fun _ => ⟨w.heap.size, 0, rfl, fun i hi => ?_⟩⟩
 obtain rfl : i = 0 := by simp at hi; omega
 exact ⟨by simp, by simp, by simp, by simp, by simp⟩

end Go.Proofs.YtnodofbpogcheaaGreat.Wf
