/-
  Which modules may be, by the document: plnref3.Check; plnkeep.Fit.
-/
import Derived.Test.YtahjippocejphaaChkZ
import Derived.Test.YtahjippocejphaaJ4
import Derived.Test.YtahjippocejphaaJ3
import Derived.Test.YtahjippocejphaaChkL
import Derived.Test.YtahjippocejphaaChkS
import Derived.Deep.RegionHeld3
namespace Go.Proofs.Ytahjippocejphaa.Chk
open Go.RowKit View Rd Num Opn Copy Ty Srt Go.Proofs.Ytahjippocejphaa.Mod Go.Proofs.Ytahjippocejphaa.Flo

set_option linter.unusedVariables false

/-- A module that may be. -/
structure FitM (M : MV) : Prop where
  lim : LimM M
  form : FormM M
  name : NameM M
  sym : SymM M
  flow : ∀ i, i < M.fns.n → FlowF (M.F i)
  use : ∀ i, i < M.fns.n → UseF (M.F i)
  type : ∀ i, i < M.fns.n → TypeF M (M.F i)

theorem argsF_of {F : FV} (h : UseF F) : ArgsF F := fun j hj k hk i hi => by
  obtain ⟨h1, h2, _⟩ := h.2 j hj k hk i hi
  rw [typesL_length]
  unfold allV at h2
  omega

/-- An answer: 0 where p holds. -/
def Err (p : Prop) (w : World) (e : Ending) (w' : World) : Prop := ∃ r : Int, e = .returned (.int .i64 r) ∧ (r = 0 ↔ p) ∧ Below w.heap.size w w'

set_option maxRecDepth 10000 in
set_option maxHeartbeats 8000000 in
theorem check_any (M : MV) (w : World) (hM : InM w M) (hs : SmallM M) : Calls Try.prog 21 #[M.val] w fun e w' => Err (FitM M) w e w' := by
  have x4 := hs.fns
  obtain ⟨W, hW⟩ : ∃ W, w.alloc (.cells (mcells M) 27) = W := ⟨_, rfl⟩
  have LW := hid (show Below w.heap.size w W by rw [← hW]; exact new (same w) _)
  have MW := hid (show W.cell? ⟨w.heap.size, 0, none⟩ = some (.slice M.ext.a M.ext.n M.ext.c) ∧ W.cell? ⟨w.heap.size, 1, none⟩ = some (.slice M.glo.a M.glo.n M.glo.c) ∧ W.cell? ⟨w.heap.size, 2, none⟩ = some (.slice M.tab.a M.tab.n M.tab.c) ∧ W.cell? ⟨w.heap.size, 3, none⟩ = some (.slice M.fns.a M.fns.n M.fns.c) by
    rw [← hW]
    exact ⟨by simp, by simp, by simp, by simp⟩)
  have IM := hid (hM.on LW.out)
  have HS := hid hs
  have HWW := hid hW
  have S0 := hid (same W)
  clear hM hs hW
  go_enter Try.func21, Try.ntmps21
  go_wp2_with fail
  simp only [HWW.out]
  clear HWW
  obtain ⟨m0, m1, m2, m3⟩ := MW.out
  have m0 := cell_on S0.out m0
  have m1 := cell_on S0.out m1
  have m2 := cell_on S0.out m2
  have m3 := cell_on S0.out m3
  go_wp2_with fail
  refine (limits_any M _ (IM.out.on S0.out) HS.out).mono ?_
  rintro e w1 ⟨r1, rfl, hr1, hb1⟩
  have R1 := hid hr1
  have B1 := hid (View.more S0.out hb1)
  clear hr1 hb1 m0 m1 m2 m3
  cases r1 with
  | false =>
    have HN := hid (show ¬ FitM M from fun h => by have := R1.out.2 h.lim; cases this)
    go_wp2_with fail
    go_ret
    exact ⟨_, rfl, by simp [HN.out], View.more LW.out B1.out⟩
  | true =>
  have P1 := hid (R1.out.1 rfl)
  clear R1
  obtain ⟨m0, m1, m2, m3⟩ := MW.out
  have m0 := cell_on B1.out m0
  have m1 := cell_on B1.out m1
  have m2 := cell_on B1.out m2
  have m3 := cell_on B1.out m3
  go_wp2_with fail
  refine (forms_any M _ (IM.out.on B1.out) HS.out).mono ?_
  rintro e w2 ⟨r2, rfl, hr2, hb2⟩
  have R2 := hid hr2
  have B2 := hid (View.more B1.out hb2)
  clear hr2 hb2 m0 m1 m2 m3
  cases r2 with
  | false =>
    have HN := hid (show ¬ FitM M from fun h => by have := R2.out.2 h.form; cases this)
    go_wp2_with fail
    go_ret
    exact ⟨_, rfl, by simp [HN.out], View.more LW.out B2.out⟩
  | true =>
  have P2 := hid (R2.out.1 rfl)
  clear R2
  obtain ⟨m0, m1, m2, m3⟩ := MW.out
  have m0 := cell_on B2.out m0
  have m1 := cell_on B2.out m1
  have m2 := cell_on B2.out m2
  have m3 := cell_on B2.out m3
  go_wp2_with fail
  refine (names_any M _ (IM.out.on B2.out) HS.out).mono ?_
  rintro e w3 ⟨r3, rfl, hr3, hb3⟩
  have R3 := hid hr3
  have B3 := hid (View.more B2.out hb3)
  clear hr3 hb3 m0 m1 m2 m3
  cases r3 with
  | false =>
    have HN := hid (show ¬ FitM M from fun h => by have := R3.out.2 h.name; cases this)
    go_wp2_with fail
    go_ret
    exact ⟨_, rfl, by simp [HN.out], View.more LW.out B3.out⟩
  | true =>
  have P3 := hid (R3.out.1 rfl)
  clear R3
  obtain ⟨m0, m1, m2, m3⟩ := MW.out
  have m0 := cell_on B3.out m0
  have m1 := cell_on B3.out m1
  have m2 := cell_on B3.out m2
  have m3 := cell_on B3.out m3
  go_wp2_with fail
  refine (syms_any M _ (IM.out.on B3.out) HS.out).mono ?_
  rintro e w4 ⟨r4, rfl, hr4, hb4⟩
  have R4 := hid hr4
  have B4 := hid (View.more B3.out hb4)
  clear hr4 hb4 m0 m1 m2 m3
  cases r4 with
  | false =>
    have HN := hid (show ¬ FitM M from fun h => by have := R4.out.2 h.sym; cases this)
    go_wp2_with fail
    go_ret
    exact ⟨_, rfl, by simp [HN.out], View.more LW.out B4.out⟩
  | true =>
  have P4 := hid (R4.out.1 rfl)
  clear R4
  go_wp2_with fail
  go_loopw [3] (fun iv wr => ∃ i_ : Nat, i_ ≤ M.fns.n ∧ iv = .int .i64 i_ ∧ (∀ i, i < i_ → FlowF (M.F i)) ∧ Below W.heap.size W wr) (fun iv _ => M.fns.n - (intOf iv).toNat)
  case atStart => exact ⟨0, Nat.zero_le _, rfl, fun t ht => by omega, B4.out⟩
  case round =>
    obtain ⟨i, hi, rfl, hall, hb⟩ := hrel
    have HA := hid (And.intro hall hb)
    obtain ⟨m0, m1, m2, m3⟩ := MW.out
    have m0 := cell_on hb m0
    have m1 := cell_on hb m1
    have m2 := cell_on hb m2
    have m3 := cell_on hb m3
    by_cases li : i < M.fns.n
    · obtain ⟨b, o, hix, c0, c1, c2, c3, c4⟩ := (IM.out.on hb).fns.at underlying25 size33 li
      have HZ := same wr
      have CL := hid (flows_any (M.F i) _ (((IM.out.on hb).fnI i li).on HZ) (HS.out.light i li) (P2.out.fns i li))
      clear hall hb
      go_wp2_with fail
      refine CL.out.mono ?_
      rintro e w9 ⟨r, rfl, hr, hb9⟩
      have HR := hid hr
      have B9 := hid (View.more HA.out.2 hb9)
      clear hr hb9 c0 c1 c2 c3 c4 m0 m1 m2 m3
      cases r with
      | false =>
        have HN := hid (show ¬ FitM M from fun h => by have := HR.out.2 (h.flow i li); cases this)
        go_wp2_with fail
        go_ret
        exact ⟨_, rfl, by simp [HN.out], View.more LW.out B9.out⟩
      | true =>
        have HP := hid (HR.out.1 rfl)
        go_wp2_with fail
        go_round
        case rel =>
          have f := upto1 HA.out.1 HP.out
          first
            | exact ⟨i + 1, by omega, by go_num, f, B9.out⟩
            | ((repeat apply Exists.intro); exact ⟨⟨i + 1, by omega, by go_num, f, B9.out⟩, rfl⟩)
        case measure => simp [intOf]; omega
    · obtain rfl : i = M.fns.n := by omega
      have Q1 := hid hall
      have BQ1 := hid hb
      clear hall hb HA
      go_wp2_with fail
      clear m0 m1 m2 m3
      go_loopw [4] (fun iv wr => ∃ i_ : Nat, i_ ≤ M.fns.n ∧ iv = .int .i64 i_ ∧ (∀ i, i < i_ → UseF (M.F i)) ∧ Below W.heap.size W wr) (fun iv _ => M.fns.n - (intOf iv).toNat)
      case atStart => exact ⟨0, Nat.zero_le _, rfl, fun t ht => by omega, BQ1.out⟩
      case round =>
        obtain ⟨i, hi, rfl, hall, hb⟩ := hrel
        have HA := hid (And.intro hall hb)
        obtain ⟨m0, m1, m2, m3⟩ := MW.out
        have m0 := cell_on hb m0
        have m1 := cell_on hb m1
        have m2 := cell_on hb m2
        have m3 := cell_on hb m3
        by_cases li : i < M.fns.n
        · obtain ⟨b, o, hix, c0, c1, c2, c3, c4⟩ := (IM.out.on hb).fns.at underlying25 size33 li
          have HZ := same wr
          have CL := hid (uses_any (M.F i) _ (((IM.out.on hb).fnI i li).on HZ) (HS.out.light i li) (P2.out.fns i li) (Q1.out i li))
          clear hall hb
          go_wp2_with fail
          refine CL.out.mono ?_
          rintro e w9 ⟨r, rfl, hr, hb9⟩
          have HR := hid hr
          have B9 := hid (View.more HA.out.2 hb9)
          clear hr hb9 c0 c1 c2 c3 c4 m0 m1 m2 m3
          cases r with
          | false =>
            have HN := hid (show ¬ FitM M from fun h => by have := HR.out.2 (h.use i li); cases this)
            go_wp2_with fail
            go_ret
            exact ⟨_, rfl, by simp [HN.out], View.more LW.out B9.out⟩
          | true =>
            have HP := hid (HR.out.1 rfl)
            go_wp2_with fail
            go_round
            case rel =>
              have f := upto1 HA.out.1 HP.out
              first
                | exact ⟨i + 1, by omega, by go_num, f, B9.out⟩
                | ((repeat apply Exists.intro); exact ⟨⟨i + 1, by omega, by go_num, f, B9.out⟩, rfl⟩)
            case measure => simp [intOf]; omega
        · obtain rfl : i = M.fns.n := by omega
          have Q2 := hid hall
          have BQ2 := hid hb
          clear hall hb HA
          go_wp2_with fail
          clear m0 m1 m2 m3
          go_loopw [5] (fun iv wr => ∃ i_ : Nat, i_ ≤ M.fns.n ∧ iv = .int .i64 i_ ∧ (∀ i, i < i_ → TypeF M (M.F i)) ∧ Below W.heap.size W wr) (fun iv _ => M.fns.n - (intOf iv).toNat)
          case atStart => exact ⟨0, Nat.zero_le _, rfl, fun t ht => by omega, BQ2.out⟩
          case round =>
            obtain ⟨i, hi, rfl, hall, hb⟩ := hrel
            have HA := hid (And.intro hall hb)
            by_cases li : i < M.fns.n
            · obtain ⟨b, o, hix, fat⟩ := IM.out.fns.at underlying25 size33 li
              have cc : ∀ wx, Below W.heap.size W wx → (wx.cell? ⟨w.heap.size, 0, none⟩ = some (.slice M.ext.a M.ext.n M.ext.c) ∧ wx.cell? ⟨w.heap.size, 1, none⟩ = some (.slice M.glo.a M.glo.n M.glo.c) ∧ wx.cell? ⟨w.heap.size, 2, none⟩ = some (.slice M.tab.a M.tab.n M.tab.c) ∧ wx.cell? ⟨w.heap.size, 3, none⟩ = some (.slice M.fns.a M.fns.n M.fns.c)) := fun wx h => ⟨cell_on h MW.out.1, cell_on h MW.out.2.1, cell_on h MW.out.2.2.1, cell_on h MW.out.2.2.2⟩
              have k0 := fun wx h => (cc wx h).1
              have k1 := fun wx h => (cc wx h).2.1
              have k2 := fun wx h => (cc wx h).2.2.1
              have k3 := fun wx h => (cc wx h).2.2.2
              have k4 : ∀ wx, Below W.heap.size W wx → wx.cell? ⟨b, o, none⟩ = some (.string (M.F i).name) := fun wx h => (fat.on h).c0
              have k5 : ∀ wx, Below W.heap.size W wx → wx.cell? ⟨b, o + 1, none⟩ = some (.bool (M.F i).out) := fun wx h => (fat.on h).c1
              have k6 : ∀ wx, Below W.heap.size W wx → wx.cell? ⟨b, o + 2, none⟩ = some (.slice (M.F i).par.a (M.F i).par.n (M.F i).par.c) := fun wx h => (fat.on h).c2
              have k7 : ∀ wx, Below W.heap.size W wx → wx.cell? ⟨b, o + 3, none⟩ = some (.int .i64 (M.F i).res) := fun wx h => (fat.on h).c3
              have k8 : ∀ wx, Below W.heap.size W wx → wx.cell? ⟨b, o + 4, none⟩ = some (.slice (M.F i).blk.a (M.F i).blk.n (M.F i).blk.c) := fun wx h => (fat.on h).c4
              have m3 := k3 _ hb
              have st0 : Below W.heap.size W wr.drew := Below.drew hb
              clear hall hb cc fat
              go_wp2_with fail
              clear m3
              go_region_held3 (fun wx => Below W.heap.size W wx) (first | exact st0 | exact st1)
                (first
                  | (go_at_call 67; refine (types_any M (M.F i) _ (IM.out.on (by assumption)) HS.out ((IM.out.on (by assumption)).fnI i li) (HS.out.light i li) (P2.out.fns i li) (fun j hj k hk => P4.out.ins i li j hj k hk) (argsF_of (Q2.out i li))).mono ?_; rintro e w9 ⟨r, rfl, hr, hb9⟩; have HR := hid hr; have st1 : Below W.heap.size W w9 := View.more (by assumption) hb9; clear hr hb9))
              have B9 := hid st1
              clear k0 k1 k2 k3 k4 k5 k6 k7 k8 st0 st1
              cases r with
              | false =>
                have HN := hid (show ¬ FitM M from fun h => by have := HR.out.2 (h.type i li); cases this)
                go_wp2_with fail
                go_ret
                exact ⟨_, rfl, by simp [HN.out], View.more LW.out B9.out⟩
              | true =>
                have HP := hid (HR.out.1 rfl)
                go_wp2_with fail
                go_round
                case rel =>
                  have f := upto1 HA.out.1 HP.out
                  first
                    | exact ⟨i + 1, by omega, by go_num, f, B9.out⟩
                    | ((repeat apply Exists.intro); exact ⟨⟨i + 1, by omega, by go_num, f, B9.out⟩, rfl⟩)
                case measure => simp [intOf]; omega
            · obtain rfl : i = M.fns.n := by omega
              have Q3 := hid hall
              have BQ3 := hid hb
              have m3 := cell_on hb MW.out.2.2.2
              clear hall hb HA
              go_wp2_with fail
              go_ret
              exact ⟨_, rfl, by simp; exact ⟨P1.out, P2.out, P3.out, P4.out, Q1.out, Q2.out, Q3.out⟩, View.more LW.out BQ3.out⟩

set_option maxHeartbeats 1000000 in
theorem fit_any (M : MV) (w : World) (hM : InM w M) : Calls Try.prog 12 #[M.val] w fun e w' => Ans (fun r => r = true → SmallM M ∧ FitM M) w e w' := by
  have HM := hid hM
  clear hM
  go_enter Try.func12, Try.ntmps12
  go_wp2_with fail
  refine (small_any M _ (HM.out.on (new (same w) _))).mono ?_
  rintro e w1 ⟨r, rfl, hr, hb⟩
  have HR := hid (show r = true → SmallM M from hr)
  have B1 := hid (View.more (new (same w) _) hb)
  have m0 := cell_on hb (show (w.alloc (.cells (mcells M) 27)).cell? ⟨w.heap.size, 0, none⟩ = some (.slice M.ext.a M.ext.n M.ext.c) by simp)
  have m1 := cell_on hb (show (w.alloc (.cells (mcells M) 27)).cell? ⟨w.heap.size, 1, none⟩ = some (.slice M.glo.a M.glo.n M.glo.c) by simp)
  have m2 := cell_on hb (show (w.alloc (.cells (mcells M) 27)).cell? ⟨w.heap.size, 2, none⟩ = some (.slice M.tab.a M.tab.n M.tab.c) by simp)
  have m3 := cell_on hb (show (w.alloc (.cells (mcells M) 27)).cell? ⟨w.heap.size, 3, none⟩ = some (.slice M.fns.a M.fns.n M.fns.c) by simp)
  clear hr hb
  cases r with
  | false =>
    go_wp2_with fail
    go_ret
    exact ⟨false, rfl, (fun h => by cases h), B1.out⟩
  | true =>
    have HSm := hid (HR.out rfl)
    clear HR
    go_wp2_with fail
    refine (check_any M _ (HM.out.on B1.out) HSm.out).mono ?_
    rintro e w2 ⟨r, rfl, hr, hb⟩
    have HR2 := hid hr
    have B2 := hid (View.more B1.out hb)
    clear hr hb m0 m1 m2 m3
    go_wp2_with fail
    go_ret
    exact ⟨_, rfl, (fun h => ⟨HSm.out, HR2.out.1 (by simpa using h)⟩), B2.out⟩

end Go.Proofs.Ytahjippocejphaa.Chk
