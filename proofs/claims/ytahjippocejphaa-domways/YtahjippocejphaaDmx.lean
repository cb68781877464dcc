/-
  plnlaw5.DomWays answers true.
-/
import Derived.Test.YtahjippocejphaaDmw
import Derived.Test.YtahjippocejphaaDmv
import Derived.Test.YtahjippocejphaaLow
namespace Go.Proofs.Ytahjippocejphaa.Dm
open Go.RowKit View Rd Copy Num Ty Srt Go.Proofs.Ytahjippocejphaa.Flo Go.Proofs.Ytahjippocejphaa.Lt

set_option linter.unusedVariables false

/-- All that is over x has been met. -/
structure Met (F : FV) (be : Nat → Bool) (x : Nat) : Prop where
  way : Go.Proofs.Ytahjippocejphaa.Flo.Way (su F) 0 x
  lt : x < F.blk.n
  met : ∀ a, DomR F a x → be a = true

theorem Met.start {F : FV} (h0 : 0 < F.blk.n) : Met F (fun i => if i = 0 then true else false) 0 :=
  ⟨.refl 0, h0, fun a h => by
    rcases h.2.2 with e | e
    · simp [e]
    · by_cases z : a = 0
      · simp [z]
      · exact absurd ⟨z, .refl 0⟩ e⟩

theorem Met.step {F : FV} {be : Nat → Bool} {x y : Nat} (h : Met F be x) (hs : y ∈ su F x) : Met F (fun i => if i = y then true else be i) y :=
  ⟨.step h.way hs, way_ltK (by have := h.lt; omega) (.step h.way hs), fun a ha => by
    rcases dom_step h.way hs ha with e | e
    · simp [e]
    · by_cases z : a = y
      · simp [z]
      · simp only [z, if_false]; exact h.met a e⟩

set_option maxRecDepth 10000 in
set_option maxHeartbeats 20000000 in
theorem domWays_any (F : FV) (s : Sl) (sf : Nat → Int) (w : World) (hF : In w F) (hj : Jng F) (hs : Ints w s sf) :
    Calls Try.prog 6 #[F.val, .slice s.a s.n s.c] w fun e w' => e = .returned (.bool true) ∧ Below w.heap.size w w' := by
  have HF := hid hF
  have HJ := hid hj
  have HS := hid hs
  clear hF hj hs
  go_enter Try.func6, Try.ntmps6
  go_wp2_with fail
  refine (first_any _).mono ?_
  rintro e w1 ⟨rfl, hb1⟩
  have f1 : FuncAt w1 w.heap.size F := (FuncAt.alloc w F).on hb1
  have hb1' := View.more (new (same w) _) hb1
  have B1 := hid hb1'
  have F1 := hid f1
  obtain ⟨c0, c1, c2, c3, c4⟩ := f1
  clear hb1 hb1'
  go_wp2_with fail
  refine (light_any F _ (HF.out.on B1.out)).mono ?_
  rintro e w2 ⟨r, rfl, hr, hb2⟩
  have B2 := hid (View.more B1.out hb2)
  have F2 := hid (F1.out.on hb2)
  clear c0 c1 c2 c3 c4 hb2 B1 F1
  cases r with
  | false =>
    obtain ⟨c0, c1, c2, c3, c4⟩ := F2.out
    go_wp2_with fail
    refine (first_any _).mono ?_
    rintro e w3 ⟨rfl, hb3⟩
    go_wp2_with fail
    go_ret
    exact ⟨rfl, View.more B2.out hb3⟩
  | true =>
    have hl := hr rfl
    have HL := hid hl
    have gb := hl.blk
    clear hl hr
    obtain ⟨c0, c1, c2, c3, c4⟩ := F2.out
    by_cases h0 : F.blk.n = 0
    · have t0 : ((F.blk.n : Int) == 0) = true := by simp [h0]
      have H0 := hid h0
      clear h0
      go_wp2_with fail
      refine (first_any _).mono ?_
      rintro e w3 ⟨rfl, hb3⟩
      go_wp2_with fail
      go_ret
      exact ⟨rfl, View.more B2.out hb3⟩
    have t0 : ((F.blk.n : Int) == 0) = false := by simp [h0]
    by_cases h40 : 40 < s.n
    · have t1 : decide ((40 : Int) < s.n) = true := by simp; omega
      go_wp2_with fail
      refine (first_any _).mono ?_
      rintro e w3 ⟨rfl, hb3⟩
      go_wp2_with fail
      go_ret
      exact ⟨rfl, View.more B2.out hb3⟩
    have t1 : decide ((40 : Int) < s.n) = false := by simp; omega
    have hmk := run_make_row' (P := Try.prog) 52 4 (.bool false) 1 underlying52 info4 rfl .i64 .i64 F.blk.n (by omega) (by omega)
    have hbz : ∀ wx, (Instr.indexAt 52 (.slice (some ⟨w2.heap.size, 0, none⟩) F.blk.n F.blk.n) (.int .i64 0)).run Try.prog wx = .ok (.pointer (some ⟨w2.heap.size, 0, none⟩)) wx := bool_at (g := w2.heap.size) (x := 0) (show 0 < F.blk.n by omega)
    have r2 := World.rowIs_made w2 (.bool false) F.blk.n 4
    have rc2 := r2.cell (show 0 < F.blk.n by omega)
    have rz2 := r2.frozen 0
    have R2 := hid r2
    clear r2
    go_wp2_with fail
    clear hmk hbz rc2 rz2
    obtain ⟨M, hM⟩ : ∃ M, w2.heap.size = M := ⟨_, rfl⟩
    obtain ⟨W, hW⟩ : ∃ W, w2.alloc (.cells ((madeCells #[.bool false] F.blk.n).setIfInBounds 0 (.bool true)) 4) = W := ⟨_, rfl⟩
    have hWe : (w2.alloc (.cells (madeCells #[.bool false] F.blk.n) 4)).setCell ⟨w2.heap.size, 0, none⟩ (.bool true) = W := by rw [← hW]; exact World.setCell_alloc_at _ _ _ _ _ rfl
    have R3 := hid (show W.rowIs M 4 F.blk.n (fun i => .bool (if i = 0 then true else false)) by
      rw [← hWe, ← hM]
      exact (R2.out.set 0 (.bool true)).congr (fun i hi => by by_cases e : i = 0 <;> simp [e]))
    have B3 := hid (show Below w2.heap.size w2 W by
      rw [← hW]
      exact new (same w2) _)
    clear hWe
    simp only [hM, hW]
    have n0 : 0 < F.blk.n := by omega
    clear hW c0 c1 c2 c3 c4 R2 t0 t1 h0
    go_loopw [6, 7] (fun av iv wr => ∃ (k x : Nat) (be : Nat → Bool), k ≤ s.n ∧ iv = .int .i64 k ∧ av = .int .i64 x ∧ Met F be x ∧ wr.rowIs M 4 F.blk.n (fun i => .bool (be i)) ∧ Below w2.heap.size w2 wr) (fun _ iv _ => s.n - (intOf iv).toNat)
    case atStart => exact ⟨0, 0, _, Nat.zero_le _, rfl, rfl, Met.start (by omega), R3.out, B3.out⟩
    case round =>
      clear R3 B3
      obtain ⟨k, x, be, hk, rfl, rfl, hmet, hrow, hbl⟩ := hrel
      have HM := hid hmet
      have HR := hid hrow
      have HB := hid hbl
      have hx := hmet.lt
      have ml := hrow.lt
      have t2 : decide ((k : Int) ≤ s.n) = true := by simp; omega
      clear hmet hrow hbl
      go_wp2_with fail
      go_loopw [8] (fun jv wx => ∃ a : Nat, a ≤ F.blk.n ∧ jv = .int .i64 a ∧ Below wr.heap.size wr wx) (fun jv _ => F.blk.n - (intOf jv).toNat)
      case atStart => exact ⟨0, Nat.zero_le _, rfl, same _⟩
      case round =>
        obtain ⟨a, ha, rfl, hbx⟩ := hrel
        have HX := hid hbx
        obtain ⟨c0, c1, c2, c3, c4⟩ := F2.out.on (View.more HB.out hbx)
        clear hbx
        by_cases la : a < F.blk.n
        · go_wp2_with fail
          refine (dom_any F a x _ (HF.out.on (View.more B2.out (View.more HB.out HX.out))) HL.out HJ.out).mono ?_
          rintro e wy ⟨r, rfl, hr, hby⟩
          have HY := hid (View.more HX.out hby)
          clear c0 c1 c2 c3 c4 hby
          cases r with
          | false =>
            clear hr
            go_wp2_with fail
            go_round
            case rel => exact ⟨a + 1, by omega, by go_num, HY.out⟩
            case measure => simp [intOf]; omega
          | true =>
            have hbe : be a = true := HM.out.met a (by have := (hr.1 rfl).2.2.2.2; simpa using this)
            have i1 := bool_at (g := M) la
            have p1 := cell_on HY.out (HR.out.cell la)
            rw [hbe] at p1
            clear hr hbe
            go_wp2_with fail
            go_round
            case rel => exact ⟨a + 1, by omega, by go_num, HY.out⟩
            case measure => simp [intOf]; omega
        obtain rfl : a = F.blk.n := by omega
        clear ha la
        go_wp2_with fail
        refine (dom_any F x x _ (HF.out.on (View.more B2.out (View.more HB.out HX.out))) HL.out HJ.out).mono ?_
        rintro e wy ⟨r, rfl, hr, hby⟩
        obtain rfl : r = true := hr.2 ⟨by omega, by omega, by omega, by omega, by simpa using dom_self HM.out.way⟩
        have HY := hid (View.more HX.out hby)
        clear c0 c1 c2 c3 c4 hby hr HX
        obtain ⟨c0, c1, c2, c3, c4⟩ := F2.out.on (View.more HB.out HY.out)
        go_wp2_with fail
        refine (dom_any F 0 x _ (HF.out.on (View.more B2.out (View.more HB.out HY.out))) HL.out HJ.out).mono ?_
        rintro e wz ⟨r, rfl, hr, hbz⟩
        obtain rfl : r = true := hr.2 ⟨by omega, by omega, by omega, by omega, by simpa using dom_zero HM.out.way⟩
        have HZ := hid (View.more HY.out hbz)
        clear c0 c1 c2 c3 c4 hbz hr HY
        obtain ⟨c0, c1, c2, c3, c4⟩ := F2.out.on (View.more HB.out HZ.out)
        go_wp2_with fail
        refine (next_ref F x _ (HF.out.on (View.more B2.out (View.more HB.out HZ.out))) HL.out).mono ?_
        rintro e wu ⟨l, rfl, hln, hli, _, hbu⟩
        rw [suI_nat] at hln hli
        have HU := hid (View.more HZ.out hbu)
        have LN := hid hln
        have LI := hid hli
        have hle := su_le HL.out x
        clear c0 c1 c2 c3 c4 hbu HZ hln hli
        by_cases hl0 : l.n = 0
        · have t4 : ((l.n : Int) == 0) = true := by simp [hl0]
          have H0' := hid hl0
          clear hl0
          go_wp2_with fail
          go_ret
          exact ⟨rfl, View.more B2.out (View.more HB.out HU.out)⟩
        have t4 : ((l.n : Int) == 0) = false := by simp [hl0]
        by_cases hks : k = s.n
        · have t5 : ((k : Int) == (s.n : Int)) = true := by simp [hks]
          have HK := hid hks
          clear hks
          go_wp2_with fail
          go_ret
          exact ⟨rfl, View.more B2.out (View.more HB.out HU.out)⟩
        have t5 : ((k : Int) == (s.n : Int)) = false := by simp; omega
        have lk : k < s.n := by omega
        obtain ⟨b1, o1, i1, p1⟩ := Ints.at (HS.out.on (View.more B2.out (View.more HB.out HU.out))) lk
        obtain ⟨y0, hy0, q0, hq0, hq1⟩ := Low.red16 (sf k) (show 0 < l.n by omega)
        obtain ⟨b2, o2, i2, p2⟩ := Ints.at LI.out hy0
        have hn0 : ((l.n : Int) = 0) = False := by simp; omega
        obtain ⟨y, hy⟩ : ∃ y, (su F x).getD y0 0 = y := ⟨_, rfl⟩
        rw [hy] at p2
        have hys : y ∈ su F x := by rw [← hy]; exact getD_mem (by have := LN.out; omega)
        have hM2 := HM.out.step hys
        have hyl := hM2.lt
        have MS := hid hM2
        have i3 := bool_at (g := M) hyl
        have r3 := HR.out.of_block (HU.out.block M ml)
        have p3 := r3.cell hyl
        have z3 := r3.frozen y
        have R3 := hid r3
        clear hys hy hM2 hks r3
        go_wp2_with fail
        go_round
        case rel =>
          have hR := (R3.out.set y (.bool true)).congr (g := fun i => .bool (if i = y then true else be i)) (fun i hi => by by_cases e : i = y <;> simp [e])
          first
            | exact ⟨k + 1, y, _, by omega, by go_num, rfl, MS.out, hR, (View.more HB.out HU.out).setCell (by show w2.heap.size ≤ M; omega) _⟩
            | ((repeat apply Exists.intro); exact ⟨⟨k + 1, y, _, by omega, by go_num, rfl, MS.out, hR, (View.more HB.out HU.out).setCell (by show w2.heap.size ≤ M; omega) _⟩, rfl⟩)
        case measure => simp [intOf]; omega

end Go.Proofs.Ytahjippocejphaa.Dm
