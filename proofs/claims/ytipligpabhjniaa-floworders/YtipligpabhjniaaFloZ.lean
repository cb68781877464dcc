/-
  plnlaw4.FlowOrders answers true.
-/
import Derived.Test.YtipligpabhjniaaFloW
namespace Go.Proofs.Ytipligpabhjniaa.Flo
open Go.RowKit View Rd Copy Num Ty Srt

set_option linter.unusedVariables false

/-- Where those stand, from one on, of whom k have been gone through. -/
def at1 (L : List Nat) (k i : Nat) : Int := if i ∈ L.take k then (pos L i : Int) + 1 else 0

theorem at1_full {L : List Nat} {k : Nat} (hk : k = L.length) {i : Nat} : at1 L k i = if i ∈ L then (pos L i : Int) + 1 else 0 := by
  subst hk; unfold at1; rw [List.take_length]

/-- Of the first k of a row: is one of the order ahead of b? -/
def ahd (L : List Nat) (P : List Nat) (b k : Nat) : Bool := (List.range k).any (fun i => decide (P.getD i 0 ∈ L) && decide (pos L (P.getD i 0) < pos L b))
def alb (L : List Nat) (P : List Nat) (b k : Nat) : Bool := (List.range k).all (fun i => !decide (P.getD i 0 ∈ L) || decide (pos L (P.getD i 0) < pos L b))

theorem ahd_succ (L P : List Nat) (b k : Nat) : ahd L P b (k + 1) = (ahd L P b k || (decide (P.getD k 0 ∈ L) && decide (pos L (P.getD k 0) < pos L b))) := by
  simp [ahd, List.range_succ]
theorem alb_succ (L P : List Nat) (b k : Nat) : alb L P b (k + 1) = (alb L P b k && (!decide (P.getD k 0 ∈ L) || decide (pos L (P.getD k 0) < pos L b))) := by
  simp [alb, List.range_succ]

theorem ahd_true {F : FV} {L : List Nat} (h : Ord F L) {b : Nat} (hb : b ∈ L) (h0 : b ≠ 0) : ahd L (pvL F F.blk.n b) b (pvL F F.blk.n b).length = true := by
  obtain ⟨i, hi, e⟩ := List.getElem_of_mem hb
  have e' : L[i]? = some b := by rw [List.getElem?_eq_getElem hi, e]
  rcases h.par i b e' with h' | ⟨j, z, hj, hz, hbz⟩
  · exact absurd h' h0
  · have hzL := List.mem_of_getElem? hz
    have hzp : z ∈ pvL F F.blk.n b := mem_pvL.2 ⟨h.lt z hzL, hbz⟩
    obtain ⟨q, hq, e2⟩ := List.getElem_of_mem hzp
    unfold ahd
    rw [List.any_eq_true]
    refine ⟨q, List.mem_range.2 hq, ?_⟩
    have hg : (pvL F F.blk.n b).getD q 0 = z := by simp only [List.getD, List.getElem?_eq_getElem hq, e2, Option.getD_some]
    rw [hg]
    simp only [Bool.and_eq_true, decide_eq_true_eq]
    exact ⟨hzL, by rw [pos_at h.nd hz, pos_at h.nd e']; exact hj⟩

theorem alb_false {F : FV} {L : List Nat} (h : Ord F L) {b : Nat} (hb : b ∈ L) (hf : alb L (pvL F F.blk.n b) b (pvL F F.blk.n b).length = false) : stepBack F L := by
  unfold alb at hf
  rw [List.all_eq_false] at hf
  obtain ⟨q, hq, hn⟩ := hf
  simp only [Bool.not_eq_true, Bool.or_eq_false_iff, Bool.not_eq_eq_eq_not, Bool.not_false, decide_eq_true_eq, decide_eq_false_iff_not] at hn
  obtain ⟨hz, hp⟩ := hn
  have hm := mem_pvL.1 (getD_mem (List.mem_range.1 hq))
  obtain ⟨i, hi, e⟩ := List.getElem_of_mem hz
  have e' : L[i]? = some ((pvL F F.blk.n b).getD q 0) := by rw [List.getElem?_eq_getElem hi, e]
  exact ⟨i, _, e', b, hm.2, by have := pos_at h.nd e'; omega⟩

set_option maxRecDepth 10000 in
set_option maxHeartbeats 4000000 in
theorem orders_any (F : FV) (w : World) (hF : In w F) (hj : Jng F) :
    Calls Try.prog 4 #[F.val] w fun e w' => e = .returned (.bool true) ∧ Below w.heap.size w w' := by
  have HF := hid hF
  have HJ := hid hj
  clear hF hj
  go_enter Try.func4, Try.ntmps4
  go_wp2_with fail
  refine (first_any _).mono ?_
  rintro e w1 ⟨rfl, hb1⟩
  have f1 : FuncAt w1 w.heap.size F := (FuncAt.alloc w F).on hb1
  have hb1' := View.more (new (same w) _) hb1
  have B1 := hid hb1'
  have F1 := hid f1
  obtain ⟨c0, c1, c2, c3, c4⟩ := f1
  clear hb1 hb1'
  go_wp2_with fail
  refine (light_any F _ (HF.out.on B1.out)).mono ?_
  rintro e w2 ⟨r, rfl, hr, hb2⟩
  have B2 := hid (View.more B1.out hb2)
  have F2 := hid (F1.out.on hb2)
  clear c0 c1 c2 c3 c4 hb2 B1 F1
  cases r with
  | false =>
    go_wp2_with fail
    refine (first_any _).mono ?_
    rintro e w3 ⟨rfl, hb3⟩
    go_wp2_with fail
    go_ret
    exact ⟨rfl, View.more B2.out hb3⟩
  | true =>
    have hl := hr rfl
    have HL := hid hl
    have gb := hl.blk
    clear hl hr
    obtain ⟨L, hL⟩ := ord_ex F
    have OI := hid hL
    have OD := hid hL.ord
    have IW := hid (HF.out.on B2.out)
    have A0 : ∀ wx, Below w2.heap.size w2 wx → wx.cell? ⟨w.heap.size, 0, none⟩ = some (.string F.name) := fun wx h => cell_on h F2.out.c0
    have A1 : ∀ wx, Below w2.heap.size w2 wx → wx.cell? ⟨w.heap.size, 1, none⟩ = some (.bool F.out) := fun wx h => cell_on h F2.out.c1
    have A2 : ∀ wx, Below w2.heap.size w2 wx → wx.cell? ⟨w.heap.size, 2, none⟩ = some (.slice F.par.a F.par.n F.par.c) := fun wx h => cell_on h F2.out.c2
    have A3 : ∀ wx, Below w2.heap.size w2 wx → wx.cell? ⟨w.heap.size, 3, none⟩ = some (.int .i64 F.res) := fun wx h => cell_on h F2.out.c3
    have A4 : ∀ wx, Below w2.heap.size w2 wx → wx.cell? ⟨w.heap.size, 4, none⟩ = some (.slice F.blk.a F.blk.n F.blk.c) := fun wx h => cell_on h F2.out.c4
    have st0 : Below w2.heap.size w2 w2.drew := Below.drew (same _)
    clear hL
    go_wp2_with fail
    go_region_held3 (fun wx => Below w2.heap.size w2 wx) (first | exact st0 | exact st1 | exact st2 | exact st3)
      (first
        | (go_at_call 18; refine (order_flow F L _ OI.out (IW.out.on st0) HL.out HJ.out).mono ?_; rintro e wa ⟨s, rfl, hsn, hsi, hsm, hba⟩; have SN := hid hsn; clear hsn; have st1 : Below w2.heap.size w2 wa := View.more st0 hba)
        | (go_at_call 16; refine (reach_flow F L _ OI.out (IW.out.on st1) HL.out HJ.out).mono ?_; rintro e wb ⟨M2, rfl, hrr, hM2, hbb⟩; have st2 : Below w2.heap.size w2 wb := View.more st1 hbb; have hsi2 := hsi.on hbb)
        | (go_at_call 13; refine (prev_flow F _ (IW.out.on st2) HL.out HJ.out).mono ?_; rintro e wc ⟨M, R, rfl, hpv, hM, hbc⟩; have st3 : Below w2.heap.size w2 wc := View.more st2 hbc; have hsi3 := hsi2.on hbc; have hrr3 := hrr.of_block (hbc.block _ hrr.lt)))
    have hs16 : s.n ≤ 16 := by have := OD.out.len; have := SN.out; omega
    have f3 := F2.out.on st3
    have hmk := run_make_row' (P := Try.prog) 22 3 (.int .i64 0) 8 underlying22 info3 rfl .i64 .i64 F.blk.n (by omega) (by omega)
    have B3 := hid (View.more B2.out st3)
    have SI := hid hsi3
    have HR := hid hrr3
    have HP := hid hpv
    have F3 := hid f3
    obtain ⟨c0, c1, c2, c3, c4⟩ := f3
    have tn : ((F.blk.n : Int) != (F.blk.n : Int)) = false := by simp
    clear A0 A1 A2 A3 A4 st0 st1 st2 st3 hsi hsi2 hsi3 hsm hrr hrr3 hpv hba hbb hbc hM hM2 B2 F2 IW
    have r0 : (wc.alloc (.cells (madeCells #[.int .i64 0] F.blk.n) 3)).rowIs wc.heap.size 3 F.blk.n (fun i => .int .i64 (at1 L 0 i)) :=
      (World.rowIs_made wc (.int .i64 0) F.blk.n 3).congr (fun i hi => by simp [at1])
    have R0 := hid r0
    clear r0
    go_wp2_with fail
    clear hmk c0 c1 c2 c3 c4
    go_loopw [8] (fun i wr => ∃ k : Nat, k ≤ s.n ∧ i = .int .i64 k ∧ wr.rowIs wc.heap.size 3 F.blk.n (fun i => .int .i64 (at1 L k i)) ∧ Below wc.heap.size wc wr) (fun i _ => s.n - (intOf i).toNat)
    case atStart => exact ⟨0, Nat.zero_le _, rfl, R0.out, new (same _) _⟩
    case round =>
      clear R0
      obtain ⟨k, hk, rfl, hr, hb⟩ := hrel
      have RW := hid hr
      clear hr
      by_cases hlt : k < s.n
      · obtain ⟨ib, io, hiy, hcell⟩ := (SI.out.on hb).at hlt
        have hkL : k < L.length := by have := SN.out; omega
        have hx : L.getD k 0 < F.blk.n := OD.out.lt _ (getD_mem hkL)
        have hstep := fun i => mem_take_succ (i := i) (getD_some hkL)
        have hpos := pos_at OD.out.nd (getD_some hkL)
        have hnot := take_not_mem OD.out.nd hkL
        have hk0 : k = 0 → L.getD k 0 = 0 := fun e => by
          subst e
          have := OD.out.zero (by omega)
          rw [getD_some hkL] at this
          exact Option.some.inj this
        obtain ⟨X, hX⟩ : ∃ X, L.getD k 0 = X := ⟨_, rfl⟩
        simp only [hX] at hcell hx hstep hpos hnot hk0
        have hrow := index_row (s := ⟨some ⟨wc.heap.size, 0, none⟩, F.blk.n, F.blk.n⟩) rfl underlying22 size3 hx
        simp only [Nat.mul_one, Nat.zero_add] at hrow
        have hrc := RW.out.cell hx
        have e0 : at1 L k X = 0 := by unfold at1; rw [if_neg hnot]
        rw [e0] at hrc
        have hrf := RW.out.frozen X
        have hwl := RW.out.lt
        have STP := hid (And.intro hstep hpos)
        clear hX hstep hpos hnot e0
        have t1 : decide ((X : Int) < 0) = false := by simp
        have t2 : decide ((F.blk.n : Int) ≤ (X : Int)) = false := by simp; omega
        have hfin : (wr.setCell ⟨wc.heap.size, X, none⟩ (.int .i64 ((k : Int) + 1))).rowIs wc.heap.size 3 F.blk.n (fun i => .int .i64 (at1 L (k + 1) i)) := by
          refine (RW.out.set X (.int .i64 ((k : Int) + 1))).congr (fun i hi => ?_)
          obtain ⟨hs1, hs2⟩ := STP.out
          unfold at1
          by_cases e : i = X
          · rw [if_pos e, if_pos ((hs1 i).2 (.inr e)), e, hs2]
          · rw [if_neg e]
            have : i ∈ L.take (k + 1) ↔ i ∈ L.take k := by rw [hs1 i]; exact ⟨fun h => h.resolve_right e, .inl⟩
            simp [this]
        have FIN := hid hfin
        clear hfin
        by_cases hz : k = 0
        · have t3 : ((k : Int) == 0) = true := by simp [hz]
          have t4 : ((X : Int) != 0) = false := by simp [hk0 hz]
          have HZ := hid hz
          clear hk0 hz
          go_wp2_with fail
          go_round
          case rel => exact ⟨k + 1, by omega, by go_num, FIN.out, hb.setCell (Nat.le_refl _) _⟩
          case measure => simp [intOf]; omega
        · have t3 : ((k : Int) == 0) = false := by simp; omega
          clear hk0
          go_wp2_with fail
          go_round
          case rel => exact ⟨k + 1, by omega, by go_num, FIN.out, hb.setCell (Nat.le_refl _) _⟩
          case measure => simp [intOf]; omega
      · obtain rfl : k = s.n := by omega
        have RW2 := hid (RW.out.congr (fun i hi => by rw [at1_full SN.out]))
        clear RW
        have BW := hid hb
        clear hb
        rename World => wd
        go_wp2_with fail
        go_loopw [7, 9, 10] (fun c rd i wx => ∃ (b q : Nat) (r : Bool), b ≤ F.blk.n ∧ q ≤ b ∧ i = .int .i64 b ∧ c = .int .i64 q ∧ rd = .bool r ∧ (r = true → stepBack F L) ∧ Below wd.heap.size wd wx) (fun _ _ i _ => F.blk.n - (intOf i).toNat)
        case atStart => exact ⟨0, 0, false, Nat.zero_le _, Nat.le_refl _, rfl, rfl, rfl, fun h => (by cases h), same wd⟩
        case round =>
          obtain ⟨b, q, r, hbn, hqb, rfl, rfl, rfl, hrs, hbx⟩ := hrel
          have RS := hid hrs
          clear hrs
          by_cases hlt2 : b < F.blk.n
          · have e1 := cell_on hbx (cell_on BW.out (HR.out.cell hlt2))
            have e2 := cell_on hbx (RW2.out.cell hlt2)
            have hb1 := bool_at (g := M2) hlt2
            have hrow := index_row (s := ⟨some ⟨wc.heap.size, 0, none⟩, F.blk.n, F.blk.n⟩) rfl underlying22 size3 hlt2
            simp only [Nat.mul_one, Nat.zero_add] at hrow
            by_cases hbL : b ∈ L
            · rw [decide_eq_true hbL] at e1
              rw [if_pos hbL] at e2
              have BL := hid hbL
              clear hbL
              have t1 : decide ((0 : Int) < (pos L b : Int) + 1) = true := by simp; try omega
              by_cases hz : b = 0
              · have t3 : ((b : Int) == 0) = true := by simp [hz]
                have HZ := hid hz
                clear hz
                go_wp2_with fail
                go_quiet (fail)
                go_wp2_with fail
                exact ⟨⟨b + 1, q, r, by omega, by omega, by go_num, rfl, rfl, RS.out, below_drewN hbx _⟩, by simp [intOf]; omega⟩
              · have t3 : ((b : Int) == 0) = false := by simp; omega
                have HZ := hid hz
                clear hz
                have hle := pvL_le F F.blk.n b
                obtain ⟨hi1, hi2⟩ := HP.out.ints hlt2 (by omega)
                have D3 : Hid (∀ wx, Below wd.heap.size wd wx → wx.cell? ⟨M, b, none⟩ = some (.slice (R b).a (R b).n (R b).c)) := fun wx h => cell_on h (cell_on BW.out (HP.out.row.cell hlt2))
                have hrw := row_at (M := M) hlt2
                have RI := hid (And.intro hi1 hi2)
                have hR16 : (R b).n ≤ 16 := by omega
                have AHD := hid (ahd_true OD.out BL.out HZ.out)
                have ALB : Hid (alb L (pvL F F.blk.n b) b (pvL F F.blk.n b).length = false → stepBack F L) := alb_false OD.out BL.out
                have hl2 := RI.out.2
                have hl3 : (pvL F F.blk.n b).length = (R b).n := hl2.symm
                rw [hl3] at AHD ALB
                clear hi1 hi2 hl2 hl3 hle
                obtain ⟨P, hP⟩ : ∃ P, pvL F F.blk.n b = P := ⟨_, rfl⟩
                have hPlt : ∀ x ∈ P, x < F.blk.n := fun x hx => pvL_lt x (hP ▸ hx)
                rw [hP] at RI AHD ALB
                have PLT := hid hPlt
                clear hP hPlt
                go_wp2_with fail
                go_quiet (fail)
                go_wp2_with fail
                go_loopw [11, 12, 13] (fun ah al i wy => ∃ k : Nat, k ≤ (R b).n ∧ i = .int .i64 k ∧ ah = .bool (ahd L P b k) ∧ al = .bool (alb L P b k) ∧ Below wd.heap.size wd wy) (fun _ _ i _ => (R b).n - (intOf i).toNat)
                case atStart => exact ⟨0, Nat.zero_le _, rfl, rfl, rfl, below_drewN hbx _⟩
                case round =>
                  clear hbx e1 e2
                  obtain ⟨k, hk3, rfl, rfl, rfl, hby⟩ := hrel
                  have e3 := D3.out _ hby
                  have e2 := cell_on hby (RW2.out.cell hlt2)
                  rw [if_pos BL.out] at e2
                  by_cases hlt3 : k < (R b).n
                  · obtain ⟨ib, io, hiy, hcell⟩ := (RI.out.1.on (BW.out.trans (hby.mono BW.out.size))).at hlt3
                    have hkl : k < P.length := by have := RI.out.2; omega
                    have hz := PLT.out _ (getD_mem hkl)
                    have hsa := ahd_succ L P b k
                    have hsl := alb_succ L P b k
                    obtain ⟨z, hze⟩ : ∃ z, P.getD k 0 = z := ⟨_, rfl⟩
                    simp only [hze] at hcell hz hsa hsl
                    have e4 := cell_on hby (RW2.out.cell hz)
                    have hrz := index_row (s := ⟨some ⟨wc.heap.size, 0, none⟩, F.blk.n, F.blk.n⟩) rfl underlying22 size3 hz
                    simp only [Nat.mul_one, Nat.zero_add] at hrz
                    have ZE := hid (And.intro hsa hsl)
                    clear hze hsa hsl
                    by_cases hzL : z ∈ L
                    · rw [if_pos hzL] at e4
                      have ZL := hid hzL
                      clear hzL
                      have t5 : decide ((0 : Int) < (pos L z : Int) + 1) = true := by simp; try omega
                      obtain ⟨A, hA⟩ : ∃ A, ahd L P b k = A := ⟨_, rfl⟩
                      obtain ⟨C, hC⟩ : ∃ C, alb L P b k = C := ⟨_, rfl⟩
                      rw [hA, hC]
                      have AC := hid (And.intro hA hC)
                      clear hA hC
                      obtain ⟨E, hE⟩ : ∃ E, decide ((pos L z : Int) + 1 < (pos L b : Int) + 1) = E := ⟨_, rfl⟩
                      have EE := hid (show decide (pos L z < pos L b) = E by rw [← hE]; simp)
                      cases A with
                      | false =>
                        cases C with
                        | false =>
                          cases E with
                          | false =>
                            go_wp2_with fail
                            go_quiet (fail)
                            go_wp2_with fail
                            go_quiet (fail)
                            go_wp2_with fail
                            obtain ⟨z1, z2⟩ := ZE.out
                            obtain ⟨k1, k2⟩ := AC.out
                            exact ⟨⟨k + 1, by omega, by go_num, by rw [z1, k1, EE.out]; simp [ZL.out], by rw [z2, k2, EE.out]; simp [ZL.out], below_drewN hby _⟩, by simp [intOf]; omega⟩
                          | true =>
                            go_wp2_with fail
                            go_quiet (fail)
                            go_wp2_with fail
                            go_quiet (fail)
                            go_wp2_with fail
                            obtain ⟨z1, z2⟩ := ZE.out
                            obtain ⟨k1, k2⟩ := AC.out
                            exact ⟨⟨k + 1, by omega, by go_num, by rw [z1, k1, EE.out]; simp [ZL.out], by rw [z2, k2, EE.out]; simp [ZL.out], below_drewN hby _⟩, by simp [intOf]; omega⟩
                        | true =>
                          cases E with
                          | false =>
                            go_wp2_with fail
                            go_quiet (fail)
                            go_wp2_with fail
                            go_quiet (fail)
                            go_wp2_with fail
                            obtain ⟨z1, z2⟩ := ZE.out
                            obtain ⟨k1, k2⟩ := AC.out
                            exact ⟨⟨k + 1, by omega, by go_num, by rw [z1, k1, EE.out]; simp [ZL.out], by rw [z2, k2, EE.out]; simp [ZL.out], below_drewN hby _⟩, by simp [intOf]; omega⟩
                          | true =>
                            go_wp2_with fail
                            go_quiet (fail)
                            go_wp2_with fail
                            go_quiet (fail)
                            go_wp2_with fail
                            obtain ⟨z1, z2⟩ := ZE.out
                            obtain ⟨k1, k2⟩ := AC.out
                            exact ⟨⟨k + 1, by omega, by go_num, by rw [z1, k1, EE.out]; simp [ZL.out], by rw [z2, k2, EE.out]; simp [ZL.out], below_drewN hby _⟩, by simp [intOf]; omega⟩
                      | true =>
                        cases C with
                        | false =>
                          cases E with
                          | false =>
                            go_wp2_with fail
                            go_quiet (fail)
                            go_wp2_with fail
                            go_quiet (fail)
                            go_wp2_with fail
                            obtain ⟨z1, z2⟩ := ZE.out
                            obtain ⟨k1, k2⟩ := AC.out
                            exact ⟨⟨k + 1, by omega, by go_num, by rw [z1, k1, EE.out]; simp [ZL.out], by rw [z2, k2, EE.out]; simp [ZL.out], below_drewN hby _⟩, by simp [intOf]; omega⟩
                          | true =>
                            go_wp2_with fail
                            go_quiet (fail)
                            go_wp2_with fail
                            go_quiet (fail)
                            go_wp2_with fail
                            obtain ⟨z1, z2⟩ := ZE.out
                            obtain ⟨k1, k2⟩ := AC.out
                            exact ⟨⟨k + 1, by omega, by go_num, by rw [z1, k1, EE.out]; simp [ZL.out], by rw [z2, k2, EE.out]; simp [ZL.out], below_drewN hby _⟩, by simp [intOf]; omega⟩
                        | true =>
                          cases E with
                          | false =>
                            go_wp2_with fail
                            go_quiet (fail)
                            go_wp2_with fail
                            go_quiet (fail)
                            go_wp2_with fail
                            obtain ⟨z1, z2⟩ := ZE.out
                            obtain ⟨k1, k2⟩ := AC.out
                            exact ⟨⟨k + 1, by omega, by go_num, by rw [z1, k1, EE.out]; simp [ZL.out], by rw [z2, k2, EE.out]; simp [ZL.out], below_drewN hby _⟩, by simp [intOf]; omega⟩
                          | true =>
                            go_wp2_with fail
                            go_quiet (fail)
                            go_wp2_with fail
                            go_quiet (fail)
                            go_wp2_with fail
                            obtain ⟨z1, z2⟩ := ZE.out
                            obtain ⟨k1, k2⟩ := AC.out
                            exact ⟨⟨k + 1, by omega, by go_num, by rw [z1, k1, EE.out]; simp [ZL.out], by rw [z2, k2, EE.out]; simp [ZL.out], below_drewN hby _⟩, by simp [intOf]; omega⟩
                    · rw [if_neg hzL] at e4
                      have ZL := hid hzL
                      clear hzL
                      go_wp2_with fail
                      go_round
                      case rel =>
                        obtain ⟨z1, z2⟩ := ZE.out
                        exact ⟨k + 1, by omega, by go_num, by rw [z1]; simp [ZL.out], by rw [z2]; simp [ZL.out], hby⟩
                      case measure => simp [intOf]; omega
                  · obtain rfl : k = (R b).n := by omega
                    rw [AHD.out]
                    cases r with
                    | true =>
                      go_wp2_with fail
                      exact ⟨⟨b + 1, q + 1, true, by omega, by omega, by go_num, by go_num, rfl, RS.out, hby⟩, by simp [intOf]; omega⟩
                    | false =>
                      go_wp2_with fail
                      exact ⟨⟨b + 1, q + 1, _, by omega, by omega, by go_num, by go_num, rfl, fun h => ALB.out (by simpa using h), hby⟩, by simp [intOf]; omega⟩
            · rw [decide_eq_false hbL] at e1
              rw [if_neg hbL] at e2
              have BL := hid hbL
              clear hbL
              go_wp2_with fail
              go_quiet (fail)
              go_wp2_with fail
              exact ⟨⟨b + 1, q, r, by omega, by omega, by go_num, rfl, rfl, RS.out, below_drewN hbx _⟩, by simp [intOf]; omega⟩
          · obtain rfl : b = F.blk.n := by omega
            obtain ⟨c0, c1, c2, c3, c4⟩ := (F3.out.on BW.out).on hbx
            go_wp2_with fail
            refine (loops_flow F L _ OI.out (HF.out.on (View.more (View.more B3.out BW.out) hbx)) HL.out HJ.out).mono ?_
            rintro e wl ⟨r2, rfl, hr2, hbl⟩
            have HR2 := hid hr2
            have BL := hid (View.more (View.more (View.more B3.out BW.out) hbx) hbl)
            clear hr2 hbl c0 c1 c2 c3 c4
            cases r2 with
            | true =>
              go_wp2_with fail
              go_ret
              exact ⟨rfl, BL.out⟩
            | false =>
              have hrf : r = false := by
                cases r with
                | true => exact absurd (HR2.out.2 (RS.out rfl)) (by simp)
                | false => rfl
              subst hrf
              go_wp2_with fail
              go_ret
              exact ⟨rfl, BL.out⟩

end Go.Proofs.Ytipligpabhjniaa.Flo
