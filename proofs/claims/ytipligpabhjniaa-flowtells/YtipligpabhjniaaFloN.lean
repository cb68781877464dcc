/-
  plnlaw4.FlowTells answers true.
-/
import Derived.Test.YtipligpabhjniaaFloY
import Derived.Test.YtipligpabhjniaaLight
namespace Go.Proofs.Ytipligpabhjniaa.Flo
open Go.RowKit View Rd Copy Num Ty Srt

set_option linter.unusedVariables false

theorem reach_same {F : FV} {L : List Nat} (hL : OrdIs F L) {i : Nat} (hi : i < F.blk.n) {b : Bool} (hb : b = true ↔ isB F 0 = true ∧ (0 : Int) ≠ -1 ∧ Way (suL F (-1)) (0 : Int).toNat i) : decide (i ∈ L) = b := by
  rw [suL_neg (show (-1 : Int) < 0 by decide)] at hb
  have h1 := hL.ord.mem (by omega) i
  have h2 : b = true ↔ i ∈ L := hb.trans ⟨fun h => h1.2 h.2.2, fun h => ⟨by unfold isB; simp; omega, by decide, h1.1 h⟩⟩
  exact (bool_of h2).symm

theorem rnd_same {F : FV} {L : List Nat} (hL : OrdIs F L) : stepBack F L ↔ Rnd F := by
  by_cases h0 : F.blk.n = 0
  · have : L = [] := by
      rcases hL with ⟨_, h⟩ | ⟨h, _⟩
      · exact h
      · omega
    subst this
    constructor
    · rintro ⟨i, x, hx, _⟩; simp at hx
    · rintro ⟨x, hx, _⟩; omega
  · rw [stepBack_iff hL.ord (by omega)]
    constructor
    · rintro ⟨x, hx, h⟩
      exact ⟨x, hL.ord.lt x ((hL.ord.mem (by omega) x).2 hx), hx, h⟩
    · rintro ⟨x, _, hx, h⟩
      exact ⟨x, hx, h⟩

theorem suI_le {F : FV} (hl : Light F) (x : Int) : (suI F x).length ≤ 1000 := by
  unfold suI
  split
  · have := su_le hl x.toNat; omega
  · simp

set_option maxRecDepth 10000 in
set_option maxHeartbeats 4000000 in
theorem tells_any (F : FV) (b : Int) (w : World) (hF : In w F) (hj : Jng F) :
    Calls Try.prog 3 #[F.val, .int .i64 b] w fun e w' => e = .returned (.bool true) ∧ Below w.heap.size w w' := by
  have HF := hid hF
  have HJ := hid hj
  clear hF hj
  go_enter Try.func3, Try.ntmps3
  go_wp2_with fail
  refine (first_any _).mono ?_
  rintro e w1 ⟨rfl, hb1⟩
  have f1 : FuncAt w1 w.heap.size F := (FuncAt.alloc w F).on hb1
  have hb1' := View.more (new (same w) _) hb1
  have B1 := hid hb1'
  have F1 := hid f1
  obtain ⟨c0, c1, c2, c3, c4⟩ := f1
  clear hb1 hb1'
  go_wp2_with fail
  refine (light_any F _ (HF.out.on B1.out)).mono ?_
  rintro e w2 ⟨r, rfl, hr, hb2⟩
  have B2 := hid (View.more B1.out hb2)
  have F2 := hid (F1.out.on hb2)
  clear c0 c1 c2 c3 c4 hb2 B1 F1
  cases r with
  | false =>
    go_wp2_with fail
    refine (first_any _).mono ?_
    rintro e w3 ⟨rfl, hb3⟩
    go_wp2_with fail
    go_ret
    exact ⟨rfl, View.more B2.out hb3⟩
  | true =>
    have hl := hr rfl
    have HL := hid hl
    have gb := hl.blk
    clear hl hr
    obtain ⟨L, hL⟩ := ord_ex F
    have OI := hid hL
    have OL := hid (show L.length ≤ 1000 by have := hL.ord.len; omega)
    clear hL
    go_wp2_with fail
    go_loopw [5] (fun i wr => ∃ k : Nat, k ≤ F.blk.n ∧ i = .int .i64 k ∧ Below w2.heap.size w2 wr) (fun i _ => F.blk.n - (intOf i).toNat)
    case atStart => exact ⟨0, Nat.zero_le _, rfl, same w2⟩
    case round =>
      obtain ⟨k, hk, rfl, hb⟩ := hrel
      have FW := hid (F2.out.on hb)
      have IW := hid (HF.out.on (View.more B2.out hb))
      obtain ⟨c0, c1, c2, c3, c4⟩ := FW.out
      have st0 : Below wr.heap.size wr wr.drew := Below.drew (same _)
      have A0 : ∀ wx, Below wr.heap.size wr wx → wx.cell? ⟨w.heap.size, 0, none⟩ = some (.string F.name) := fun wx h => cell_on h FW.out.c0
      have A1 : ∀ wx, Below wr.heap.size wr wx → wx.cell? ⟨w.heap.size, 1, none⟩ = some (.bool F.out) := fun wx h => cell_on h FW.out.c1
      have A2 : ∀ wx, Below wr.heap.size wr wx → wx.cell? ⟨w.heap.size, 2, none⟩ = some (.slice F.par.a F.par.n F.par.c) := fun wx h => cell_on h FW.out.c2
      have A3 : ∀ wx, Below wr.heap.size wr wx → wx.cell? ⟨w.heap.size, 3, none⟩ = some (.int .i64 F.res) := fun wx h => cell_on h FW.out.c3
      have A4 : ∀ wx, Below wr.heap.size wr wx → wx.cell? ⟨w.heap.size, 4, none⟩ = some (.slice F.blk.a F.blk.n F.blk.c) := fun wx h => cell_on h FW.out.c4
      by_cases hlt : k < F.blk.n
      · have SB := hid (suI_le HL.out (k : Int))
        go_wp2_with fail
        clear c0 c1 c2 c3 c4
        refine wp_region_noPanic ?_
        refine wp_region_held_drew (S := fun wx => Below wr.heap.size wr wx) (by kernel_rfl) st0 (fun hS => ?_)
        refine takeAt (i := 0) (d := some 19) (v := ?va0) rfl (by rfl) (by kernel_rfl) (by kernel_rfl) (by kernel_rfl) (fun _ _ _ h => h) (Or.inl ⟨by rfl, ?ya0⟩) hS ?_
        case ya0 => intro wx hSw; (go_simp) <;> with_reducible rfl
        simp only [Act.put, List.setIfInBounds_toArray, List.set_cons_zero, List.set_cons_succ]
        refine takeAt (i := 1) (d := some 20) (v := ?va1) rfl (by rfl) (by kernel_rfl) (by kernel_rfl) (by kernel_rfl) (fun _ _ _ h => h) (Or.inl ⟨by rfl, ?ya1⟩) hS ?_
        case ya1 => intro wx hSw; (go_simp) <;> with_reducible rfl
        simp only [Act.put, List.setIfInBounds_toArray, List.set_cons_zero, List.set_cons_succ]
        refine takeAt (i := 3) (d := some 22) (v := ?va3) rfl (by rfl) (by kernel_rfl) (by kernel_rfl) (by kernel_rfl) (fun _ _ _ h => h) (Or.inl ⟨by rfl, ?ya3⟩) hS ?_
        case ya3 => intro wx hSw; (go_simp) <;> with_reducible rfl
        simp only [Act.put, List.setIfInBounds_toArray, List.set_cons_zero, List.set_cons_succ]
        refine takeAt (i := 4) (d := some 23) (v := ?va4) rfl (by rfl) (by kernel_rfl) (by kernel_rfl) (by kernel_rfl) (fun _ _ _ h => h) (Or.inl ⟨by rfl, ?ya4⟩) hS ?_
        case ya4 => intro wx hSw; (go_simp) <;> with_reducible rfl
        simp only [Act.put, List.setIfInBounds_toArray, List.set_cons_zero, List.set_cons_succ]
        refine wpAnyH_ready (rs := [2]) (by kernel_rfl) (by simp) ?_
        refine AllReadyH.cons rfl (fun K hK => ?_) AllReadyH.nil
        go_simp
        refine (next_flow F (k : Int) _ (IW.out.on st0) HL.out HJ.out).mono ?_
        rintro e wp1 ⟨sp1, rfl, hnp1, hip1, _, hbp1⟩
        have p1 : Below wr.heap.size wr wp1 := View.more st0 hbp1
        have Np1 := hid hnp1
        have Ip1 := hid hip1
        have bp1 := hid hbp1
        clear hnp1 hip1 hbp1
        go_wp2_with fail
        refine hK.out _ _ p1 (fun _ => ?_)
        clear hK K
        replace hS := p1
        try simp only [Act.put, List.setIfInBounds_toArray, List.set_cons_zero, List.set_cons_succ]
        refine wpAnyH_ready (rs := [5]) (by kernel_rfl) (by simp) ?_
        refine AllReadyH.cons rfl (fun K hK => ?_) AllReadyH.nil
        go_simp
        refine (next_ref F (k : Int) _ (IW.out.on p1) HL.out).mono ?_
        rintro e wp2 ⟨sp2, rfl, hnp2, hip2, _, hbp2⟩
        have p2 : Below wr.heap.size wr wp2 := View.more p1 hbp2
        have Np2 := hid hnp2
        have Ip2 := hid hip2
        have bp2 := hid hbp2
        clear hnp2 hip2 hbp2
        go_wp2_with fail
        refine hK.out _ _ p2 (fun _ => ?_)
        clear hK K
        replace hS := p2
        try simp only [Act.put, List.setIfInBounds_toArray, List.set_cons_zero, List.set_cons_succ]
        refine wpAnyH_ready (rs := [6]) (by kernel_rfl) (by simp) ?_
        refine AllReadyH.cons rfl (fun K hK => ?_) AllReadyH.nil
        go_simp
        refine (ints_any sp1 sp2 _ _ _ (Ip1.out.on bp2.out) Ip2.out (by rw [Np1.out]; exact SB.out)).mono ?_
        rintro e wp3 ⟨rp3, rfl, hrp3, qp3, rfl⟩
        obtain rfl : rp3 = true := hrp3.2 ⟨by rw [Np1.out, Np2.out], fun i hi => rfl⟩
        have p3 : Below wr.heap.size wr (wp2.drewN qp3) := below_drewN p2 _
        clear hrp3
        go_wp2_with fail
        refine hK.out _ _ p3 (fun _ => ?_)
        clear hK K
        replace hS := p3
        try simp only [Act.put, List.setIfInBounds_toArray, List.set_cons_zero, List.set_cons_succ]
        refine takeAt (i := 7) (d := some 26) (v := ?va7) rfl (by rfl) (by kernel_rfl) (by kernel_rfl) (by kernel_rfl) (fun _ _ _ h => h) (Or.inl ⟨by rfl, ?ya7⟩) hS ?_
        case ya7 => intro wx hSw; (go_simp) <;> with_reducible rfl
        simp only [Act.put, List.setIfInBounds_toArray, List.set_cons_zero, List.set_cons_succ]
        refine wpAnyH_done (by kernel_rfl) ?_ _
        refine NoPanic.normal ?_
        have ST := hid p3
        clear hS st0 p1 p2 p3 A0 A1 A2 A3 A4
        go_wp2_with fail
        go_round
        case rel => exact ⟨k + 1, by omega, by go_num, View.more hb ST.out⟩
        case measure => simp [intOf]; omega
      · obtain rfl : k = F.blk.n := by omega
        have SB := hid (suI_le HL.out b)
        go_wp2_with fail
        clear c0 c1 c2 c3 c4
        refine wp_region_noPanic ?_
        refine wp_region_held_drew (S := fun wx => Below wr.heap.size wr wx) (by kernel_rfl) st0 (fun hS => ?_)
        refine takeAt (i := 0) (d := some 27) (v := ?vb0) rfl (by rfl) (by kernel_rfl) (by kernel_rfl) (by kernel_rfl) (fun _ _ _ h => h) (Or.inl ⟨by rfl, ?yb0⟩) hS ?_
        case yb0 => intro wx hSw; (go_simp) <;> with_reducible rfl
        simp only [Act.put, List.setIfInBounds_toArray, List.set_cons_zero, List.set_cons_succ]
        refine takeAt (i := 1) (d := some 28) (v := ?vb1) rfl (by rfl) (by kernel_rfl) (by kernel_rfl) (by kernel_rfl) (fun _ _ _ h => h) (Or.inl ⟨by rfl, ?yb1⟩) hS ?_
        case yb1 => intro wx hSw; (go_simp) <;> with_reducible rfl
        simp only [Act.put, List.setIfInBounds_toArray, List.set_cons_zero, List.set_cons_succ]
        refine takeAt (i := 3) (d := some 30) (v := ?vb3) rfl (by rfl) (by kernel_rfl) (by kernel_rfl) (by kernel_rfl) (fun _ _ _ h => h) (Or.inl ⟨by rfl, ?yb3⟩) hS ?_
        case yb3 => intro wx hSw; (go_simp) <;> with_reducible rfl
        simp only [Act.put, List.setIfInBounds_toArray, List.set_cons_zero, List.set_cons_succ]
        refine takeAt (i := 4) (d := some 31) (v := ?vb4) rfl (by rfl) (by kernel_rfl) (by kernel_rfl) (by kernel_rfl) (fun _ _ _ h => h) (Or.inl ⟨by rfl, ?yb4⟩) hS ?_
        case yb4 => intro wx hSw; (go_simp) <;> with_reducible rfl
        simp only [Act.put, List.setIfInBounds_toArray, List.set_cons_zero, List.set_cons_succ]
        refine wpAnyH_ready (rs := [2]) (by kernel_rfl) (by simp) ?_
        refine AllReadyH.cons rfl (fun K hK => ?_) AllReadyH.nil
        go_simp
        refine (next_flow F b _ (IW.out.on st0) HL.out HJ.out).mono ?_
        rintro e wp1 ⟨sp1, rfl, hnp1, hip1, _, hbp1⟩
        have p1 : Below wr.heap.size wr wp1 := View.more st0 hbp1
        have Np1 := hid hnp1
        have Ip1 := hid hip1
        have bp1 := hid hbp1
        clear hnp1 hip1 hbp1
        go_wp2_with fail
        refine hK.out _ _ p1 (fun _ => ?_)
        clear hK K
        replace hS := p1
        try simp only [Act.put, List.setIfInBounds_toArray, List.set_cons_zero, List.set_cons_succ]
        refine wpAnyH_ready (rs := [5]) (by kernel_rfl) (by simp) ?_
        refine AllReadyH.cons rfl (fun K hK => ?_) AllReadyH.nil
        go_simp
        refine (next_ref F b _ (IW.out.on p1) HL.out).mono ?_
        rintro e wp2 ⟨sp2, rfl, hnp2, hip2, _, hbp2⟩
        have p2 : Below wr.heap.size wr wp2 := View.more p1 hbp2
        have Np2 := hid hnp2
        have Ip2 := hid hip2
        have bp2 := hid hbp2
        clear hnp2 hip2 hbp2
        go_wp2_with fail
        refine hK.out _ _ p2 (fun _ => ?_)
        clear hK K
        replace hS := p2
        try simp only [Act.put, List.setIfInBounds_toArray, List.set_cons_zero, List.set_cons_succ]
        refine wpAnyH_ready (rs := [6]) (by kernel_rfl) (by simp) ?_
        refine AllReadyH.cons rfl (fun K hK => ?_) AllReadyH.nil
        go_simp
        refine (ints_any sp1 sp2 _ _ _ (Ip1.out.on bp2.out) Ip2.out (by rw [Np1.out]; exact SB.out)).mono ?_
        rintro e wp3 ⟨rp3, rfl, hrp3, qp3, rfl⟩
        obtain rfl : rp3 = true := hrp3.2 ⟨by rw [Np1.out, Np2.out], fun i hi => rfl⟩
        have p3 : Below wr.heap.size wr (wp2.drewN qp3) := below_drewN p2 _
        clear hrp3
        go_wp2_with fail
        refine hK.out _ _ p3 (fun _ => ?_)
        clear hK K
        replace hS := p3
        try simp only [Act.put, List.setIfInBounds_toArray, List.set_cons_zero, List.set_cons_succ]
        refine takeAt (i := 7) (d := some 34) (v := ?vb7) rfl (by rfl) (by kernel_rfl) (by kernel_rfl) (by kernel_rfl) (fun _ _ _ h => h) (Or.inl ⟨by rfl, ?yb7⟩) hS ?_
        case yb7 => intro wx hSw; (go_simp) <;> with_reducible rfl
        simp only [Act.put, List.setIfInBounds_toArray, List.set_cons_zero, List.set_cons_succ]
        refine takeAt (i := 8) (d := some 35) (v := ?vb8) rfl (by rfl) (by kernel_rfl) (by kernel_rfl) (by kernel_rfl) (fun _ _ _ h => h) (Or.inl ⟨by rfl, ?yb8⟩) hS ?_
        case yb8 => intro wx hSw; (go_simp) <;> with_reducible rfl
        simp only [Act.put, List.setIfInBounds_toArray, List.set_cons_zero, List.set_cons_succ]
        refine takeAt (i := 10) (d := some 37) (v := ?vb10) rfl (by rfl) (by kernel_rfl) (by kernel_rfl) (by kernel_rfl) (fun _ _ _ h => h) (Or.inl ⟨by rfl, ?yb10⟩) hS ?_
        case yb10 => intro wx hSw; (go_simp) <;> with_reducible rfl
        simp only [Act.put, List.setIfInBounds_toArray, List.set_cons_zero, List.set_cons_succ]
        refine wpAnyH_ready (rs := [9]) (by kernel_rfl) (by simp) ?_
        refine AllReadyH.cons rfl (fun K hK => ?_) AllReadyH.nil
        go_simp
        refine (prev_flow F _ (IW.out.on p3) HL.out HJ.out).mono ?_
        rintro e wp4 ⟨M4, R4, rfl, h4, _, hb4⟩
        have p4 : Below wr.heap.size wr wp4 := View.more p3 hb4
        have H4 := hid h4
        clear h4 hb4
        go_wp2_with fail
        refine hK.out _ _ p4 (fun _ => ?_)
        clear hK K
        replace hS := p4
        try simp only [Act.put, List.setIfInBounds_toArray, List.set_cons_zero, List.set_cons_succ]
        refine wpAnyH_ready (rs := [11]) (by kernel_rfl) (by simp) ?_
        refine AllReadyH.cons rfl (fun K hK => ?_) AllReadyH.nil
        go_simp
        refine (prev_ref F _ (IW.out.on p4) HL.out).mono ?_
        rintro e wp5 ⟨M5, R5, rfl, h5, _, hb5⟩
        have p5 : Below wr.heap.size wr wp5 := View.more p4 hb5
        have H5 := hid h5
        have H45 := hid (H4.out.on hb5)
        clear h5 hb5
        go_wp2_with fail
        refine hK.out _ _ p5 (fun _ => ?_)
        clear hK K
        replace hS := p5
        try simp only [Act.put, List.setIfInBounds_toArray, List.set_cons_zero, List.set_cons_succ]
        refine wpAnyH_ready (rs := [12]) (by kernel_rfl) (by simp) ?_
        refine AllReadyH.cons rfl (fun K hK => ?_) AllReadyH.nil
        go_simp
        refine (rows_any F.blk.n M4 M5 R4 R5 _ _ H45.out H5.out (by omega) (fun i hi => by have := pvL_le F F.blk.n i; omega)).mono ?_
        rintro e wp6 ⟨rfl, hb6⟩
        have p6 : Below wr.heap.size wr wp6 := View.more p5 hb6
        clear hb6
        go_wp2_with fail
        refine hK.out _ _ p6 (fun _ => ?_)
        clear hK K
        replace hS := p6
        try simp only [Act.put, List.setIfInBounds_toArray, List.set_cons_zero, List.set_cons_succ]
        refine takeAt (i := 13) (d := some 40) (v := ?vb13) rfl (by rfl) (by kernel_rfl) (by kernel_rfl) (by kernel_rfl) (fun _ _ _ h => h) (Or.inl ⟨by rfl, ?yb13⟩) hS ?_
        case yb13 => intro wx hSw; (go_simp) <;> with_reducible rfl
        simp only [Act.put, List.setIfInBounds_toArray, List.set_cons_zero, List.set_cons_succ]
        refine takeAt (i := 14) (d := some 41) (v := ?vb14) rfl (by rfl) (by kernel_rfl) (by kernel_rfl) (by kernel_rfl) (fun _ _ _ h => h) (Or.inl ⟨by rfl, ?yb14⟩) hS ?_
        case yb14 => intro wx hSw; (go_simp) <;> with_reducible rfl
        simp only [Act.put, List.setIfInBounds_toArray, List.set_cons_zero, List.set_cons_succ]
        refine takeAt (i := 15) (d := some 42) (v := ?vb15) rfl (by rfl) (by kernel_rfl) (by kernel_rfl) (by kernel_rfl) (fun _ _ _ h => h) (Or.inl ⟨by rfl, ?yb15⟩) hS ?_
        case yb15 => intro wx hSw; (go_simp) <;> with_reducible rfl
        simp only [Act.put, List.setIfInBounds_toArray, List.set_cons_zero, List.set_cons_succ]
        refine takeAt (i := 17) (d := some 44) (v := ?vb17) rfl (by rfl) (by kernel_rfl) (by kernel_rfl) (by kernel_rfl) (fun _ _ _ h => h) (Or.inl ⟨by rfl, ?yb17⟩) hS ?_
        case yb17 => intro wx hSw; (go_simp) <;> with_reducible rfl
        simp only [Act.put, List.setIfInBounds_toArray, List.set_cons_zero, List.set_cons_succ]
        refine wpAnyH_ready (rs := [16]) (by kernel_rfl) (by simp) ?_
        refine AllReadyH.cons rfl (fun K hK => ?_) AllReadyH.nil
        go_simp
        refine (reach_flow F L _ OI.out (IW.out.on p6) HL.out HJ.out).mono ?_
        rintro e wp7 ⟨M7, rfl, h7, _, hb7⟩
        have p7 : Below wr.heap.size wr wp7 := View.more p6 hb7
        have H7 := hid h7
        clear h7 hb7
        go_wp2_with fail
        refine hK.out _ _ p7 (fun _ => ?_)
        clear hK K
        replace hS := p7
        try simp only [Act.put, List.setIfInBounds_toArray, List.set_cons_zero, List.set_cons_succ]
        refine wpAnyH_ready (rs := [18]) (by kernel_rfl) (by simp) ?_
        refine AllReadyH.cons rfl (fun K hK => ?_) AllReadyH.nil
        go_simp
        refine (reach_ref F _ (IW.out.on p7) HL.out).mono ?_
        rintro e wp8 ⟨f8, ⟨M8, rfl, h8, _, hb8⟩, hf8⟩
        have p8 : Below wr.heap.size wr wp8 := View.more p7 hb8
        have H8 := hid h8
        have H78 := hid (H7.out.of_block (hb8.block _ H7.out.lt))
        have F8 := hid hf8
        clear h8 hb8 hf8
        go_wp2_with fail
        refine hK.out _ _ p8 (fun _ => ?_)
        clear hK K
        replace hS := p8
        try simp only [Act.put, List.setIfInBounds_toArray, List.set_cons_zero, List.set_cons_succ]
        refine wpAnyH_ready (rs := [19]) (by kernel_rfl) (by simp) ?_
        refine AllReadyH.cons rfl (fun K hK => ?_) AllReadyH.nil
        go_simp
        refine (bools_any F.blk.n M7 M8 _ f8 _ H78.out H8.out (by omega) (fun i hi => reach_same OI.out hi (F8.out i hi))).mono ?_
        rintro e wp9 ⟨rfl, hb9⟩
        have p9 : Below wr.heap.size wr wp9 := View.more p8 hb9
        clear hb9
        go_wp2_with fail
        refine hK.out _ _ p9 (fun _ => ?_)
        clear hK K
        replace hS := p9
        try simp only [Act.put, List.setIfInBounds_toArray, List.set_cons_zero, List.set_cons_succ]
        refine takeAt (i := 20) (d := some 47) (v := ?vb20) rfl (by rfl) (by kernel_rfl) (by kernel_rfl) (by kernel_rfl) (fun _ _ _ h => h) (Or.inl ⟨by rfl, ?yb20⟩) hS ?_
        case yb20 => intro wx hSw; (go_simp) <;> with_reducible rfl
        simp only [Act.put, List.setIfInBounds_toArray, List.set_cons_zero, List.set_cons_succ]
        refine takeAt (i := 21) (d := some 48) (v := ?vb21) rfl (by rfl) (by kernel_rfl) (by kernel_rfl) (by kernel_rfl) (fun _ _ _ h => h) (Or.inl ⟨by rfl, ?yb21⟩) hS ?_
        case yb21 => intro wx hSw; (go_simp) <;> with_reducible rfl
        simp only [Act.put, List.setIfInBounds_toArray, List.set_cons_zero, List.set_cons_succ]
        refine takeAt (i := 22) (d := some 49) (v := ?vb22) rfl (by rfl) (by kernel_rfl) (by kernel_rfl) (by kernel_rfl) (fun _ _ _ h => h) (Or.inl ⟨by rfl, ?yb22⟩) hS ?_
        case yb22 => intro wx hSw; (go_simp) <;> with_reducible rfl
        simp only [Act.put, List.setIfInBounds_toArray, List.set_cons_zero, List.set_cons_succ]
        refine takeAt (i := 24) (d := some 51) (v := ?vb24) rfl (by rfl) (by kernel_rfl) (by kernel_rfl) (by kernel_rfl) (fun _ _ _ h => h) (Or.inl ⟨by rfl, ?yb24⟩) hS ?_
        case yb24 => intro wx hSw; (go_simp) <;> with_reducible rfl
        simp only [Act.put, List.setIfInBounds_toArray, List.set_cons_zero, List.set_cons_succ]
        refine wpAnyH_ready (rs := [23]) (by kernel_rfl) (by simp) ?_
        refine AllReadyH.cons rfl (fun K hK => ?_) AllReadyH.nil
        go_simp
        refine (order_flow F L _ OI.out (IW.out.on p9) HL.out HJ.out).mono ?_
        rintro e wq1 ⟨sq1, rfl, hnq1, hiq1, _, hbq1⟩
        have q1 : Below wr.heap.size wr wq1 := View.more p9 hbq1
        have Nq1 := hid hnq1
        have Iq1 := hid hiq1
        clear hnq1 hiq1 hbq1
        go_wp2_with fail
        refine hK.out _ _ q1 (fun _ => ?_)
        clear hK K
        replace hS := q1
        try simp only [Act.put, List.setIfInBounds_toArray, List.set_cons_zero, List.set_cons_succ]
        refine wpAnyH_ready (rs := [25]) (by kernel_rfl) (by simp) ?_
        refine AllReadyH.cons rfl (fun K hK => ?_) AllReadyH.nil
        go_simp
        refine (order_ref F L _ OI.out (IW.out.on q1) HL.out).mono ?_
        rintro e wq2 ⟨sq2, rfl, hnq2, hiq2, _, hbq2⟩
        have q2 : Below wr.heap.size wr wq2 := View.more q1 hbq2
        have Nq2 := hid hnq2
        have Iq2 := hid hiq2
        have bq2 := hid hbq2
        clear hnq2 hiq2 hbq2
        go_wp2_with fail
        refine hK.out _ _ q2 (fun _ => ?_)
        clear hK K
        replace hS := q2
        try simp only [Act.put, List.setIfInBounds_toArray, List.set_cons_zero, List.set_cons_succ]
        refine wpAnyH_ready (rs := [26]) (by kernel_rfl) (by simp) ?_
        refine AllReadyH.cons rfl (fun K hK => ?_) AllReadyH.nil
        go_simp
        refine (ints_any sq1 sq2 _ _ _ (Iq1.out.on bq2.out) Iq2.out (by rw [Nq1.out]; exact OL.out)).mono ?_
        rintro e wq3 ⟨rq3, rfl, hrq3, qq3, rfl⟩
        obtain rfl : rq3 = true := hrq3.2 ⟨by rw [Nq1.out, Nq2.out], fun i hi => rfl⟩
        have q3 : Below wr.heap.size wr (wq2.drewN qq3) := below_drewN q2 _
        clear hrq3
        go_wp2_with fail
        refine hK.out _ _ q3 (fun _ => ?_)
        clear hK K
        replace hS := q3
        try simp only [Act.put, List.setIfInBounds_toArray, List.set_cons_zero, List.set_cons_succ]
        refine takeAt (i := 27) (d := some 54) (v := ?vb27) rfl (by rfl) (by kernel_rfl) (by kernel_rfl) (by kernel_rfl) (fun _ _ _ h => h) (Or.inl ⟨by rfl, ?yb27⟩) hS ?_
        case yb27 => intro wx hSw; (go_simp) <;> with_reducible rfl
        simp only [Act.put, List.setIfInBounds_toArray, List.set_cons_zero, List.set_cons_succ]
        refine takeAt (i := 28) (d := some 55) (v := ?vb28) rfl (by rfl) (by kernel_rfl) (by kernel_rfl) (by kernel_rfl) (fun _ _ _ h => h) (Or.inl ⟨by rfl, ?yb28⟩) hS ?_
        case yb28 => intro wx hSw; (go_simp) <;> with_reducible rfl
        simp only [Act.put, List.setIfInBounds_toArray, List.set_cons_zero, List.set_cons_succ]
        refine takeAt (i := 29) (d := some 56) (v := ?vb29) rfl (by rfl) (by kernel_rfl) (by kernel_rfl) (by kernel_rfl) (fun _ _ _ h => h) (Or.inl ⟨by rfl, ?yb29⟩) hS ?_
        case yb29 => intro wx hSw; (go_simp) <;> with_reducible rfl
        simp only [Act.put, List.setIfInBounds_toArray, List.set_cons_zero, List.set_cons_succ]
        refine takeAt (i := 31) (d := some 58) (v := ?vb31) rfl (by rfl) (by kernel_rfl) (by kernel_rfl) (by kernel_rfl) (fun _ _ _ h => h) (Or.inl ⟨by rfl, ?yb31⟩) hS ?_
        case yb31 => intro wx hSw; (go_simp) <;> with_reducible rfl
        simp only [Act.put, List.setIfInBounds_toArray, List.set_cons_zero, List.set_cons_succ]
        refine wpAnyH_ready (rs := [30]) (by kernel_rfl) (by simp) ?_
        refine AllReadyH.cons rfl (fun K hK => ?_) AllReadyH.nil
        go_simp
        refine (loops_flow F L _ OI.out (IW.out.on q3) HL.out HJ.out).mono ?_
        rintro e wq4 ⟨c1, rfl, hc1, hbq4⟩
        have q4 : Below wr.heap.size wr wq4 := View.more q3 hbq4
        have C1 := hid hc1
        clear hc1 hbq4
        go_wp2_with fail
        refine hK.out _ _ q4 (fun _ => ?_)
        clear hK K
        replace hS := q4
        try simp only [Act.put, List.setIfInBounds_toArray, List.set_cons_zero, List.set_cons_succ]
        refine wpAnyH_ready (rs := [32]) (by kernel_rfl) (by simp) ?_
        refine AllReadyH.cons rfl (fun K hK => ?_) AllReadyH.nil
        go_simp
        refine (loops_ref F _ (IW.out.on q4) HL.out).mono ?_
        rintro e wq5 ⟨c2, rfl, hc2, hbq5⟩
        have q5 : Below wr.heap.size wr wq5 := View.more q4 hbq5
        have hcc : c2 = c1 := Bool.eq_iff_iff.2 (hc2.trans ((rnd_same OI.out).symm.trans C1.out.symm))
        subst hcc
        clear hc2 hbq5
        go_wp2_with fail
        refine hK.out _ _ q5 (fun _ => ?_)
        clear hK K
        replace hS := q5
        try simp only [Act.put, List.setIfInBounds_toArray, List.set_cons_zero, List.set_cons_succ]
        refine takeAt (i := 33) (d := some 60) (v := ?vb33) rfl (by rfl) (by kernel_rfl) (by kernel_rfl) (by kernel_rfl) (fun _ _ _ h => h) (Or.inl ⟨by rfl, ?yb33⟩) hS ?_
        case yb33 => intro wx hSw; (go_simp) <;> with_reducible rfl
        simp only [Act.put, List.setIfInBounds_toArray, List.set_cons_zero, List.set_cons_succ]
        refine takeAt (i := 34) (d := some 61) (v := ?vb34) rfl (by rfl) (by kernel_rfl) (by kernel_rfl) (by kernel_rfl) (fun _ _ _ h => h) (Or.inl ⟨by rfl, ?yb34⟩) hS ?_
        case yb34 => intro wx hSw; (go_simp) <;> with_reducible rfl
        simp only [Act.put, List.setIfInBounds_toArray, List.set_cons_zero, List.set_cons_succ]
        refine takeAt (i := 35) (d := some 4) (v := ?vb35) rfl (by rfl) (by kernel_rfl) (by kernel_rfl) (by kernel_rfl) (fun _ _ _ h => h) (Or.inl ⟨by rfl, ?yb35⟩) hS ?_
        case yb35 => intro wx hSw; (go_simp) <;> with_reducible rfl
        simp only [Act.put, List.setIfInBounds_toArray, List.set_cons_zero, List.set_cons_succ]
        refine wpAnyH_done (by kernel_rfl) ?_ _
        refine NoPanic.normal ?_
        have ST := hid q5
        clear hS st0 p1 p2 p3 p4 p5 p6 p7 p8 p9 q1 q2 q3 q4 q5 A0 A1 A2 A3 A4
        go_wp2_with fail
        go_ret
        exact ⟨rfl, View.more (View.more B2.out hb) ST.out⟩

end Go.Proofs.Ytipligpabhjniaa.Flo
