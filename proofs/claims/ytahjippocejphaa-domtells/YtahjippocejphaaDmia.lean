/-
  dom.Over, Under and Front of a function without blocks.
-/
import Derived.Test.YtahjippocejphaaDmq
import Derived.Test.YtahjippocejphaaDmm
namespace Go.Proofs.Ytahjippocejphaa.Dm
open Go.RowKit View Rd Copy Num Ty Srt Go.Proofs.Ytahjippocejphaa.Flo Go.Proofs.Ytahjippocejphaa.Lt

set_option linter.unusedVariables false

set_option maxRecDepth 10000 in
set_option maxHeartbeats 1000000 in
theorem clone_nil (w : World) : Calls Try.prog 106 #[.slice none 0 0] w fun e w' => e = .returned (.slice none 0 0) ∧ Below w.heap.size w w' := by
  have hq : ∀ wx, (binOp .eql 30 (.slice none 0 0) (.slice none 0 0)).run Try.prog wx = .ok (.bool true) wx := fun wx => by
    have := Lib.run_eql_slice_nil (P := Try.prog) wx 30 3 none 0 0 0 0 underlying30
    simpa using this
  go_enter Try.func106, Try.ntmps106
  go_wp2_with fail
  go_ret
  exact ⟨rfl, same _⟩

set_option maxRecDepth 10000 in
set_option maxHeartbeats 1000000 in
theorem grow_zero (F : FV) (w : World) (hl : Light F) (hz : F.blk.n = 0) : Calls Try.prog 72 #[F.val] w fun e w' => ∃ g, e = .returned (.agg #[.slice none 0 0, .slice none 0 0, .slice (some ⟨g, 0, none⟩) F.blk.n F.blk.n]) ∧ Below w.heap.size w w' := by
  have gb := hl.blk
  have t0 : ((F.blk.n : Int) == 0) = true := by simp; omega
  clear hl hz
  go_enter Try.func72, Try.ntmps72
  go_wp2_with fail
  have hx0 : (((w.alloc (.cells (fcells F) 33)).alloc (.cells #[.slice none 0 0, .slice none 0 0, .slice none 0 0] 85)).alloc (.cells #[.int .i64 (-1)] 3)).cell? ⟨w.heap.size + 1 + 1, 0, none⟩ = some (.int .i64 (-1)) := by
    have := new_cell ((w.alloc (.cells (fcells F) 33)).alloc (.cells #[.slice none 0 0, .slice none 0 0, .slice none 0 0] 85)) #[.int .i64 (-1)] 3 0 _ rfl
    simp only [World.size_alloc] at this
    exact this
  have hz0 : ∀ i, i < 3 → (((w.alloc (.cells (fcells F) 33)).alloc (.cells #[.slice none 0 0, .slice none 0 0, .slice none 0 0] 85)).alloc (.cells #[.int .i64 (-1)] 3)).cell? ⟨w.heap.size + 1, i, none⟩ = some (.slice none 0 0) := fun i hi => by
    have h3 : (#[.slice none 0 0, .slice none 0 0, .slice none 0 0] : Array Value)[i]? = some (.slice none 0 0) := by
      have h3 : i = 0 ∨ i = 1 ∨ i = 2 := by omega
      rcases h3 with rfl | rfl | rfl <;> rfl
    have := new_cell (w.alloc (.cells (fcells F) 33)) #[.slice none 0 0, .slice none 0 0, .slice none 0 0] 85 i _ h3
    simp only [World.size_alloc] at this
    exact cell_on (new (same _) _) this
  have hzf : ∀ i, (((w.alloc (.cells (fcells F) 33)).alloc (.cells #[.slice none 0 0, .slice none 0 0, .slice none 0 0] 85)).alloc (.cells #[.int .i64 (-1)] 3)).frozen? ⟨w.heap.size + 1, i, none⟩ = false := fun i => by
    have := new_froz (w.alloc (.cells (fcells F) 33)) #[.slice none 0 0, .slice none 0 0, .slice none 0 0] 85 i
    simp only [World.size_alloc] at this
    rw [(new (same ((w.alloc (.cells (fcells F) 33)).alloc (.cells #[.slice none 0 0, .slice none 0 0, .slice none 0 0] 85))) (.cells #[.int .i64 (-1)] 3)).frozen (by simp)]
    exact this
  refine (repeat_any (w.heap.size + 1 + 1) F.blk.n gb _ hx0).mono ?_
  rintro e w1 ⟨PB, rfl, hr1, hP1, hb1⟩
  simp only [World.size_alloc] at hP1
  have B1 := hid (View.more (new (new (new (same w) _) _) _) hb1)
  have FA1 := hid (show FuncAt w1 w.heap.size F from (((FuncAt.alloc w F).on (new (same _) _)).on (new (same _) _)).on hb1)
  have z0 := cell_on hb1 (hz0 0 (by omega))
  have z1 := cell_on hb1 (hz0 1 (by omega))
  have z2 := cell_on hb1 (hz0 2 (by omega))
  have zf : ∀ i, w1.frozen? ⟨w.heap.size + 1, i, none⟩ = false := fun i => by rw [hb1.frozen (by simp)]; exact hzf i
  obtain ⟨c0, c1, c2, c3, c4⟩ := FA1.out
  have zz := hb1.size
  simp only [World.size_alloc] at zz
  have hwl : w.heap.size < w1.heap.size := by omega
  have hwl1 : w.heap.size + 1 < w1.heap.size := by omega
  clear hr1 hb1 hx0 hz0 hzf
  go_wp2_with fail
  refine bodyPost_ret (v := .agg #[.slice none 0 0, .slice none 0 0, .slice (some ⟨PB, 0, none⟩) F.blk.n F.blk.n]) (by rw [results_cell rfl]; go_simp) rfl ?_
  refine ⟨PB, rfl, ?_⟩
  first
    | exact (((new B1.out _).setCell (by show _ ≤ w.heap.size + 1; omega) _).setCell (by show _ ≤ w.heap.size + 1; omega) _).setCell (by show _ ≤ w.heap.size + 1; omega) _
    | exact new ((((B1.out).setCell (by show _ ≤ w.heap.size + 1; omega) _).setCell (by show _ ≤ w.heap.size + 1; omega) _).setCell (by show _ ≤ w.heap.size + 1; omega) _) _

theorem count_zero (w : World) : Calls Try.prog 107 #[.int .i64 0] w fun e w' => ∃ g c, e = .returned (.slice (some ⟨g, 0, none⟩) 0 c) ∧ Below w.heap.size w w' :=
  (count_any 0 (by omega) w).mono fun e w' ⟨g, c, h1, _, _, h2⟩ => ⟨g, c, h1, h2⟩

set_option maxRecDepth 10000 in
set_option maxHeartbeats 4000000 in
theorem findHeads_zero (v : Value) (M n : Nat) (w : World) : Calls Try.prog 74 #[.agg #[.slice none 0 0, .slice none 0 0, v], .slice (some ⟨M, 0, none⟩) n n] w fun e w' => ∃ g c, e = .returned (.slice (some ⟨g, 0, none⟩) 0 c) ∧ Below w.heap.size w w' := by
  go_enter Try.func74, Try.ntmps74
  go_wp2_with fail
  refine (count_zero _).mono ?_
  rintro e1 w1 ⟨gh, ch, rfl, hb1⟩
  have B1 := hid (View.more (new (same w) _) hb1)
  have T1 := hid (show ∀ i u, (#[.slice none 0 0, .slice none 0 0, v] : Array Value)[i]? = some u → w1.cell? ⟨w.heap.size, i, none⟩ = some u from fun i u h => cell_on hb1 (new_cell w _ _ i u h))
  have t0 := T1.out 0 _ rfl
  have t1 := T1.out 1 _ rfl
  have t2 := T1.out 2 _ rfl
  have k0 : ∀ wx, Below w1.heap.size w1 wx → wx.cell? ⟨w.heap.size, 0, none⟩ = some (.slice none 0 0) := fun wx h => cell_on h t0
  have k1 : ∀ wx, Below w1.heap.size w1 wx → wx.cell? ⟨w.heap.size, 1, none⟩ = some (.slice none 0 0) := fun wx h => cell_on h t1
  have st0 : Below w1.heap.size w1 w1.drew := Below.drew (same _)
  clear hb1 t0 t1 t2
  go_wp2_with fail
  go_cut [6] from 15 to 22 (fun c wx => ∃ cb, c = .pointer (some ⟨cb, 0, none⟩) ∧ Below w1.heap.size w1 wx)
  case first =>
    --REGION2
    refine wp_region_noPanic ?_
    refine wp_region_held_drew (S := fun wy => Below w1.heap.size w1 wy) (by kernel_rfl) st0 (fun hS => ?_)
    refine Go.Proofs.Ytahjippocejphaa.Flo.takeAt (i := 0) (d := some 15) (v := ?vc0) rfl (by rfl) (by kernel_rfl) (by kernel_rfl) (by kernel_rfl) (fun _ _ _ h => h) (Or.inl ⟨by rfl, ?yc0⟩) hS ?_
    case yc0 => intro wx hSw; (go_simp) <;> with_reducible rfl
    simp only [Act.put, List.setIfInBounds_toArray, List.set_cons_zero, List.set_cons_succ]
    refine Go.Proofs.Ytahjippocejphaa.Flo.takeAt (i := 1) (d := some 16) (v := ?vc1) rfl (by rfl) (by kernel_rfl) (by kernel_rfl) (by kernel_rfl) (fun _ _ _ h => h) (Or.inl ⟨by rfl, ?yc1⟩) hS ?_
    case yc1 => intro wx hSw; (go_simp) <;> with_reducible rfl
    simp only [Act.put, List.setIfInBounds_toArray, List.set_cons_zero, List.set_cons_succ]
    refine Go.Proofs.Ytahjippocejphaa.Flo.takeAt (i := 3) (d := some 18) (v := ?vc3) rfl (by rfl) (by kernel_rfl) (by kernel_rfl) (by kernel_rfl) (fun _ _ _ h => h) (Or.inl ⟨by rfl, ?yc3⟩) hS ?_
    case yc3 => intro wx hSw; (go_simp) <;> with_reducible rfl
    simp only [Act.put, List.setIfInBounds_toArray, List.set_cons_zero, List.set_cons_succ]
    refine Go.Proofs.Ytahjippocejphaa.Flo.takeAt (i := 4) (d := some 19) (v := ?vc4) rfl (by rfl) (by kernel_rfl) (by kernel_rfl) (by kernel_rfl) (fun _ _ _ h => h) (Or.inl ⟨by rfl, ?yc4⟩) hS ?_
    case yc4 => intro wx hSw; (go_simp) <;> with_reducible rfl
    simp only [Act.put, List.setIfInBounds_toArray, List.set_cons_zero, List.set_cons_succ]
    refine Go.Proofs.Ytahjippocejphaa.Flo.takeAt (i := 5) (d := some 20) (v := ?vc5) rfl (by rfl) (by kernel_rfl) (by kernel_rfl) (by kernel_rfl) (fun _ _ _ h => h) (Or.inl ⟨by rfl, ?yc5⟩) hS ?_
    case yc5 => intro wx hSw; (go_simp) <;> with_reducible rfl
    simp only [Act.put, List.setIfInBounds_toArray, List.set_cons_zero, List.set_cons_succ]
    obtain ⟨x0, hx0⟩ : ∃ x0, w1.drew = x0 := ⟨_, rfl⟩
    have q0 : Below w1.heap.size w1 x0 := by rw [← hx0]; exact st0
    have hq0 : w1.heap.size ≤ x0.heap.size := q0.size
    rw [hx0] at hS ⊢
    clear hx0 st0
    refine wpAnyH_ready (rs := [2, 8]) (by kernel_rfl) (by simp) ?_
    refine AllReadyH.cons rfl (fun K hK => ?_) (AllReadyH.cons rfl (fun K hK => ?_) AllReadyH.nil)
    · go_simp
      refine (clone_nil _).mono ?_
      rintro e2 x1 ⟨rfl, hb1⟩
      have q1 : Below w1.heap.size w1 x1 := View.more q0 hb1
      have hq1 := hb1.size
      refine hK.out _ _ q1 (fun _ => ?_)
      clear hK K
      replace hS := q1
      try simp only [Act.put, List.setIfInBounds_toArray, List.set_cons_zero, List.set_cons_succ]
      refine wpAnyH_ready (rs := [6, 8]) (by kernel_rfl) (by simp) ?_
      refine AllReadyH.cons rfl (fun K hK => ?_) (AllReadyH.cons rfl (fun K hK => ?_) AllReadyH.nil)
      · go_simp
        refine (count_zero _).mono ?_
        rintro e3 x2 ⟨gl, cl, rfl, hb2⟩
        have q2 : Below w1.heap.size w1 x2 := View.more q1 hb2
        have hq2 := hb2.size
        refine hK.out _ _ q2 (fun _ => ?_)
        clear hK K
        replace hS := q2
        try simp only [Act.put, List.setIfInBounds_toArray, List.set_cons_zero, List.set_cons_succ]
        refine Go.Proofs.Ytahjippocejphaa.Flo.takeAt (i := 7) (d := some 22) (v := ?vc1x7) rfl (by rfl) (by kernel_rfl) (by kernel_rfl) (by kernel_rfl) (fun _ _ _ h => h) (Or.inl ⟨by rfl, ?yc1x7⟩) hS ?_
        case yc1x7 => intro wx hSw; (go_simp) <;> with_reducible rfl
        simp only [Act.put, List.setIfInBounds_toArray, List.set_cons_zero, List.set_cons_succ]
        refine wpAnyH_ready (rs := [8]) (by kernel_rfl) (by simp) ?_
        refine AllReadyH.cons rfl (fun K hK => ?_) AllReadyH.nil
        go_simp
        have hb3 : Below x2.heap.size x2 (x2.alloc (.cells #[.slice none 0 0, .slice none 0 0, .slice none 0 0] 129)) := new (same _) _
        have BX := hid (show (∀ i, i < 3 → (x2.alloc (.cells #[.slice none 0 0, .slice none 0 0, .slice none 0 0] 129)).cell? ⟨x2.heap.size, i, none⟩ = some (.slice none 0 0)) ∧ ∀ i, (x2.alloc (.cells #[.slice none 0 0, .slice none 0 0, .slice none 0 0] 129)).frozen? ⟨x2.heap.size, i, none⟩ = false from ⟨fun i hi => new_cell x2 _ _ i _ (zero3 i hi), fun i => new_froz x2 _ _ i⟩)
        obtain ⟨x3, hx3⟩ : ∃ x, x2.alloc (.cells #[.slice none 0 0, .slice none 0 0, .slice none 0 0] 129) = x := ⟨_, rfl⟩
        have cbz : x3.heap.size = x2.heap.size + 1 := by rw [← hx3]; simp
        obtain ⟨cb, hcb⟩ : ∃ cb, x2.heap.size = cb := ⟨_, rfl⟩
        rw [hx3] at hb3 BX ⊢
        rw [hcb] at BX cbz ⊢
        have q3 : Below w1.heap.size w1 x3 := View.more q2 (by rw [hcb] at hb3; rw [hcb]; exact hb3)
        clear hx3
        have hq3 := hb3.size
        refine hK.out _ _ q3 (fun _ => ?_)
        clear hK K
        replace hS := q3
        try simp only [Act.put, List.setIfInBounds_toArray, List.set_cons_zero, List.set_cons_succ]
        have fbc : ∀ i, i < 3 → x3.cell? ⟨cb, i, none⟩ = some (.slice none 0 0) := fun i hi => BX.out.1 i hi
        have fbz : ∀ i, x3.frozen? ⟨cb, i, none⟩ = false := fun i => by exact BX.out.2 i
        have f0 := fbc 0 (by omega)
        have f1 := fbc 1 (by omega)
        have f2 := fbc 2 (by omega)
        have s9 : Below w1.heap.size w1 (((x3.setCell ⟨cb, 0, none⟩ (.slice none 0 0)).setCell ⟨cb, 1, none⟩ (.slice (some ⟨gl, 0, none⟩) 0 cl)).setCell ⟨cb, 2, none⟩ (.slice none 0 0)) := ((q3.setCell (by show _ ≤ cb; omega) _).setCell (by show _ ≤ cb; omega) _).setCell (by show _ ≤ cb; omega) _
        refine wpAnyH_ready (rs := [9]) (by kernel_rfl) (by simp) ?_
        refine AllReadyH.cons rfl (fun K hK => ?_) AllReadyH.nil
        go_simp
        refine hK.out _ _ s9 (fun _ => ?_)
        clear hK K
        replace hS := s9
        try simp only [Act.put, List.setIfInBounds_toArray, List.set_cons_zero, List.set_cons_succ]
        refine wpAnyH_done (by kernel_rfl) ?_ _
        refine NoPanic.normal ?_
        go_wp2_with fail
        go_meet
        case rel => exact ⟨cb, rfl, s9⟩
      · go_simp
        have hb2 : Below x1.heap.size x1 (x1.alloc (.cells #[.slice none 0 0, .slice none 0 0, .slice none 0 0] 129)) := new (same _) _
        have BX := hid (show (∀ i, i < 3 → (x1.alloc (.cells #[.slice none 0 0, .slice none 0 0, .slice none 0 0] 129)).cell? ⟨x1.heap.size, i, none⟩ = some (.slice none 0 0)) ∧ ∀ i, (x1.alloc (.cells #[.slice none 0 0, .slice none 0 0, .slice none 0 0] 129)).frozen? ⟨x1.heap.size, i, none⟩ = false from ⟨fun i hi => new_cell x1 _ _ i _ (zero3 i hi), fun i => new_froz x1 _ _ i⟩)
        obtain ⟨x2, hx2⟩ : ∃ x, x1.alloc (.cells #[.slice none 0 0, .slice none 0 0, .slice none 0 0] 129) = x := ⟨_, rfl⟩
        have cbz : x2.heap.size = x1.heap.size + 1 := by rw [← hx2]; simp
        obtain ⟨cb, hcb⟩ : ∃ cb, x1.heap.size = cb := ⟨_, rfl⟩
        rw [hx2] at hb2 BX ⊢
        rw [hcb] at BX cbz ⊢
        have q2 : Below w1.heap.size w1 x2 := View.more q1 (by rw [hcb] at hb2; rw [hcb]; exact hb2)
        clear hx2
        have hq2 := hb2.size
        refine hK.out _ _ q2 (fun _ => ?_)
        clear hK K
        replace hS := q2
        try simp only [Act.put, List.setIfInBounds_toArray, List.set_cons_zero, List.set_cons_succ]
        refine wpAnyH_ready (rs := [6]) (by kernel_rfl) (by simp) ?_
        refine AllReadyH.cons rfl (fun K hK => ?_) AllReadyH.nil
        go_simp
        refine (count_zero _).mono ?_
        rintro e3 x3 ⟨gl, cl, rfl, hb3⟩
        have q3 : Below w1.heap.size w1 x3 := View.more q2 hb3
        have hq3 := hb3.size
        refine hK.out _ _ q3 (fun _ => ?_)
        clear hK K
        replace hS := q3
        try simp only [Act.put, List.setIfInBounds_toArray, List.set_cons_zero, List.set_cons_succ]
        refine Go.Proofs.Ytahjippocejphaa.Flo.takeAt (i := 7) (d := some 22) (v := ?vc2x7) rfl (by rfl) (by kernel_rfl) (by kernel_rfl) (by kernel_rfl) (fun _ _ _ h => h) (Or.inl ⟨by rfl, ?yc2x7⟩) hS ?_
        case yc2x7 => intro wx hSw; (go_simp) <;> with_reducible rfl
        simp only [Act.put, List.setIfInBounds_toArray, List.set_cons_zero, List.set_cons_succ]
        have fbc : ∀ i, i < 3 → x3.cell? ⟨cb, i, none⟩ = some (.slice none 0 0) := fun i hi => (cell_on hb3 (BX.out.1 i hi))
        have fbz : ∀ i, x3.frozen? ⟨cb, i, none⟩ = false := fun i => by rw [hb3.frozen (show cb < _ by omega)]; exact BX.out.2 i
        have f0 := fbc 0 (by omega)
        have f1 := fbc 1 (by omega)
        have f2 := fbc 2 (by omega)
        have s9 : Below w1.heap.size w1 (((x3.setCell ⟨cb, 0, none⟩ (.slice none 0 0)).setCell ⟨cb, 1, none⟩ (.slice (some ⟨gl, 0, none⟩) 0 cl)).setCell ⟨cb, 2, none⟩ (.slice none 0 0)) := ((q3.setCell (by show _ ≤ cb; omega) _).setCell (by show _ ≤ cb; omega) _).setCell (by show _ ≤ cb; omega) _
        refine wpAnyH_ready (rs := [9]) (by kernel_rfl) (by simp) ?_
        refine AllReadyH.cons rfl (fun K hK => ?_) AllReadyH.nil
        go_simp
        refine hK.out _ _ s9 (fun _ => ?_)
        clear hK K
        replace hS := s9
        try simp only [Act.put, List.setIfInBounds_toArray, List.set_cons_zero, List.set_cons_succ]
        refine wpAnyH_done (by kernel_rfl) ?_ _
        refine NoPanic.normal ?_
        go_wp2_with fail
        go_meet
        case rel => exact ⟨cb, rfl, s9⟩
    · go_simp
      have hb1 : Below x0.heap.size x0 (x0.alloc (.cells #[.slice none 0 0, .slice none 0 0, .slice none 0 0] 129)) := new (same _) _
      have BX := hid (show (∀ i, i < 3 → (x0.alloc (.cells #[.slice none 0 0, .slice none 0 0, .slice none 0 0] 129)).cell? ⟨x0.heap.size, i, none⟩ = some (.slice none 0 0)) ∧ ∀ i, (x0.alloc (.cells #[.slice none 0 0, .slice none 0 0, .slice none 0 0] 129)).frozen? ⟨x0.heap.size, i, none⟩ = false from ⟨fun i hi => new_cell x0 _ _ i _ (zero3 i hi), fun i => new_froz x0 _ _ i⟩)
      obtain ⟨x1, hx1⟩ : ∃ x, x0.alloc (.cells #[.slice none 0 0, .slice none 0 0, .slice none 0 0] 129) = x := ⟨_, rfl⟩
      have cbz : x1.heap.size = x0.heap.size + 1 := by rw [← hx1]; simp
      obtain ⟨cb, hcb⟩ : ∃ cb, x0.heap.size = cb := ⟨_, rfl⟩
      rw [hx1] at hb1 BX ⊢
      rw [hcb] at BX cbz ⊢
      have q1 : Below w1.heap.size w1 x1 := View.more q0 (by rw [hcb] at hb1; rw [hcb]; exact hb1)
      clear hx1
      have hq1 := hb1.size
      refine hK.out _ _ q1 (fun _ => ?_)
      clear hK K
      replace hS := q1
      try simp only [Act.put, List.setIfInBounds_toArray, List.set_cons_zero, List.set_cons_succ]
      refine wpAnyH_ready (rs := [2]) (by kernel_rfl) (by simp) ?_
      refine AllReadyH.cons rfl (fun K hK => ?_) AllReadyH.nil
      go_simp
      refine (clone_nil _).mono ?_
      rintro e2 x2 ⟨rfl, hb2⟩
      have q2 : Below w1.heap.size w1 x2 := View.more q1 hb2
      have hq2 := hb2.size
      refine hK.out _ _ q2 (fun _ => ?_)
      clear hK K
      replace hS := q2
      try simp only [Act.put, List.setIfInBounds_toArray, List.set_cons_zero, List.set_cons_succ]
      refine wpAnyH_ready (rs := [6]) (by kernel_rfl) (by simp) ?_
      refine AllReadyH.cons rfl (fun K hK => ?_) AllReadyH.nil
      go_simp
      refine (count_zero _).mono ?_
      rintro e3 x3 ⟨gl, cl, rfl, hb3⟩
      have q3 : Below w1.heap.size w1 x3 := View.more q2 hb3
      have hq3 := hb3.size
      refine hK.out _ _ q3 (fun _ => ?_)
      clear hK K
      replace hS := q3
      try simp only [Act.put, List.setIfInBounds_toArray, List.set_cons_zero, List.set_cons_succ]
      refine Go.Proofs.Ytahjippocejphaa.Flo.takeAt (i := 7) (d := some 22) (v := ?vc3x7) rfl (by rfl) (by kernel_rfl) (by kernel_rfl) (by kernel_rfl) (fun _ _ _ h => h) (Or.inl ⟨by rfl, ?yc3x7⟩) hS ?_
      case yc3x7 => intro wx hSw; (go_simp) <;> with_reducible rfl
      simp only [Act.put, List.setIfInBounds_toArray, List.set_cons_zero, List.set_cons_succ]
      have fbc : ∀ i, i < 3 → x3.cell? ⟨cb, i, none⟩ = some (.slice none 0 0) := fun i hi => (cell_on hb3 ((cell_on hb2 (BX.out.1 i hi))))
      have fbz : ∀ i, x3.frozen? ⟨cb, i, none⟩ = false := fun i => by rw [hb3.frozen (show cb < _ by omega), hb2.frozen (show cb < _ by omega)]; exact BX.out.2 i
      have f0 := fbc 0 (by omega)
      have f1 := fbc 1 (by omega)
      have f2 := fbc 2 (by omega)
      have s9 : Below w1.heap.size w1 (((x3.setCell ⟨cb, 0, none⟩ (.slice none 0 0)).setCell ⟨cb, 1, none⟩ (.slice (some ⟨gl, 0, none⟩) 0 cl)).setCell ⟨cb, 2, none⟩ (.slice none 0 0)) := ((q3.setCell (by show _ ≤ cb; omega) _).setCell (by show _ ≤ cb; omega) _).setCell (by show _ ≤ cb; omega) _
      refine wpAnyH_ready (rs := [9]) (by kernel_rfl) (by simp) ?_
      refine AllReadyH.cons rfl (fun K hK => ?_) AllReadyH.nil
      go_simp
      refine hK.out _ _ s9 (fun _ => ?_)
      clear hK K
      replace hS := s9
      try simp only [Act.put, List.setIfInBounds_toArray, List.set_cons_zero, List.set_cons_succ]
      refine wpAnyH_done (by kernel_rfl) ?_ _
      refine NoPanic.normal ?_
      go_wp2_with fail
      go_meet
      case rel => exact ⟨cb, rfl, s9⟩
    --END2
  case rest =>
    obtain ⟨cb, rfl, hbl⟩ := hcut
    have t0 := k0 _ hbl
    have BL := hid (View.more B1.out hbl)
    clear hbl k0 k1 B1
    go_wp2_with fail
    go_loopw [7] (fun iv wr => iv = .int .i64 (-1) ∧ Below w.heap.size w wr) (fun _ _ => 0)
    case atStart => exact ⟨by go_num, BL.out⟩
    case round =>
      obtain ⟨rfl, hb⟩ := hrel
      have HB := hid hb
      clear hb
      go_wp2_with fail
      go_ret
      exact ⟨gh, ch, rfl, HB.out⟩

set_option maxRecDepth 10000 in
set_option maxHeartbeats 1000000 in
theorem nearest_zero (v : Value) (gh ch : Nat) (w : World) : Calls Try.prog 73 #[.agg #[.slice none 0 0, .slice none 0 0, v], .slice (some ⟨gh, 0, none⟩) 0 ch] w fun e w' => e = .returned (.slice none 0 0) ∧ Below w.heap.size w w' := by
  go_enter Try.func73, Try.ntmps73
  go_wp2_with fail
  refine (clone_nil _).mono ?_
  rintro e w1 ⟨rfl, hb1⟩
  have B1 := hid (View.more (new (same w) _) hb1)
  clear hb1
  go_wp2_with fail
  go_loopw [13] (fun iv wr => iv = .int .i64 0 ∧ Below w.heap.size w wr) (fun _ _ => 0)
  case atStart => exact ⟨rfl, B1.out⟩
  case round =>
    obtain ⟨rfl, hb⟩ := hrel
    have HB := hid hb
    clear hb
    go_wp2_with fail
    go_ret
    exact ⟨rfl, HB.out⟩

set_option maxRecDepth 10000 in
set_option maxHeartbeats 4000000 in
theorem over_zero (F : FV) (w : World) (hF : In w F) (hl : Light F) (hj : Jng F) (hz : F.blk.n = 0) : Calls Try.prog 28 #[F.val] w fun e w' => OverGives F w e w' := by
  have HF := hid hF
  have HL := hid hl
  have HJ := hid hj
  have gb := hl.blk
  have HZ := hid hz
  clear hF hl hj hz
  go_enter Try.func28, Try.ntmps28
  go_wp2_with fail
  have hx0 : ((w.alloc (.cells (fcells F) 33)).alloc (.cells #[.int .i64 (-1)] 3)).cell? ⟨w.heap.size + 1, 0, none⟩ = some (.int .i64 (-1)) := by
    have := new_cell (w.alloc (.cells (fcells F) 33)) #[.int .i64 (-1)] 3 0 _ rfl
    simp only [World.size_alloc] at this
    exact this
  refine (repeat_any (w.heap.size + 1) F.blk.n gb _ hx0).mono ?_
  rintro e w1 ⟨go, rfl, hr1, hg1, hb1⟩
  simp only [World.size_alloc] at hg1
  have B1 := hid (View.more (new (new (same w) _) _) hb1)
  have FA1 := hid (show FuncAt w1 w.heap.size F from (((FuncAt.alloc w F).on (new (same _) _))).on hb1)
  have R1 := hid (show Ro w1 go F.blk.n (fun _ => -1) from (Ro.of_row hr1).congr (fun i hi => by simp [hi]))
  obtain ⟨c0, c1, c2, c3, c4⟩ := FA1.out
  clear hr1 hb1 hx0
  go_wp2_with fail
  refine (grow_zero F _ HL.out HZ.out).mono ?_
  rintro e w2 ⟨g3, rfl, hb2⟩
  have B2 := hid (View.more B1.out hb2)
  have FA2 := hid (FA1.out.on hb2)
  have RO := hid (R1.out.on hb2)
  clear c0 c1 c2 c3 c4 hb2
  go_wp2_with fail
  obtain ⟨W, hW⟩ : ∃ W, w2.alloc (.cells #[.slice none 0 0, .slice none 0 0, .slice (some ⟨g3, 0, none⟩) F.blk.n F.blk.n] 85) = W := ⟨_, rfl⟩
  obtain ⟨tb, htb⟩ : ∃ tb, w2.heap.size = tb := ⟨_, rfl⟩
  have LW := hid (show Below w2.heap.size w2 W by rw [← hW]; exact new (same _) _)
  have TW := hid (show ∀ i v, (#[.slice none 0 0, .slice none 0 0, .slice (some ⟨g3, 0, none⟩) F.blk.n F.blk.n] : Array Value)[i]? = some v → W.cell? ⟨tb, i, none⟩ = some v by rw [← hW, ← htb]; exact fun i v h => new_cell w2 _ _ i v h)
  simp only [hW, htb]
  clear hW
  have FW := hid (FA2.out.on LW.out)
  have k0 : ∀ wx, Below W.heap.size W wx → wx.cell? ⟨tb, 0, none⟩ = some (.slice none 0 0) := fun wx h => cell_on h (TW.out 0 _ rfl)
  have k1' : ∀ wx, Below W.heap.size W wx → wx.cell? ⟨tb, 1, none⟩ = some (.slice none 0 0) := fun wx h => cell_on h (TW.out 1 _ rfl)
  have k2' : ∀ wx, Below W.heap.size W wx → wx.cell? ⟨tb, 2, none⟩ = some (.slice (some ⟨g3, 0, none⟩) F.blk.n F.blk.n) := fun wx h => cell_on h (TW.out 2 _ rfl)
  have f0 : ∀ wx, Below W.heap.size W wx → wx.cell? ⟨w.heap.size, 0, none⟩ = some (.string F.name) := fun wx h => (FW.out.on h).c0
  have f1 : ∀ wx, Below W.heap.size W wx → wx.cell? ⟨w.heap.size, 1, none⟩ = some (.bool F.out) := fun wx h => (FW.out.on h).c1
  have f2 : ∀ wx, Below W.heap.size W wx → wx.cell? ⟨w.heap.size, 2, none⟩ = some (.slice F.par.a F.par.n F.par.c) := fun wx h => (FW.out.on h).c2
  have f3 : ∀ wx, Below W.heap.size W wx → wx.cell? ⟨w.heap.size, 3, none⟩ = some (.int .i64 F.res) := fun wx h => (FW.out.on h).c3
  have f4 : ∀ wx, Below W.heap.size W wx → wx.cell? ⟨w.heap.size, 4, none⟩ = some (.slice F.blk.a F.blk.n F.blk.c) := fun wx h => (FW.out.on h).c4
  have BW := hid (View.more B2.out LW.out)
  have ROW := hid (RO.out.on LW.out)
  have st0 : Below W.heap.size W W.drew := Below.drew (same _)
  go_region_held3 (fun wx => Below W.heap.size W wx) (first | exact st0 | exact st1 | exact st2 | exact st3)
    (first
      | (go_at_call 57; refine (prev_flow F _ (HF.out.on (View.more BW.out st0)) HL.out HJ.out).mono ?_; rintro e3 w3 ⟨M, R, rfl, hpv, hM, hb3⟩; have st1 : Below W.heap.size W w3 := View.more st0 hb3; clear hpv hM hb3)
      | (go_at_call 74; refine (findHeads_zero _ M F.blk.n _).mono ?_; rintro e4 w4 ⟨gh, ch, rfl, hb4⟩; have st2 : Below W.heap.size W w4 := View.more st1 hb4; clear hb4)
      | (go_at_call 73; refine (nearest_zero _ gh ch _).mono ?_; rintro e5 w5 ⟨rfl, hb5⟩; have st3 : Below W.heap.size W w5 := View.more st2 hb5; clear hb5))
  have S5 := hid st3
  clear k0 k1' k2' f0 f1 f2 f3 f4 st0 st1 st2 st3
  go_wp2_with fail
  go_loopw [21] (fun iv wr => iv = .int .i64 0 ∧ Below W.heap.size W wr) (fun _ _ => 0)
  case atStart => exact ⟨rfl, S5.out⟩
  case round =>
    obtain ⟨rfl, hb⟩ := hrel
    have HB := hid hb
    clear hb
    go_wp2_with fail
    go_ret
    exact ⟨go, F.blk.n, fun _ => -1, rfl, ROW.out.on HB.out, ⟨fun b hb => by have := HZ.out; omega, fun b hb => by have := HZ.out; omega⟩, ⟨by omega, Nat.le_refl _⟩, View.more BW.out HB.out⟩

set_option maxRecDepth 10000 in
set_option maxHeartbeats 2000000 in
theorem under_zero (F : FV) (w : World) (hF : In w F) (hl : Light F) (hj : Jng F) (hz : F.blk.n = 0) : Calls Try.prog 31 #[F.val] w fun e w' => UnderGives F w e w' := by
  have HF := hid hF
  have HL := hid hl
  have HJ := hid hj
  have gb := hl.blk
  have hmk := run_make_row' (P := Try.prog) 56 30 (.slice none 0 0) 24 underlying56 info30 rfl .i64 .i64 F.blk.n (by omega) (by omega)
  have HZ := hid hz
  clear hF hl hj hz
  go_enter Try.func31, Try.ntmps31
  go_wp2_with fail
  clear hmk
  obtain ⟨w1, hw1⟩ : ∃ w1, (w.alloc (.cells (fcells F) 33)).alloc (.cells (madeCells #[.slice none 0 0] F.blk.n) 30) = w1 := ⟨_, rfl⟩
  obtain ⟨M, hM⟩ : ∃ M, w.heap.size + 1 = M := ⟨_, rfl⟩
  have B1 := hid (show Below w.heap.size w w1 by rw [← hw1]; exact new (new (same w) _) _)
  have P1 := hid (show Pv w1 M F.blk.n (fun _ => ⟨none, 0, 0⟩) (fun _ => []) by
    rw [← hw1, ← hM]
    refine ⟨?_, fun i hi => by simp; exact World.ownsRow_nil _ _ _ _, fun i j _ _ _ g h => by simp [Value.ownBlock] at h⟩
    have := World.rowIs_made (w.alloc (.cells (fcells F) 33)) (.slice none 0 0) F.blk.n 30
    simpa using this)
  have FA1 := hid (show FuncAt w1 w.heap.size F by rw [← hw1]; exact (FuncAt.alloc w F).on (new (same _) _))
  have Z1 := hid (show w1.heap.size = w.heap.size + 2 by rw [← hw1]; simp)
  simp only [hw1, hM]
  clear hw1
  obtain ⟨c0, c1, c2, c3, c4⟩ := FA1.out
  go_wp2_with fail
  refine (over_zero F _ (HF.out.on B1.out) HL.out HJ.out HZ.out).mono ?_
  rintro e w2 ⟨go, co, ov, rfl, hro, hov, hgo, hb2⟩
  have RO := hid hro
  have OV := hid hov
  have P2 := hid (P1.out.on hb2)
  have B2 := hid (View.more B1.out hb2)
  have gol := hro.lt
  have z1 := Z1.out
  have z2 := hb2.size
  clear hro hov hb2 c0 c1 c2 c3 c4
  go_wp2_with fail
  go_loopw [13] (fun iv wr => ∃ (k : Nat) (R : Nat → Sl), k ≤ F.blk.n ∧ iv = .int .i64 k ∧ Pv wr M F.blk.n R (undL ov k) ∧ (∀ i, i < F.blk.n → ∀ g, (Sl.val (R i)).ownBlock = some g → w2.heap.size ≤ g) ∧ Ro wr go F.blk.n ov ∧ w2.heap.size ≤ wr.heap.size ∧ Below w.heap.size w wr) (fun iv _ => F.blk.n - (intOf iv).toNat)
  case atStart => exact ⟨0, _, Nat.zero_le _, rfl, P2.out.congr (fun i _ => by simp [undL]), fun i _ g h => by simp [Value.ownBlock] at h, RO.out, Nat.le_refl _, B2.out⟩
  case round =>
    clear P2 RO B2 P1 FA1
    obtain ⟨k, R, hk, rfl, hp, hfar, hro, hsz, hbl⟩ := hrel
    have HS := hid (And.intro hp (And.intro hfar (And.intro hro hbl)))
    by_cases lk : k < F.blk.n
    · exact absurd lk (by have := HZ.out; omega)
    · obtain rfl : k = F.blk.n := by omega
      clear hp hfar hro hbl
      go_wp2_with fail
      go_ret
      exact ⟨M, R, ov, rfl, HS.out.1, OV.out, by omega, HS.out.2.2.2⟩

set_option maxRecDepth 10000 in
set_option maxHeartbeats 4000000 in
theorem front_zero (F : FV) (w : World) (hF : In w F) (hl : Light F) (hj : Jng F) (hz : F.blk.n = 0) : Calls Try.prog 33 #[F.val] w fun e w' => FrontGives F w e w' := by
  have HF := hid hF
  have HL := hid hl
  have HJ := hid hj
  have gb := hl.blk
  have HZ := hid hz
  obtain ⟨L, hL⟩ := ord_ex F
  have HOR := hid hL
  have hmk := run_make_row' (P := Try.prog) 56 30 (.slice none 0 0) 24 underlying56 info30 rfl .i64 .i64 F.blk.n (by omega) (by omega)
  clear hF hl hj hL hz
  go_enter Try.func33, Try.ntmps33
  go_wp2_with fail
  clear hmk
  obtain ⟨w1, hw1⟩ : ∃ w1, (w.alloc (.cells (fcells F) 33)).alloc (.cells (madeCells #[.slice none 0 0] F.blk.n) 30) = w1 := ⟨_, rfl⟩
  obtain ⟨M, hM⟩ : ∃ M, w.heap.size + 1 = M := ⟨_, rfl⟩
  have B1 := hid (show Below w.heap.size w w1 by rw [← hw1]; exact new (new (same w) _) _)
  have P1 := hid (show Pv w1 M F.blk.n (fun _ => ⟨none, 0, 0⟩) (fun _ => []) by
    rw [← hw1, ← hM]
    refine ⟨?_, fun i hi => by simp; exact World.ownsRow_nil _ _ _ _, fun i j _ _ _ g h => by simp [Value.ownBlock] at h⟩
    have := World.rowIs_made (w.alloc (.cells (fcells F) 33)) (.slice none 0 0) F.blk.n 30
    simpa using this)
  have FA1 := hid (show FuncAt w1 w.heap.size F by rw [← hw1]; exact (FuncAt.alloc w F).on (new (same _) _))
  have Z1 := hid (show w1.heap.size = w.heap.size + 2 by rw [← hw1]; simp)
  simp only [hw1, hM]
  clear hw1
  have f0 : ∀ wx, Below w1.heap.size w1 wx → wx.cell? ⟨w.heap.size, 0, none⟩ = some (.string F.name) := fun wx h => (FA1.out.on h).c0
  have f1 : ∀ wx, Below w1.heap.size w1 wx → wx.cell? ⟨w.heap.size, 1, none⟩ = some (.bool F.out) := fun wx h => (FA1.out.on h).c1
  have f2 : ∀ wx, Below w1.heap.size w1 wx → wx.cell? ⟨w.heap.size, 2, none⟩ = some (.slice F.par.a F.par.n F.par.c) := fun wx h => (FA1.out.on h).c2
  have f3 : ∀ wx, Below w1.heap.size w1 wx → wx.cell? ⟨w.heap.size, 3, none⟩ = some (.int .i64 F.res) := fun wx h => (FA1.out.on h).c3
  have f4 : ∀ wx, Below w1.heap.size w1 wx → wx.cell? ⟨w.heap.size, 4, none⟩ = some (.slice F.blk.a F.blk.n F.blk.c) := fun wx h => (FA1.out.on h).c4
  have st0 : Below w1.heap.size w1 w1.drew := Below.drew (same _)
  go_region_held3 (fun wx => Below w1.heap.size w1 wx) (first | exact st0 | exact st1 | exact st2)
    (first
      | (go_at_call 28; refine (over_zero F _ (HF.out.on (View.more B1.out st0)) HL.out HJ.out HZ.out).mono ?_; rintro e w2 ⟨go, co, ov, rfl, hro, hov, hgo, hb2⟩; have st1 : Below w1.heap.size w1 w2 := View.more st0 hb2; have RO := hid hro; have OV := hid hov; have gol := hro.lt; have hgo1 := Nat.le_trans st0.size hgo.1; clear hro hov hgo hb2)
      | (go_at_call 56; refine (reach_flow F L _ HOR.out (HF.out.on (View.more B1.out st1)) HL.out HJ.out).mono ?_; rintro e w3 ⟨gr, rfl, hrr, hgr, hb3⟩; have st2 : Below w1.heap.size w1 w3 := View.more st1 hb3; have RR := hid hrr; have RO3 := hid (RO.out.on hb3); have z3 := hb3.size; have grl := hrr.lt; clear hrr hb3))
  have B3 := hid (View.more B1.out st2)
  have P3 := hid (P1.out.on st2)
  have z1 := Z1.out
  have FA3 := hid (FA1.out.on st2)
  clear f0 f1 f2 f3 f4 RO
  obtain ⟨c0, c1, c2, c3, c4⟩ := FA3.out
  go_wp2_with fail
  refine (prev_flow F _ (HF.out.on B3.out) HL.out HJ.out).mono ?_
  rintro e w4 ⟨Mp, Rp, rfl, hpp, hMp, hb4⟩
  have PP := hid hpp
  have P4 := hid (P3.out.on hb4)
  have B4 := hid (View.more B3.out hb4)
  have RO4 := hid (RO3.out.on hb4)
  have RR4 := hid (RR.out.of_block (hb4.block _ RR.out.lt))
  have mpl := hpp.row.lt
  have z4 := hb4.size
  clear hpp hb4 c0 c1 c2 c3 c4 FA3 P3 RO3 B3 RR
  go_wp2_with fail
  have Z := hid (And.intro z1 (And.intro hgo1 (And.intro gol (And.intro hgr (And.intro grl (And.intro hMp (And.intro mpl (And.intro z3 z4))))))))
  have hM1 : M < w1.heap.size := by omega
  have hs12 := st1.size
  have hgm : go ≠ M := by omega
  have hrm : gr ≠ M := by omega
  have hpm : Mp ≠ M := by omega
  have hg4 : go < w4.heap.size := by omega
  have hr4 : gr < w4.heap.size := by omega
  have hm4 : M < w4.heap.size := by omega
  clear st0 st1 st2 hs12
  go_loopw [21] (fun iv wr => ∃ (k : Nat) (R : Nat → Sl), k ≤ F.blk.n ∧ iv = .int .i64 k ∧ FSt F M w w4 wr R (frL F k)) (fun iv _ => F.blk.n - (intOf iv).toNat)
  case atStart => exact ⟨0, _, Nat.zero_le _, rfl, P4.out.congr (fun i _ => by simp [frL]), fun i _ g h => by simp [Value.ownBlock] at h, Kept.refl _ _, B4.out⟩
  case round =>
    clear P4 B4
    obtain ⟨b, R, hk, rfl, hst⟩ := hrel
    have HS := hid hst
    by_cases lk : b < F.blk.n
    · exact absurd lk (by have := HZ.out; omega)
    · obtain rfl : b = F.blk.n := by omega
      clear hst
      go_wp2_with fail
      go_ret
      exact ⟨M, R, rfl, HS.out.1, by omega, HS.out.2.2.2⟩

end Go.Proofs.Ytahjippocejphaa.Dm
