/-
  wf: whether what is taken in a function is there; given: where values are given.
-/
import Derived.Test.YtbmfimojhcdnbaaGreatWfr
import Derived.Test.YtbmfimojhcdnbaaGreatJ18
namespace Go.Proofs.YtbmfimojhcdnbaaGreat.Wf
open Go.RowKit View Rd Num Opn Copy Srt Go.Proofs.YtbmfimojhcdnbaaGreat.Mod Go.Proofs.YtbmfimojhcdnbaaGreat.Chk Go.Proofs.YtbmfimojhcdnbaaGreat.Flo Go.Proofs.YtbmfimojhcdnbaaGreat.Dm

set_option linter.unusedVariables false

def GivenIs (F : FV) (w : World) (e : Ending) (w' : World) : Prop :=
  ∃ (O c : Nat) (bl pl : Nat → Int), e = .returned (.slice (some ⟨O, 0, none⟩) (allV F + 1) c) ∧ Gv F w' O bl pl ∧ allV F + 1 ≤ c ∧ w.heap.size ≤ O ∧ Below w.heap.size w w'

/-- What wf.givenAt keeps. -/
def GivenKept (F : FV) : Prop := ∀ w, In w F → Calls Tryz.prog 89 #[F.val] w fun e w' => GivenIs F w e w'

theorem Gv.at_block {F : FV} {w w' : World} {O : Nat} {bl pl : Nat → Int} (h : Gv F w O bl pl) (e : w'.heap[O]? = w.heap[O]?) : Gv F w' O bl pl :=
  ⟨fun v hv => by rw [World.cell?_of_block (w := w) e]; exact h.cb v hv, fun v hv => by rw [World.cell?_of_block (w := w) e]; exact h.cp v hv, h.par, h.val⟩

theorem Gv.lt {F : FV} {w : World} {O : Nat} {bl pl : Nat → Int} (h : Gv F w O bl pl) : O < w.heap.size := World.block_lt_of_cell? _ _ (h.cb 0 (Nat.zero_le _))

theorem zero2 (i : Nat) (hi : i < 2) : (#[.slice none 0 0, .slice none 0 0] : Array Value)[i]? = some (.slice none 0 0) := by
  have h2 : i = 0 ∨ i = 1 := by omega
  rcases h2 with rfl | rfl <;> rfl

/-- The values' rows lie at cb. -/
def VBox (F : FV) (cb : Nat) (wx : World) : Prop := ∃ (O cO g c : Nat) (bl pl ov : Nat → Int), wx.cell? ⟨cb, 0, none⟩ = some (.slice (some ⟨O, 0, none⟩) (allV F + 1) cO) ∧ wx.cell? ⟨cb, 1, none⟩ = some (.slice (some ⟨g, 0, none⟩) F.blk.n c) ∧ Gv F wx O bl pl ∧ Ro wx g F.blk.n ov ∧ OverIs F ov ∧ allV F + 1 ≤ cO ∧ F.blk.n ≤ c

theorem vbox_of {F : FV} {X : World} {cb O cO g c : Nat} {bl pl ov : Nat → Int} (hg : Gv F X O bl pl) (hr : Ro X g F.blk.n ov) (ho : OverIs F ov) (hcO : allV F + 1 ≤ cO) (hc : F.blk.n ≤ c) (bc : ∀ i, i < 2 → X.cell? ⟨cb, i, none⟩ = some (.slice none 0 0)) (n1 : cb ≠ O) (n2 : cb ≠ g) :
    VBox F cb ((X.setCell ⟨cb, 0, none⟩ (.slice (some ⟨O, 0, none⟩) (allV F + 1) cO)).setCell ⟨cb, 1, none⟩ (.slice (some ⟨g, 0, none⟩) F.blk.n c)) := by
  have b2 : ∀ k, k ≠ cb → ((X.setCell ⟨cb, 0, none⟩ (.slice (some ⟨O, 0, none⟩) (allV F + 1) cO)).setCell ⟨cb, 1, none⟩ (.slice (some ⟨g, 0, none⟩) F.blk.n c)).heap[k]? = X.heap[k]? := fun k hk => by
    rw [Below.heap_setCell _ _ _ _ hk, Below.heap_setCell _ _ _ _ hk]
  exact ⟨O, cO, g, c, bl, pl, ov, cell_other (ne_off (by omega)) (cell_same (bc 0 (by omega))), cell_same (cell_other (ne_off (by omega)) (bc 1 (by omega))), hg.at_block (b2 _ (fun e => n1 e.symm)), hr.at_block (b2 _ (fun e => n2 e.symm)), ho, hcO, hc⟩

set_option maxRecDepth 10000 in
set_option maxHeartbeats 8000000 in
theorem funcUse_any (F : FV) (w : World) (hF : In w F) (hl : Light F) (hj : Jng F) (hf : FormF F) (hfl : FlowF F) (h0 : 0 < F.blk.n) (hgi : GivenKept F) : Calls Tryz.prog 58 #[F.val] w fun e w' => Ans (fun r => r = true ↔ ¬ UseF F) w e w' := by
  have gb := hl.blk
  obtain ⟨L, par, hgr⟩ := gro_ex hl h0
  obtain ⟨W, hW⟩ : ∃ W, w.alloc (.cells (fcells F) 43) = W := ⟨_, rfl⟩
  have FW := hid (show FuncAt W w.heap.size F by rw [← hW]; exact FuncAt.alloc w F)
  have HF := hid (show In W F by rw [← hW]; exact hF.on (new (same w) _))
  have LW := hid (show Below w.heap.size w W by rw [← hW]; exact new (same w) _)
  have HL := hid hl
  have HJ := hid hj
  have HFO := hid hf
  have HFL := hid hfl
  have HGI := hid hgi
  have HGR := hid hgr
  have HWW := hid hW
  have YES := hid (show ∀ wx, Below W.heap.size W wx → ¬ UseF F → Ans (fun r => r = true ↔ ¬ UseF F) w (.returned (.bool true)) wx from fun wx h hn => ⟨true, rfl, by simp [hn], View.more LW.out h⟩)
  obtain ⟨f0, f1, f2, f3, f4⟩ := FW.out
  clear hF hl hj hf hfl hgi hgr hW
  go_enter Tryz.func58, Tryz.ntmps58
  go_wp2_with fail
  simp only [HWW.out]
  clear HWW
  refine (numberFault_any F W HF.out HL.out).mono ?_
  rintro e w1 ⟨r, rfl, hr, hb⟩
  have B1 := hid hb
  have R := hid hr
  clear hr hb f0 f1 f2 f3 f4
  cases r with
  | true =>
    have HN := hid (show ¬ UseF F from fun h => R.out.1 rfl h.1)
    go_wp2_with fail
    go_ret
    exact YES.out _ B1.out HN.out
  | false =>
  have P1 := hid (show NumF F by
    by_cases q : NumF F
    · exact q
    · exact absurd (R.out.2 q) (by simp))
  clear R
  have fw := FW.out.on B1.out
  have A0 : ∀ wx, Below w1.heap.size w1 wx → wx.cell? ⟨w.heap.size, 0, none⟩ = some (.string F.name) := fun wx h => cell_on h fw.c0
  have A1 : ∀ wx, Below w1.heap.size w1 wx → wx.cell? ⟨w.heap.size, 1, none⟩ = some (.bool F.out) := fun wx h => cell_on h fw.c1
  have A2 : ∀ wx, Below w1.heap.size w1 wx → wx.cell? ⟨w.heap.size, 2, none⟩ = some (.slice F.par.a F.par.n F.par.c) := fun wx h => cell_on h fw.c2
  have A3 : ∀ wx, Below w1.heap.size w1 wx → wx.cell? ⟨w.heap.size, 3, none⟩ = some (.int .i64 F.res) := fun wx h => cell_on h fw.c3
  have A4 : ∀ wx, Below w1.heap.size w1 wx → wx.cell? ⟨w.heap.size, 4, none⟩ = some (.slice F.blk.a F.blk.n F.blk.c) := fun wx h => cell_on h fw.c4
  have st0 : Below w1.heap.size w1 w1.drew := Below.drew (same _)
  clear fw
  go_wp2_with fail
  go_cut [3] from 10 to 14 (fun c wx => ∃ cb, c = .pointer (some ⟨cb, 0, none⟩) ∧ VBox F cb wx ∧ Below w1.heap.size w1 wx)
  case first =>
    refine wp_region_noPanic ?_
    refine wp_region_held_drew (S := fun wy => Below w1.heap.size w1 wy) (by kernel_rfl) st0 (fun hS => ?_)
    refine Go.Proofs.YtbmfimojhcdnbaaGreat.Flo.takeAt (i := 0) (d := some 10) (v := ?vc0) rfl (by rfl) (by kernel_rfl) (by kernel_rfl) (by kernel_rfl) (fun _ _ _ h => h) (Or.inl ⟨by rfl, ?yc0⟩) hS ?_
    case yc0 => intro wx hSw; (go_simp) <;> with_reducible rfl
    simp only [Act.put, List.setIfInBounds_toArray, List.set_cons_zero, List.set_cons_succ]
    refine Go.Proofs.YtbmfimojhcdnbaaGreat.Flo.takeAt (i := 2) (d := some 12) (v := ?vc2) rfl (by rfl) (by kernel_rfl) (by kernel_rfl) (by kernel_rfl) (fun _ _ _ h => h) (Or.inl ⟨by rfl, ?yc2⟩) hS ?_
    case yc2 => intro wx hSw; (go_simp) <;> with_reducible rfl
    simp only [Act.put, List.setIfInBounds_toArray, List.set_cons_zero, List.set_cons_succ]
    obtain ⟨x0, hx0⟩ : ∃ x0, w1.drew = x0 := ⟨_, rfl⟩
    have q0 : Below w1.heap.size w1 x0 := by rw [← hx0]; exact st0
    have hq0 : w1.heap.size ≤ x0.heap.size := q0.size
    rw [hx0] at hS ⊢
    clear hx0 st0
    refine wpAnyH_ready (rs := [1, 5]) (by kernel_rfl) (by simp) ?_
    refine AllReadyH.cons rfl (fun K hK => ?_) (AllReadyH.cons rfl (fun K hK => ?_) AllReadyH.nil)
    · go_simp
      refine (HGI.out _ (HF.out.on (View.more B1.out q0))).mono ?_
      rintro e2 x1 ⟨O, cO, bl, pl, rfl, gvv, hcO, hgO, hb1⟩
      have q1 : Below w1.heap.size w1 x1 := View.more q0 hb1
      have RU := hid gvv
      have rul := gvv.lt
      clear gvv
      go_wp2_with fail
      have hq1 := hb1.size
      refine hK.out _ _ q1 (fun _ => ?_)
      clear hK K
      replace hS := q1
      try simp only [Act.put, List.setIfInBounds_toArray, List.set_cons_zero, List.set_cons_succ]
      refine wpAnyH_ready (rs := [3, 5]) (by kernel_rfl) (by simp) ?_
      refine AllReadyH.cons rfl (fun K hK => ?_) (AllReadyH.cons rfl (fun K hK => ?_) AllReadyH.nil)
      · go_simp
        refine (over_any F _ (HF.out.on (View.more B1.out q1)) HL.out HJ.out h0).mono ?_
        rintro e3 x2 ⟨g, c, ov, rfl, ro, oi, ⟨hgg, hgc⟩, hb2⟩
        have q2 : Below w1.heap.size w1 x2 := View.more q1 hb2
        have RL := hid ro
        have OI := hid oi
        have rll := ro.lt
        clear ro oi
        go_wp2_with fail
        have hq2 := hb2.size
        refine hK.out _ _ q2 (fun _ => ?_)
        clear hK K
        replace hS := q2
        try simp only [Act.put, List.setIfInBounds_toArray, List.set_cons_zero, List.set_cons_succ]
        refine Go.Proofs.YtbmfimojhcdnbaaGreat.Flo.takeAt (i := 4) (d := some 14) (v := ?vc1x4) rfl (by rfl) (by kernel_rfl) (by kernel_rfl) (by kernel_rfl) (fun _ _ _ h => h) (Or.inl ⟨by rfl, ?yc1x4⟩) hS ?_
        case yc1x4 => intro wx hSw; (go_simp) <;> with_reducible rfl
        simp only [Act.put, List.setIfInBounds_toArray, List.set_cons_zero, List.set_cons_succ]
        refine wpAnyH_ready (rs := [5]) (by kernel_rfl) (by simp) ?_
        refine AllReadyH.cons rfl (fun K hK => ?_) AllReadyH.nil
        go_simp
        have hb3 : Below x2.heap.size x2 (x2.alloc (.cells #[.slice none 0 0, .slice none 0 0] 115)) := new (same _) _
        have BX := hid (show (∀ i, i < 2 → (x2.alloc (.cells #[.slice none 0 0, .slice none 0 0] 115)).cell? ⟨x2.heap.size, i, none⟩ = some (.slice none 0 0)) ∧ ∀ i, (x2.alloc (.cells #[.slice none 0 0, .slice none 0 0] 115)).frozen? ⟨x2.heap.size, i, none⟩ = false from ⟨fun i hi => new_cell x2 _ _ i _ (zero2 i hi), fun i => new_froz x2 _ _ i⟩)
        obtain ⟨x3, hx3⟩ : ∃ x, x2.alloc (.cells #[.slice none 0 0, .slice none 0 0] 115) = x := ⟨_, rfl⟩
        have cbz : x3.heap.size = x2.heap.size + 1 := by rw [← hx3]; simp
        obtain ⟨cb, hcb⟩ : ∃ cb, x2.heap.size = cb := ⟨_, rfl⟩
        rw [hx3] at hb3 BX ⊢
        rw [hcb] at BX cbz ⊢
        have q3 : Below w1.heap.size w1 x3 := View.more q2 (by rw [hcb] at hb3; rw [hcb]; exact hb3)
        clear hx3
        have hq3 := hb3.size
        refine hK.out _ _ q3 (fun _ => ?_)
        clear hK K
        replace hS := q3
        try simp only [Act.put, List.setIfInBounds_toArray, List.set_cons_zero, List.set_cons_succ]
        have fru := ((RU.out.on hb2).on hb3)
        have frl := (RL.out.on hb3)
        have fbc : ∀ i, i < 2 → x3.cell? ⟨cb, i, none⟩ = some (.slice none 0 0) := fun i hi => BX.out.1 i hi
        have fbz : ∀ i, x3.frozen? ⟨cb, i, none⟩ = false := fun i => by exact BX.out.2 i
        have f0 := fbc 0 (by omega)
        have f1 := fbc 1 (by omega)
        have z0 := fbz 0
        have z1 := fbz 1
        have s9 : Below w1.heap.size w1 ((x3.setCell ⟨cb, 0, none⟩ (.slice (some ⟨O, 0, none⟩) (allV F + 1) cO)).setCell ⟨cb, 1, none⟩ (.slice (some ⟨g, 0, none⟩) F.blk.n c)) := (q3.setCell (by show _ ≤ cb; omega) _).setCell (by show _ ≤ cb; omega) _
        have FIN := hid (vbox_of (cb := cb) fru frl OI.out hcO hgc fbc (by omega) (by omega))
        refine wpAnyH_ready (rs := [6]) (by kernel_rfl) (by simp) ?_
        refine AllReadyH.cons rfl (fun K hK => ?_) AllReadyH.nil
        go_simp
        refine hK.out _ _ s9 (fun _ => ?_)
        clear hK K
        replace hS := s9
        try simp only [Act.put, List.setIfInBounds_toArray, List.set_cons_zero, List.set_cons_succ]
        refine wpAnyH_done (by kernel_rfl) ?_ _
        refine NoPanic.normal ?_
        go_wp2_with fail
        go_meet
        case rel => exact ⟨cb, rfl, FIN.out, s9⟩
      · go_simp
        have hb2 : Below x1.heap.size x1 (x1.alloc (.cells #[.slice none 0 0, .slice none 0 0] 115)) := new (same _) _
        have BX := hid (show (∀ i, i < 2 → (x1.alloc (.cells #[.slice none 0 0, .slice none 0 0] 115)).cell? ⟨x1.heap.size, i, none⟩ = some (.slice none 0 0)) ∧ ∀ i, (x1.alloc (.cells #[.slice none 0 0, .slice none 0 0] 115)).frozen? ⟨x1.heap.size, i, none⟩ = false from ⟨fun i hi => new_cell x1 _ _ i _ (zero2 i hi), fun i => new_froz x1 _ _ i⟩)
        obtain ⟨x2, hx2⟩ : ∃ x, x1.alloc (.cells #[.slice none 0 0, .slice none 0 0] 115) = x := ⟨_, rfl⟩
        have cbz : x2.heap.size = x1.heap.size + 1 := by rw [← hx2]; simp
        obtain ⟨cb, hcb⟩ : ∃ cb, x1.heap.size = cb := ⟨_, rfl⟩
        rw [hx2] at hb2 BX ⊢
        rw [hcb] at BX cbz ⊢
        have q2 : Below w1.heap.size w1 x2 := View.more q1 (by rw [hcb] at hb2; rw [hcb]; exact hb2)
        clear hx2
        have hq2 := hb2.size
        refine hK.out _ _ q2 (fun _ => ?_)
        clear hK K
        replace hS := q2
        try simp only [Act.put, List.setIfInBounds_toArray, List.set_cons_zero, List.set_cons_succ]
        refine wpAnyH_ready (rs := [3]) (by kernel_rfl) (by simp) ?_
        refine AllReadyH.cons rfl (fun K hK => ?_) AllReadyH.nil
        go_simp
        refine (over_any F _ (HF.out.on (View.more B1.out q2)) HL.out HJ.out h0).mono ?_
        rintro e3 x3 ⟨g, c, ov, rfl, ro, oi, ⟨hgg, hgc⟩, hb3⟩
        have q3 : Below w1.heap.size w1 x3 := View.more q2 hb3
        have RL := hid ro
        have OI := hid oi
        have rll := ro.lt
        clear ro oi
        go_wp2_with fail
        have hq3 := hb3.size
        refine hK.out _ _ q3 (fun _ => ?_)
        clear hK K
        replace hS := q3
        try simp only [Act.put, List.setIfInBounds_toArray, List.set_cons_zero, List.set_cons_succ]
        refine Go.Proofs.YtbmfimojhcdnbaaGreat.Flo.takeAt (i := 4) (d := some 14) (v := ?vc2x4) rfl (by rfl) (by kernel_rfl) (by kernel_rfl) (by kernel_rfl) (fun _ _ _ h => h) (Or.inl ⟨by rfl, ?yc2x4⟩) hS ?_
        case yc2x4 => intro wx hSw; (go_simp) <;> with_reducible rfl
        simp only [Act.put, List.setIfInBounds_toArray, List.set_cons_zero, List.set_cons_succ]
        have fru := ((RU.out.on hb2).on hb3)
        have frl := RL.out
        have fbc : ∀ i, i < 2 → x3.cell? ⟨cb, i, none⟩ = some (.slice none 0 0) := fun i hi => (cell_on hb3 (BX.out.1 i hi))
        have fbz : ∀ i, x3.frozen? ⟨cb, i, none⟩ = false := fun i => by rw [hb3.frozen (show cb < _ by omega)]; exact BX.out.2 i
        have f0 := fbc 0 (by omega)
        have f1 := fbc 1 (by omega)
        have z0 := fbz 0
        have z1 := fbz 1
        have s9 : Below w1.heap.size w1 ((x3.setCell ⟨cb, 0, none⟩ (.slice (some ⟨O, 0, none⟩) (allV F + 1) cO)).setCell ⟨cb, 1, none⟩ (.slice (some ⟨g, 0, none⟩) F.blk.n c)) := (q3.setCell (by show _ ≤ cb; omega) _).setCell (by show _ ≤ cb; omega) _
        have FIN := hid (vbox_of (cb := cb) fru frl OI.out hcO hgc fbc (by omega) (by omega))
        refine wpAnyH_ready (rs := [6]) (by kernel_rfl) (by simp) ?_
        refine AllReadyH.cons rfl (fun K hK => ?_) AllReadyH.nil
        go_simp
        refine hK.out _ _ s9 (fun _ => ?_)
        clear hK K
        replace hS := s9
        try simp only [Act.put, List.setIfInBounds_toArray, List.set_cons_zero, List.set_cons_succ]
        refine wpAnyH_done (by kernel_rfl) ?_ _
        refine NoPanic.normal ?_
        go_wp2_with fail
        go_meet
        case rel => exact ⟨cb, rfl, FIN.out, s9⟩
    · go_simp
      have hb1 : Below x0.heap.size x0 (x0.alloc (.cells #[.slice none 0 0, .slice none 0 0] 115)) := new (same _) _
      have BX := hid (show (∀ i, i < 2 → (x0.alloc (.cells #[.slice none 0 0, .slice none 0 0] 115)).cell? ⟨x0.heap.size, i, none⟩ = some (.slice none 0 0)) ∧ ∀ i, (x0.alloc (.cells #[.slice none 0 0, .slice none 0 0] 115)).frozen? ⟨x0.heap.size, i, none⟩ = false from ⟨fun i hi => new_cell x0 _ _ i _ (zero2 i hi), fun i => new_froz x0 _ _ i⟩)
      obtain ⟨x1, hx1⟩ : ∃ x, x0.alloc (.cells #[.slice none 0 0, .slice none 0 0] 115) = x := ⟨_, rfl⟩
      have cbz : x1.heap.size = x0.heap.size + 1 := by rw [← hx1]; simp
      obtain ⟨cb, hcb⟩ : ∃ cb, x0.heap.size = cb := ⟨_, rfl⟩
      rw [hx1] at hb1 BX ⊢
      rw [hcb] at BX cbz ⊢
      have q1 : Below w1.heap.size w1 x1 := View.more q0 (by rw [hcb] at hb1; rw [hcb]; exact hb1)
      clear hx1
      have hq1 := hb1.size
      refine hK.out _ _ q1 (fun _ => ?_)
      clear hK K
      replace hS := q1
      try simp only [Act.put, List.setIfInBounds_toArray, List.set_cons_zero, List.set_cons_succ]
      refine wpAnyH_ready (rs := [1]) (by kernel_rfl) (by simp) ?_
      refine AllReadyH.cons rfl (fun K hK => ?_) AllReadyH.nil
      go_simp
      refine (HGI.out _ (HF.out.on (View.more B1.out q1))).mono ?_
      rintro e2 x2 ⟨O, cO, bl, pl, rfl, gvv, hcO, hgO, hb2⟩
      have q2 : Below w1.heap.size w1 x2 := View.more q1 hb2
      have RU := hid gvv
      have rul := gvv.lt
      clear gvv
      go_wp2_with fail
      have hq2 := hb2.size
      refine hK.out _ _ q2 (fun _ => ?_)
      clear hK K
      replace hS := q2
      try simp only [Act.put, List.setIfInBounds_toArray, List.set_cons_zero, List.set_cons_succ]
      refine wpAnyH_ready (rs := [3]) (by kernel_rfl) (by simp) ?_
      refine AllReadyH.cons rfl (fun K hK => ?_) AllReadyH.nil
      go_simp
      refine (over_any F _ (HF.out.on (View.more B1.out q2)) HL.out HJ.out h0).mono ?_
      rintro e3 x3 ⟨g, c, ov, rfl, ro, oi, ⟨hgg, hgc⟩, hb3⟩
      have q3 : Below w1.heap.size w1 x3 := View.more q2 hb3
      have RL := hid ro
      have OI := hid oi
      have rll := ro.lt
      clear ro oi
      go_wp2_with fail
      have hq3 := hb3.size
      refine hK.out _ _ q3 (fun _ => ?_)
      clear hK K
      replace hS := q3
      try simp only [Act.put, List.setIfInBounds_toArray, List.set_cons_zero, List.set_cons_succ]
      refine Go.Proofs.YtbmfimojhcdnbaaGreat.Flo.takeAt (i := 4) (d := some 14) (v := ?vc3x4) rfl (by rfl) (by kernel_rfl) (by kernel_rfl) (by kernel_rfl) (fun _ _ _ h => h) (Or.inl ⟨by rfl, ?yc3x4⟩) hS ?_
      case yc3x4 => intro wx hSw; (go_simp) <;> with_reducible rfl
      simp only [Act.put, List.setIfInBounds_toArray, List.set_cons_zero, List.set_cons_succ]
      have fru := (RU.out.on hb3)
      have frl := RL.out
      have fbc : ∀ i, i < 2 → x3.cell? ⟨cb, i, none⟩ = some (.slice none 0 0) := fun i hi => (cell_on hb3 ((cell_on hb2 (BX.out.1 i hi))))
      have fbz : ∀ i, x3.frozen? ⟨cb, i, none⟩ = false := fun i => by rw [hb3.frozen (show cb < _ by omega), hb2.frozen (show cb < _ by omega)]; exact BX.out.2 i
      have f0 := fbc 0 (by omega)
      have f1 := fbc 1 (by omega)
      have z0 := fbz 0
      have z1 := fbz 1
      have s9 : Below w1.heap.size w1 ((x3.setCell ⟨cb, 0, none⟩ (.slice (some ⟨O, 0, none⟩) (allV F + 1) cO)).setCell ⟨cb, 1, none⟩ (.slice (some ⟨g, 0, none⟩) F.blk.n c)) := (q3.setCell (by show _ ≤ cb; omega) _).setCell (by show _ ≤ cb; omega) _
      have FIN := hid (vbox_of (cb := cb) fru frl OI.out hcO hgc fbc (by omega) (by omega))
      refine wpAnyH_ready (rs := [6]) (by kernel_rfl) (by simp) ?_
      refine AllReadyH.cons rfl (fun K hK => ?_) AllReadyH.nil
      go_simp
      refine hK.out _ _ s9 (fun _ => ?_)
      clear hK K
      replace hS := s9
      try simp only [Act.put, List.setIfInBounds_toArray, List.set_cons_zero, List.set_cons_succ]
      refine wpAnyH_done (by kernel_rfl) ?_ _
      refine NoPanic.normal ?_
      go_wp2_with fail
      go_meet
      case rel => exact ⟨cb, rfl, FIN.out, s9⟩
  case rest =>
    obtain ⟨cb, rfl, hvb, hbl⟩ := hcut
    have BLC := hid (View.more B1.out hbl)
    have VB := hid hvb
    obtain ⟨W4, hW4⟩ : ∃ W4, W4 = wc := ⟨_, rfl⟩
    subst hW4
    obtain ⟨O, cO, g, c, bl, pl, ov, v0, v1, vg, vr, vo, vcO, vc⟩ := hvb
    obtain ⟨n, hn⟩ : ∃ n, allV F + 1 = n := ⟨_, rfl⟩
    rw [hn] at v0 vcO
    have VV := hid (And.intro v0 (And.intro v1 (And.intro vg (And.intro vr vo))))
    have HN := hid hn
    have f4 := (FW.out.on BLC.out).c4
    clear hbl v0 v1 vg vr vo A0 A1 A2 A3 A4 hn VB
    go_wp2_with fail
    clear f4
    go_loopw [18] (fun iv wr => ∃ b : Nat, b ≤ F.blk.n ∧ iv = .int .i64 b ∧ (∀ t, t < b → ∀ k, k < (F.B t).n → ArgsOk F t k (F.I t k)) ∧ Below W4.heap.size W4 wr) (fun iv _ => F.blk.n - (intOf iv).toNat)
    case atStart => exact ⟨0, Nat.zero_le _, rfl, fun t ht => by omega, same _⟩
    case round =>
      obtain ⟨b, hb0, rfl, hall, hb⟩ := hrel
      have HA := hid (And.intro hall hb)
      by_cases lb : b < F.blk.n
      · obtain ⟨rb, ro, hrx, hrc0⟩ := HF.out.blk.at lb
        have hrc := cell_on (View.more BLC.out hb) hrc0
        have gi := HL.out.ins b lb
        have L0 := hid (show Below W4.heap.size W4 (wr.alloc (.cells #[.slice (F.B b).a (F.B b).n (F.B b).c] 47)) from new HA.out.2 _)
        clear hall hb hrc0
        go_wp2_with fail
        clear hrc
        go_loopw [26] (fun iv wx => ∃ k : Nat, k ≤ (F.B b).n ∧ iv = .int .i64 k ∧ (∀ t, t < k → ArgsOk F b t (F.I b t)) ∧ Below W4.heap.size W4 wx) (fun iv _ => (F.B b).n - (intOf iv).toNat)
        case atStart => exact ⟨0, Nat.zero_le _, rfl, fun t ht => by omega, L0.out⟩
        case round =>
          obtain ⟨k, hk0, rfl, hall, hb⟩ := hrel
          have HK := hid (And.intro hall hb)
          by_cases lk : k < (F.B b).n
          · obtain ⟨ib, io, hiy, c0, c1, c2, c3, c4, c5, c6⟩ := ((HF.out.ins b lb).on (View.more BLC.out hb)).at lk
            have v0 := cell_on hb VV.out.1
            have v1 := cell_on hb VV.out.2.1
            have vz := World.block_lt_of_cell? _ _ v0
            clear hall hb
            go_wp2_with fail
            refine (argFault_any F b k L par O n cO g c bl pl ov _ (HF.out.on (View.more BLC.out (View.more HK.out.2 (new (same wr) _)))) HL.out HFO.out HFL.out lb lk (VV.out.2.2.1.on (View.more HK.out.2 (new (same wr) _))) HN.out.symm HGR.out (VV.out.2.2.2.1.on (View.more HK.out.2 (new (same wr) _))) VV.out.2.2.2.2 vc vcO).mono ?_
            rintro e w5 ⟨r, rfl, hr, hb⟩
            have B5 := hid (View.more (View.more HK.out.2 (new (same wr) _)) hb)
            have R := hid hr
            clear hr hb v0 v1 vz c0 c1 c2 c3 c4 c5 c6
            cases r with
            | true =>
              have HNO := hid (show ¬ UseF F from fun h => R.out.1 rfl (h.2 b lb k lk))
              go_wp2_with fail
              go_ret
              exact YES.out _ (View.more BLC.out B5.out) HNO.out
            | false =>
              have HP := hid (show ArgsOk F b k (F.I b k) by
                by_cases q : ArgsOk F b k (F.I b k)
                · exact q
                · exact absurd (R.out.2 q) (by simp))
              clear R
              go_wp2_with fail
              go_round
              case rel => exact ⟨k + 1, by omega, by go_num, upto1 HK.out.1 HP.out, B5.out⟩
              case measure => simp [intOf]; omega
          · obtain rfl : k = (F.B b).n := by omega
            clear hall hb
            go_wp2_with fail
            go_round
            case rel =>
              have f := upto1 (p := fun t => ∀ k, k < (F.B t).n → ArgsOk F t k (F.I t k)) HA.out.1 HK.out.1
              first
                | exact ⟨b + 1, by omega, by go_num, f, HK.out.2⟩
                | ((repeat apply Exists.intro); exact ⟨⟨b + 1, by omega, by go_num, f, HK.out.2⟩, rfl⟩)
            case measure => simp [intOf]; omega
      · obtain rfl : b = F.blk.n := by omega
        clear hall hb
        go_wp2_with fail
        go_ret
        exact ⟨false, rfl, ⟨fun h => absurd h (by simp), fun h => absurd ⟨P1.out, HA.out.1⟩ h⟩, View.more LW.out (View.more BLC.out HA.out.2)⟩

end Go.Proofs.YtbmfimojhcdnbaaGreat.Wf
