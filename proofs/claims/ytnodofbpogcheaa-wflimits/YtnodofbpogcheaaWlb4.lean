/-
  WfLimits, walked: as many blocks as may be, one more.
-/
import Derived.Test.YtnodofbpogcheaaJ12
namespace Go.Proofs.Ytnodofbpogcheaa.Wf
open Go.RowKit View Rd Num Copy Go.Proofs.Ytnodofbpogcheaa.Mod Go.Proofs.Ytnodofbpogcheaa.Wl Go.Proofs.Ytnodofbpogcheaa.Chk Go.Proofs.Ytnodofbpogcheaa.Flo

set_option linter.unusedVariables false

set_option maxRecDepth 10000 in
set_option maxHeartbeats 8000000 in
theorem lim4_false (which : Int) (w : World) (hck : ChkC) (hfi : ∀ w, Calls Try.prog 13 #[] w fun e w' => e = .returned (.bool true) ∧ Below w.heap.size w w') (a0 : Nat) (h1 : bits .and .i64 which 255 = (a0 : Int)) (h2 : (a0 : Int).tmod 6 = 4) :
    Calls Try.prog 4 #[.int .i64 which, .bool false] w fun e w' => e = .returned (.bool true) ∧ Below w.heap.size w w' := by
  have HF := hid hfi
  have HK := hid hck
  clear hfi hck
  go_enter Try.func4, Try.ntmps4
  go_wp2_with (go_at_call 13; refine (HF.out _).mono ?_; rintro e w1 ⟨rfl, hb⟩; have st1 := hid hb; clear hb)
  clear h1 h2
  obtain ⟨V, hV⟩ : ∃ V, w1.heap.size = V := ⟨_, rfl⟩
  rw [hV]
  obtain ⟨W0, hW0⟩ : ∃ W0, ((w1.alloc (.cells #[.slice none 0 0, .slice none 0 0, .slice none 0 0, .slice none 0 0] 27)).alloc (.cells #[.int .i64 29, .int .i64 0, .int .i64 0, .int .i64 0, .int .i64 0, .slice none 0 0, .slice none 0 0] 39)).alloc (.cells #[.slice (some ⟨V + 1, 0, none⟩) 1 1] 37) = W0 := ⟨_, rfl⟩
  rw [hW0]
  have BX := hid (show MCell4 W0 V ∧ (∀ i, W0.frozen? ⟨V, i, none⟩ = false) ∧ Below w1.heap.size w1 W0 ∧ V + 2 < W0.heap.size ∧ w1.heap.size ≤ V from by
    subst hV hW0
    exact ⟨⟨cell_on (new (new (same _) _) _) (by simp), cell_on (new (new (same _) _) _) (by simp), cell_on (new (new (same _) _) _) (by simp), cell_on (new (new (same _) _) _) (by simp)⟩, fun i => by rw [World.frozen?_alloc_old _ _ _ (by show w1.heap.size ≠ _; simp; omega), World.frozen?_alloc_old _ _ _ (by show w1.heap.size ≠ _; simp)]; exact World.frozen?_alloc_new _ _ _ i, new (new (new (same _) _) _) _, by simp, Nat.le_refl _⟩)
  have BD := hid (show BodyAt W0 V from by subst hV hW0; exact bodyAt_new w1)
  clear hW0
  go_loopw [10, 11] (fun lv i wr => ∃ k : Nat, k ≤ 39 ∧ i = .int .i64 k ∧ ∃ (vs : Sl) (t : Nat → Nat × Nat), lv = .slice vs.a vs.n vs.c ∧ Grow W0.heap.size 37 1 k wr (slv vs) csB (elB 40 V W0.heap.size) fpB t ∧ Below W0.heap.size W0 wr) (fun _ i _ => 39 - (intOf i).toNat)
  case atStart => exact ⟨0, Nat.zero_le _, rfl, ⟨none, 0, 0⟩, fun _ => (0, 0), rfl, ⟨World.ownsRow_nil _ _ _ _, fun i hi => by omega, fun i hi => by omega, fun i j hi => by omega⟩, same _⟩
  case round =>
    obtain ⟨k, hk, rfl, vs, t, rfl, hg, hb⟩ := hrel
    by_cases hlt : k < 39
    · have hz := hb.size
      have hVl := BX.out.2.2.2.1
      obtain ⟨w2, hw2⟩ : ∃ w2, World.alloc wr (.cells #[.int .i64 ((k : Int) + 1)] 3) = w2 := ⟨_, rfl⟩
      obtain ⟨w3, hw3⟩ : ∃ w3, World.alloc w2 (.cells #[.int .i64 27, .int .i64 0, .int .i64 0, .int .i64 0, .int .i64 0, .slice none 0 0, .slice (some ⟨wr.heap.size, 0, none⟩) 1 1] 39) = w3 := ⟨_, rfl⟩
      have z2 : w2.heap.size = wr.heap.size + 1 := by rw [← hw2]; simp
      have z3 : w3.heap.size = w2.heap.size + 1 := by rw [← hw3]; simp
      have b2 : Below wr.heap.size wr w2 := by rw [← hw2]; exact new (same _) _
      have b23 : Below w2.heap.size w2 w3 := by rw [← hw3]; exact new (same _) _
      have b3 : Below wr.heap.size wr w3 := View.more b2 b23
      have e1 : w3.cell? ⟨wr.heap.size, 0, none⟩ = some (.int .i64 ((k : Int) + 1)) := cell_on b23 (by rw [← hw2]; simp)
      have e2 : InsAt w3 w2.heap.size 0 (jumpI wr.heap.size) := by rw [← hw3]; exact InsAt.alloc w2 (jumpI wr.heap.size)
      obtain ⟨v5, w4, hrun, hown4, hgr4, hat4⟩ := app_gen (w2 := w3) underBk infoBk rfl (by decide) (by decide) (owns_on b3 hg.own) (by omega) (by omega) #[.slice (some ⟨w2.heap.size, 0, none⟩) 1 1] rfl (by intro x hx; simp at hx; subst hx; rfl) 31
      obtain ⟨sv, rfl⟩ := owns_slv hown4
      have G4 := hid (hg.step (a := (wr.heap.size, w2.heap.size)) (stabB _ _ _) hz b3 (show elB 40 V W0.heap.size w3 k (wr.heap.size, w2.heap.size) from ⟨fun _ => ⟨e1, e2, by show wr.heap.size ≠ 0; omega⟩, fun h => absurd (show k + 1 < 40 by omega) h⟩) (fun (b : Nat) (hb : fpB (wr.heap.size, w2.heap.size) b) => by
        rcases hb.2 with h | h
        · have h' : b = wr.heap.size := h; omega
        · have h' : b = w2.heap.size := h; omega) hown4 hgr4 hat4)
      have B4 := hid (show Below W0.heap.size W0 w4 from (new (View.more hb b3) _).grown hgr4 (by simp; omega) (fun b hbb => (hg.own.lt b hbb).1))
      clear hg hb hown4 hgr4 hat4 z2 z3 b2 b23 b3 e1 e2
      go_wp2_with (at_builtin; refine wpList_app (.tmp 127) (.tmp 134) (by rfl) (by rfl) (by rfl) (by rfl) (by rfl) hrun ?_)
      go_round
      case rel => obtain ⟨t2, g2⟩ := G4.out; exact ⟨k + 1, by omega, by go_num, sv, t2, rfl, g2, B4.out⟩
      case measure => simp [intOf]; omega
    · obtain rfl : k = 39 := by omega
      have hVl := BX.out.2.2.2.1
      have LW0 := hid hb
      have HB := hid hb
      have hk0 : wr.cell? ⟨V, 0, none⟩ = some (.slice none 0 0) := cell_on hb BX.out.1.c0
      have hk1 : wr.cell? ⟨V, 1, none⟩ = some (.slice none 0 0) := cell_on hb BX.out.1.c1
      have hk2 : wr.cell? ⟨V, 2, none⟩ = some (.slice none 0 0) := cell_on hb BX.out.1.c2
      have hk3 : wr.cell? ⟨V, 3, none⟩ = some (.slice none 0 0) := cell_on hb BX.out.1.c3
      have hkD : wr.drew.cell? ⟨V, 3, none⟩ = some (.slice none 0 0) := hk3
      have hzw := hb.size
      have fzV : wr.frozen? ⟨V, 3, none⟩ = false := by rw [hb.frozen (by show V < _; omega)]; exact BX.out.2.1 3
      have LOW := hid (View.more BX.out.2.2.1 hb)
      have BDw := hid (BD.out.on hb)
      obtain ⟨v5, w7, hrun5, hown5, hgr5, hat5⟩ := app_old (w2 := wr.drew) underBk infoBk rfl (by decide) (owns_on (Below.drew (same wr)) hg.own) (by omega) hzw (V + 1 + 1) (.slice (some ⟨V + 1, 0, none⟩) 1 1) (by obtain ⟨b, off, e, hc⟩ := BDw.out.1.2.2.2 Nat.one_pos; simp only [Option.some.injEq, Addr.mk.injEq] at e; obtain ⟨rfl, rfl, _⟩ := e; exact hc 0 Nat.one_pos) rfl 31
      obtain ⟨sl, rfl⟩ := owns_slv hown5
      have G5 := hid (Wl.Grow.stepg (a := (0, V + 1)) (stabB _ _ _) hg hzw (Below.drew (same wr)) (show elB 40 V W0.heap.size wr.drew 39 (0, V + 1) from ⟨fun h => absurd h (by decide), fun _ => rfl⟩) (fun (b : Nat) (hb : fpB (0, V + 1) b) => absurd rfl hb.1) hown5 hgr5.size (fun b h1 h2 => hgr5.block b h1 h2) (hat5.imp id (fun h => ⟨_, h, Nat.le_refl _⟩)))
      have bV : ∀ b, (slv vs).ownBlock = some b → W0.heap.size ≤ b := fun b hbb => (hg.own.lt b hbb).1
      have B7 := hid (show Below W0.heap.size W0 w7 from (show Below W0.heap.size W0 wr.drew from Below.drew hb).grown hgr5 hzw bV)
      have hc7 : w7.cell? ⟨V, 3, none⟩ = some (.slice none 0 0) := cell_on B7.out BX.out.1.c3
      clear hg hb hown5 hgr5 hat5 bV
      obtain ⟨v6, w6, hrun6, hown6, hgr6, hat6⟩ := app_gen (w2 := w7) underF infoF rfl (by decide) (by decide) (World.ownsRow_nil w7 W0.heap.size _ _) (by omega) B7.out.size #[.string ⟨#[102]⟩, .bool false, .slice none 0 0, .int .i64 0, .slice sl.a sl.n sl.c] rfl (by intro x hx; simp at hx; rcases hx with rfl | rfl | rfl | rfl | rfl <;> rfl) 25
      obtain ⟨sv, rfl⟩ := owns_slv hown6
      have B6 := hid (show Below w7.heap.size w7 w6 from (new (same w7) _).grown hgr6 (by simp) (fun b hb => by cases hb))
      have hc8 : (World.alloc w7 (.cells #[.string ⟨#[102]⟩, .bool false, .slice none 0 0, .int .i64 0, .slice sl.a sl.n sl.c] 33)).cell? ⟨V, 3, none⟩ = some (.slice none 0 0) := cell_on (new (same w7) _) hc7
      have hc9 : w6.cell? ⟨V, 3, none⟩ = some (.slice none 0 0) := cell_on B6.out hc7
      have fz9 : w6.frozen? ⟨V, 3, none⟩ = false := by rw [B6.out.frozen (by have := B7.out.size; show V < _; omega), B7.out.frozen (by show V < _; omega)]; exact BX.out.2.1 3
      have N6 := hid (show sv.n = 1 from own_n hown6 (by decide))
      have R6 := hid hown6
      clear hown6 hgr6 hat6
      go_wp2_with fail
      refine wp_region_noPanic ?_
      refine wp_region_held_drew (S := fun _ => True) (by kernel_rfl) trivial (fun hS => ?_)
      refine Go.Proofs.Ytnodofbpogcheaa.Wl.takeAt (i := 0) (d := some 136) (v := ?vt1_0) rfl (by rfl) (by kernel_rfl) (by kernel_rfl) (by kernel_rfl) (fun _ _ _ h => h) (Or.inl ⟨by rfl, ?yt1_0⟩) hS ?_
      case yt1_0 => intro wx hSw; (go_simp) <;> with_reducible rfl
      simp only [Act.put, List.setIfInBounds_toArray, List.set_cons_zero, List.set_cons_succ]
      refine Go.Proofs.Ytnodofbpogcheaa.Wl.takeAt (i := 2) (d := some 138) (v := ?vt2_2) rfl (by rfl) (by kernel_rfl) (by kernel_rfl) (by kernel_rfl) (fun _ _ _ h => h) (Or.inl ⟨by rfl, ?yt2_2⟩) hS ?_
      case yt2_2 => intro wx hSw; (go_simp) <;> with_reducible rfl
      simp only [Act.put, List.setIfInBounds_toArray, List.set_cons_zero, List.set_cons_succ]
      refine Go.Proofs.Ytnodofbpogcheaa.Wl.takeAt (i := 3) (d := some 139) (v := ?vt3_3) rfl (by rfl) (by kernel_rfl) (by kernel_rfl) (by kernel_rfl) (fun _ _ _ h => h) (Or.inl ⟨by rfl, ?yt3_3⟩) hS ?_
      case yt3_3 => intro wx hSw; (go_simp) <;> with_reducible rfl
      simp only [Act.put, List.setIfInBounds_toArray, List.set_cons_zero, List.set_cons_succ]
      refine wpAnyH_ready (rs := [1, 4]) (by kernel_rfl) (by simp) ?_
      refine AllReadyH.cons rfl (fun K hK => ?_) (AllReadyH.cons rfl (fun K hK => ?_) AllReadyH.nil)
      · go_simp
        refine hK.out _ _ trivial (fun _ => ?_)
        clear hK K
        have hS := True.intro
        try simp only [Act.put, List.setIfInBounds_toArray, List.set_cons_zero, List.set_cons_succ]
        refine wpAnyH_ready (rs := [4]) (by kernel_rfl) (by simp) ?_
        refine AllReadyH.cons rfl (fun K hK => ?_) AllReadyH.nil
        rw [if_pos (by rfl)]
        refine Go.Proofs.Ytnodofbpogcheaa.Wl.wp_app (s := .tmp 138) (x := .tmp 139) (t := 31) (d := some 140) rfl rfl rfl rfl rfl hrun5 ?_
        try simp only [Act.put, List.setIfInBounds_toArray, List.set_cons_zero, List.set_cons_succ]
        refine hK.out _ _ trivial (fun _ => ?_)
        clear hK K
        have hS := True.intro
        try simp only [Act.put, List.setIfInBounds_toArray, List.set_cons_zero, List.set_cons_succ]
        refine Go.Proofs.Ytnodofbpogcheaa.Wl.takeAt (i := 5) (d := some 141) (v := ?vt4_5) rfl (by rfl) (by kernel_rfl) (by kernel_rfl) (by kernel_rfl) (fun _ _ _ h => h) (Or.inl ⟨by rfl, ?yt4_5⟩) hS ?_
        case yt4_5 => intro wx hSw; (go_simp) <;> with_reducible rfl
        simp only [Act.put, List.setIfInBounds_toArray, List.set_cons_zero, List.set_cons_succ]
        refine wpAnyH_ready (rs := [6]) (by kernel_rfl) (by simp) ?_
        refine AllReadyH.cons rfl (fun K hK => ?_) AllReadyH.nil
        go_simp
        refine hK.out _ _ trivial (fun _ => ?_)
        clear hK K
        have hS := True.intro
        try simp only [Act.put, List.setIfInBounds_toArray, List.set_cons_zero, List.set_cons_succ]
        refine wpAnyH_ready (rs := [7]) (by kernel_rfl) (by simp) ?_
        refine AllReadyH.cons rfl (fun K hK => ?_) AllReadyH.nil
        rw [if_pos (by rfl)]
        refine Go.Proofs.Ytnodofbpogcheaa.Wl.wp_app (s := .tmp 137) (x := .tmp 142) (t := 25) (d := some 143) rfl rfl rfl rfl rfl hrun6 ?_
        try simp only [Act.put, List.setIfInBounds_toArray, List.set_cons_zero, List.set_cons_succ]
        refine hK.out _ _ trivial (fun _ => ?_)
        clear hK K
        have hS := True.intro
        try simp only [Act.put, List.setIfInBounds_toArray, List.set_cons_zero, List.set_cons_succ]
        refine Go.Proofs.Ytnodofbpogcheaa.Wl.takeAt (i := 8) (d := some 144) (v := ?vt5_8) rfl (by rfl) (by kernel_rfl) (by kernel_rfl) (by kernel_rfl) (fun _ _ _ h => h) (Or.inl ⟨by rfl, ?yt5_8⟩) hS ?_
        case yt5_8 => intro wx hSw; (go_simp) <;> with_reducible rfl
        simp only [Act.put, List.setIfInBounds_toArray, List.set_cons_zero, List.set_cons_succ]
        refine wpAnyH_ready (rs := [9]) (by kernel_rfl) (by simp) ?_
        refine AllReadyH.cons rfl (fun K hK => ?_) AllReadyH.nil
        go_simp
        refine hK.out _ _ trivial (fun _ => ?_)
        clear hK K
        have hS := True.intro
        try simp only [Act.put, List.setIfInBounds_toArray, List.set_cons_zero, List.set_cons_succ]
        refine wpAnyH_done (by kernel_rfl) ?_ _
        refine NoPanic.normal ?_
        have n6 := N6.out
        have TS := tail_fin (V := V) R6.out n6 rfl B6.out (by have := B7.out.size; omega) (fun b h1 => by omega)
        have oth : ∀ b, b ≠ V → b < w7.heap.size → (w6.setCell ⟨V, 3, none⟩ (slv sv)).heap[b]? = w7.heap[b]? := fun b h1 h2 => by rw [Below.heap_setCell _ _ _ _ h1]; exact B6.out.block b h2
        have g7 := G5.out.keep (w' := w6.setCell ⟨V, 3, none⟩ (slv sv)) (stabB _ _ _) (by simp; exact B6.out.size) (fun b h1 h2 => oth b (by omega) h2)
        have s7 := B7.out.size
        have bd7 := (BD.out.on B7.out).same (oth (V + 1) (by omega) (by omega)) (oth (V + 1 + 1) (by omega) (by omega))
        obtain ⟨r1, r2, r3, r4⟩ := ch_rows g7 bd7 (by decide)
        have CK := hid (res_ch HK.out (n := 40) (TS.1 (fun _ => chF sl _ 40 _) ⟨rfl, rfl, rfl, rfl, rfl⟩) n6 (by decide) (by decide) r1 (fun j hj => rfl) r2 r3 r4)
        rw [if_pos (by decide)] at CK
        clear g7 bd7 r1 r2 r3 r4 oth s7
        have L6 := View.more B7.out B6.out
        have LW := hid (show Below w1.heap.size w1 (w6.setCell ⟨V, 3, none⟩ (.slice sv.a sv.n sv.c)) from Below.setCell (View.more BX.out.2.2.1 L6) (by show _ ≤ V; exact BX.out.2.2.2.2) _)
        have b0 : (w6.setCell ⟨V, 3, none⟩ (.slice sv.a sv.n sv.c)).cell? ⟨V, 0, none⟩ = some (.slice none 0 0) := by rw [World.cell?_setCell_other (h := ne_off (by decide))]; exact cell_on L6 BX.out.1.c0
        have b1 : (w6.setCell ⟨V, 3, none⟩ (.slice sv.a sv.n sv.c)).cell? ⟨V, 1, none⟩ = some (.slice none 0 0) := by rw [World.cell?_setCell_other (h := ne_off (by decide))]; exact cell_on L6 BX.out.1.c1
        have b2 : (w6.setCell ⟨V, 3, none⟩ (.slice sv.a sv.n sv.c)).cell? ⟨V, 2, none⟩ = some (.slice none 0 0) := by rw [World.cell?_setCell_other (h := ne_off (by decide))]; exact cell_on L6 BX.out.1.c2
        have b3 : (w6.setCell ⟨V, 3, none⟩ (.slice sv.a sv.n sv.c)).cell? ⟨V, 3, none⟩ = some (.slice sv.a sv.n sv.c) := cell_same hc9
        obtain ⟨wf, hwf⟩ : ∃ wf, w6.setCell ⟨V, 3, none⟩ (.slice sv.a sv.n sv.c) = wf := ⟨_, rfl⟩
        rw [hwf]
        rw [hwf] at b0 b1 b2 b3 LW
        rw [show w6.setCell ⟨V, 3, none⟩ (slv sv) = wf from hwf] at CK
        clear hwf TS L6 n6
        go_wp2_with (go_at_call 15; refine (CK.out _ (same _)).mono ?_; rintro e w5 ⟨rfl, hb5⟩; have B5 := hid hb5; clear hb5)
        go_ret
        exact ⟨rfl, View.more (View.more st1.out LW.out) B5.out⟩
      · rw [if_pos (by rfl)]
        refine Go.Proofs.Ytnodofbpogcheaa.Wl.wp_app (s := .tmp 138) (x := .tmp 139) (t := 31) (d := some 140) rfl rfl rfl rfl rfl hrun5 ?_
        try simp only [Act.put, List.setIfInBounds_toArray, List.set_cons_zero, List.set_cons_succ]
        refine hK.out _ _ trivial (fun _ => ?_)
        clear hK K
        have hS := True.intro
        try simp only [Act.put, List.setIfInBounds_toArray, List.set_cons_zero, List.set_cons_succ]
        refine Go.Proofs.Ytnodofbpogcheaa.Wl.takeAt (i := 5) (d := some 141) (v := ?vt6_5) rfl (by rfl) (by kernel_rfl) (by kernel_rfl) (by kernel_rfl) (fun _ _ _ h => h) (Or.inl ⟨by rfl, ?yt6_5⟩) hS ?_
        case yt6_5 => intro wx hSw; (go_simp) <;> with_reducible rfl
        simp only [Act.put, List.setIfInBounds_toArray, List.set_cons_zero, List.set_cons_succ]
        refine wpAnyH_ready (rs := [1, 6]) (by kernel_rfl) (by simp) ?_
        refine AllReadyH.cons rfl (fun K hK => ?_) (AllReadyH.cons rfl (fun K hK => ?_) AllReadyH.nil)
        · go_simp
          refine hK.out _ _ trivial (fun _ => ?_)
          clear hK K
          have hS := True.intro
          try simp only [Act.put, List.setIfInBounds_toArray, List.set_cons_zero, List.set_cons_succ]
          refine wpAnyH_ready (rs := [6]) (by kernel_rfl) (by simp) ?_
          refine AllReadyH.cons rfl (fun K hK => ?_) AllReadyH.nil
          go_simp
          refine hK.out _ _ trivial (fun _ => ?_)
          clear hK K
          have hS := True.intro
          try simp only [Act.put, List.setIfInBounds_toArray, List.set_cons_zero, List.set_cons_succ]
          refine wpAnyH_ready (rs := [7]) (by kernel_rfl) (by simp) ?_
          refine AllReadyH.cons rfl (fun K hK => ?_) AllReadyH.nil
          rw [if_pos (by rfl)]
          refine Go.Proofs.Ytnodofbpogcheaa.Wl.wp_app (s := .tmp 137) (x := .tmp 142) (t := 25) (d := some 143) rfl rfl rfl rfl rfl hrun6 ?_
          try simp only [Act.put, List.setIfInBounds_toArray, List.set_cons_zero, List.set_cons_succ]
          refine hK.out _ _ trivial (fun _ => ?_)
          clear hK K
          have hS := True.intro
          try simp only [Act.put, List.setIfInBounds_toArray, List.set_cons_zero, List.set_cons_succ]
          refine Go.Proofs.Ytnodofbpogcheaa.Wl.takeAt (i := 8) (d := some 144) (v := ?vt7_8) rfl (by rfl) (by kernel_rfl) (by kernel_rfl) (by kernel_rfl) (fun _ _ _ h => h) (Or.inl ⟨by rfl, ?yt7_8⟩) hS ?_
          case yt7_8 => intro wx hSw; (go_simp) <;> with_reducible rfl
          simp only [Act.put, List.setIfInBounds_toArray, List.set_cons_zero, List.set_cons_succ]
          refine wpAnyH_ready (rs := [9]) (by kernel_rfl) (by simp) ?_
          refine AllReadyH.cons rfl (fun K hK => ?_) AllReadyH.nil
          go_simp
          refine hK.out _ _ trivial (fun _ => ?_)
          clear hK K
          have hS := True.intro
          try simp only [Act.put, List.setIfInBounds_toArray, List.set_cons_zero, List.set_cons_succ]
          refine wpAnyH_done (by kernel_rfl) ?_ _
          refine NoPanic.normal ?_
          have n6 := N6.out
          have TS := tail_fin (V := V) R6.out n6 rfl B6.out (by have := B7.out.size; omega) (fun b h1 => by omega)
          have oth : ∀ b, b ≠ V → b < w7.heap.size → (w6.setCell ⟨V, 3, none⟩ (slv sv)).heap[b]? = w7.heap[b]? := fun b h1 h2 => by rw [Below.heap_setCell _ _ _ _ h1]; exact B6.out.block b h2
          have g7 := G5.out.keep (w' := w6.setCell ⟨V, 3, none⟩ (slv sv)) (stabB _ _ _) (by simp; exact B6.out.size) (fun b h1 h2 => oth b (by omega) h2)
          have s7 := B7.out.size
          have bd7 := (BD.out.on B7.out).same (oth (V + 1) (by omega) (by omega)) (oth (V + 1 + 1) (by omega) (by omega))
          obtain ⟨r1, r2, r3, r4⟩ := ch_rows g7 bd7 (by decide)
          have CK := hid (res_ch HK.out (n := 40) (TS.1 (fun _ => chF sl _ 40 _) ⟨rfl, rfl, rfl, rfl, rfl⟩) n6 (by decide) (by decide) r1 (fun j hj => rfl) r2 r3 r4)
          rw [if_pos (by decide)] at CK
          clear g7 bd7 r1 r2 r3 r4 oth s7
          have L6 := View.more B7.out B6.out
          have LW := hid (show Below w1.heap.size w1 (w6.setCell ⟨V, 3, none⟩ (.slice sv.a sv.n sv.c)) from Below.setCell (View.more BX.out.2.2.1 L6) (by show _ ≤ V; exact BX.out.2.2.2.2) _)
          have b0 : (w6.setCell ⟨V, 3, none⟩ (.slice sv.a sv.n sv.c)).cell? ⟨V, 0, none⟩ = some (.slice none 0 0) := by rw [World.cell?_setCell_other (h := ne_off (by decide))]; exact cell_on L6 BX.out.1.c0
          have b1 : (w6.setCell ⟨V, 3, none⟩ (.slice sv.a sv.n sv.c)).cell? ⟨V, 1, none⟩ = some (.slice none 0 0) := by rw [World.cell?_setCell_other (h := ne_off (by decide))]; exact cell_on L6 BX.out.1.c1
          have b2 : (w6.setCell ⟨V, 3, none⟩ (.slice sv.a sv.n sv.c)).cell? ⟨V, 2, none⟩ = some (.slice none 0 0) := by rw [World.cell?_setCell_other (h := ne_off (by decide))]; exact cell_on L6 BX.out.1.c2
          have b3 : (w6.setCell ⟨V, 3, none⟩ (.slice sv.a sv.n sv.c)).cell? ⟨V, 3, none⟩ = some (.slice sv.a sv.n sv.c) := cell_same hc9
          obtain ⟨wf, hwf⟩ : ∃ wf, w6.setCell ⟨V, 3, none⟩ (.slice sv.a sv.n sv.c) = wf := ⟨_, rfl⟩
          rw [hwf]
          rw [hwf] at b0 b1 b2 b3 LW
          rw [show w6.setCell ⟨V, 3, none⟩ (slv sv) = wf from hwf] at CK
          clear hwf TS L6 n6
          go_wp2_with (go_at_call 15; refine (CK.out _ (same _)).mono ?_; rintro e w5 ⟨rfl, hb5⟩; have B5 := hid hb5; clear hb5)
          go_ret
          exact ⟨rfl, View.more (View.more st1.out LW.out) B5.out⟩
        · go_simp
          refine hK.out _ _ trivial (fun _ => ?_)
          clear hK K
          have hS := True.intro
          try simp only [Act.put, List.setIfInBounds_toArray, List.set_cons_zero, List.set_cons_succ]
          refine wpAnyH_ready (rs := [1]) (by kernel_rfl) (by simp) ?_
          refine AllReadyH.cons rfl (fun K hK => ?_) AllReadyH.nil
          go_simp
          refine hK.out _ _ trivial (fun _ => ?_)
          clear hK K
          have hS := True.intro
          try simp only [Act.put, List.setIfInBounds_toArray, List.set_cons_zero, List.set_cons_succ]
          refine wpAnyH_ready (rs := [7]) (by kernel_rfl) (by simp) ?_
          refine AllReadyH.cons rfl (fun K hK => ?_) AllReadyH.nil
          rw [if_pos (by rfl)]
          refine Go.Proofs.Ytnodofbpogcheaa.Wl.wp_app (s := .tmp 137) (x := .tmp 142) (t := 25) (d := some 143) rfl rfl rfl rfl rfl hrun6 ?_
          try simp only [Act.put, List.setIfInBounds_toArray, List.set_cons_zero, List.set_cons_succ]
          refine hK.out _ _ trivial (fun _ => ?_)
          clear hK K
          have hS := True.intro
          try simp only [Act.put, List.setIfInBounds_toArray, List.set_cons_zero, List.set_cons_succ]
          refine Go.Proofs.Ytnodofbpogcheaa.Wl.takeAt (i := 8) (d := some 144) (v := ?vt8_8) rfl (by rfl) (by kernel_rfl) (by kernel_rfl) (by kernel_rfl) (fun _ _ _ h => h) (Or.inl ⟨by rfl, ?yt8_8⟩) hS ?_
          case yt8_8 => intro wx hSw; (go_simp) <;> with_reducible rfl
          simp only [Act.put, List.setIfInBounds_toArray, List.set_cons_zero, List.set_cons_succ]
          refine wpAnyH_ready (rs := [9]) (by kernel_rfl) (by simp) ?_
          refine AllReadyH.cons rfl (fun K hK => ?_) AllReadyH.nil
          go_simp
          refine hK.out _ _ trivial (fun _ => ?_)
          clear hK K
          have hS := True.intro
          try simp only [Act.put, List.setIfInBounds_toArray, List.set_cons_zero, List.set_cons_succ]
          refine wpAnyH_done (by kernel_rfl) ?_ _
          refine NoPanic.normal ?_
          have n6 := N6.out
          have TS := tail_fin (V := V) R6.out n6 rfl B6.out (by have := B7.out.size; omega) (fun b h1 => by omega)
          have oth : ∀ b, b ≠ V → b < w7.heap.size → (w6.setCell ⟨V, 3, none⟩ (slv sv)).heap[b]? = w7.heap[b]? := fun b h1 h2 => by rw [Below.heap_setCell _ _ _ _ h1]; exact B6.out.block b h2
          have g7 := G5.out.keep (w' := w6.setCell ⟨V, 3, none⟩ (slv sv)) (stabB _ _ _) (by simp; exact B6.out.size) (fun b h1 h2 => oth b (by omega) h2)
          have s7 := B7.out.size
          have bd7 := (BD.out.on B7.out).same (oth (V + 1) (by omega) (by omega)) (oth (V + 1 + 1) (by omega) (by omega))
          obtain ⟨r1, r2, r3, r4⟩ := ch_rows g7 bd7 (by decide)
          have CK := hid (res_ch HK.out (n := 40) (TS.1 (fun _ => chF sl _ 40 _) ⟨rfl, rfl, rfl, rfl, rfl⟩) n6 (by decide) (by decide) r1 (fun j hj => rfl) r2 r3 r4)
          rw [if_pos (by decide)] at CK
          clear g7 bd7 r1 r2 r3 r4 oth s7
          have L6 := View.more B7.out B6.out
          have LW := hid (show Below w1.heap.size w1 (w6.setCell ⟨V, 3, none⟩ (.slice sv.a sv.n sv.c)) from Below.setCell (View.more BX.out.2.2.1 L6) (by show _ ≤ V; exact BX.out.2.2.2.2) _)
          have b0 : (w6.setCell ⟨V, 3, none⟩ (.slice sv.a sv.n sv.c)).cell? ⟨V, 0, none⟩ = some (.slice none 0 0) := by rw [World.cell?_setCell_other (h := ne_off (by decide))]; exact cell_on L6 BX.out.1.c0
          have b1 : (w6.setCell ⟨V, 3, none⟩ (.slice sv.a sv.n sv.c)).cell? ⟨V, 1, none⟩ = some (.slice none 0 0) := by rw [World.cell?_setCell_other (h := ne_off (by decide))]; exact cell_on L6 BX.out.1.c1
          have b2 : (w6.setCell ⟨V, 3, none⟩ (.slice sv.a sv.n sv.c)).cell? ⟨V, 2, none⟩ = some (.slice none 0 0) := by rw [World.cell?_setCell_other (h := ne_off (by decide))]; exact cell_on L6 BX.out.1.c2
          have b3 : (w6.setCell ⟨V, 3, none⟩ (.slice sv.a sv.n sv.c)).cell? ⟨V, 3, none⟩ = some (.slice sv.a sv.n sv.c) := cell_same hc9
          obtain ⟨wf, hwf⟩ : ∃ wf, w6.setCell ⟨V, 3, none⟩ (.slice sv.a sv.n sv.c) = wf := ⟨_, rfl⟩
          rw [hwf]
          rw [hwf] at b0 b1 b2 b3 LW
          rw [show w6.setCell ⟨V, 3, none⟩ (slv sv) = wf from hwf] at CK
          clear hwf TS L6 n6
          go_wp2_with (go_at_call 15; refine (CK.out _ (same _)).mono ?_; rintro e w5 ⟨rfl, hb5⟩; have B5 := hid hb5; clear hb5)
          go_ret
          exact ⟨rfl, View.more (View.more st1.out LW.out) B5.out⟩

set_option maxRecDepth 10000 in
set_option maxHeartbeats 8000000 in
theorem lim4_true (which : Int) (w : World) (hck : ChkC) (hfi : ∀ w, Calls Try.prog 13 #[] w fun e w' => e = .returned (.bool true) ∧ Below w.heap.size w w') (a0 : Nat) (h1 : bits .and .i64 which 255 = (a0 : Int)) (h2 : (a0 : Int).tmod 6 = 4) :
    Calls Try.prog 4 #[.int .i64 which, .bool true] w fun e w' => e = .returned (.bool true) ∧ Below w.heap.size w w' := by
  have HF := hid hfi
  have HK := hid hck
  clear hfi hck
  go_enter Try.func4, Try.ntmps4
  go_wp2_with (go_at_call 13; refine (HF.out _).mono ?_; rintro e w1 ⟨rfl, hb⟩; have st1 := hid hb; clear hb)
  clear h1 h2
  obtain ⟨V, hV⟩ : ∃ V, w1.heap.size = V := ⟨_, rfl⟩
  rw [hV]
  obtain ⟨W0, hW0⟩ : ∃ W0, ((w1.alloc (.cells #[.slice none 0 0, .slice none 0 0, .slice none 0 0, .slice none 0 0] 27)).alloc (.cells #[.int .i64 29, .int .i64 0, .int .i64 0, .int .i64 0, .int .i64 0, .slice none 0 0, .slice none 0 0] 39)).alloc (.cells #[.slice (some ⟨V + 1, 0, none⟩) 1 1] 37) = W0 := ⟨_, rfl⟩
  rw [hW0]
  have BX := hid (show MCell4 W0 V ∧ (∀ i, W0.frozen? ⟨V, i, none⟩ = false) ∧ Below w1.heap.size w1 W0 ∧ V + 2 < W0.heap.size ∧ w1.heap.size ≤ V from by
    subst hV hW0
    exact ⟨⟨cell_on (new (new (same _) _) _) (by simp), cell_on (new (new (same _) _) _) (by simp), cell_on (new (new (same _) _) _) (by simp), cell_on (new (new (same _) _) _) (by simp)⟩, fun i => by rw [World.frozen?_alloc_old _ _ _ (by show w1.heap.size ≠ _; simp; omega), World.frozen?_alloc_old _ _ _ (by show w1.heap.size ≠ _; simp)]; exact World.frozen?_alloc_new _ _ _ i, new (new (new (same _) _) _) _, by simp, Nat.le_refl _⟩)
  have BD := hid (show BodyAt W0 V from by subst hV hW0; exact bodyAt_new w1)
  clear hW0
  go_loopw [10, 11] (fun lv i wr => ∃ k : Nat, k ≤ 40 ∧ i = .int .i64 k ∧ ∃ (vs : Sl) (t : Nat → Nat × Nat), lv = .slice vs.a vs.n vs.c ∧ Grow W0.heap.size 37 1 k wr (slv vs) csB (elB 41 V W0.heap.size) fpB t ∧ Below W0.heap.size W0 wr) (fun _ i _ => 40 - (intOf i).toNat)
  case atStart => exact ⟨0, Nat.zero_le _, rfl, ⟨none, 0, 0⟩, fun _ => (0, 0), rfl, ⟨World.ownsRow_nil _ _ _ _, fun i hi => by omega, fun i hi => by omega, fun i j hi => by omega⟩, same _⟩
  case round =>
    obtain ⟨k, hk, rfl, vs, t, rfl, hg, hb⟩ := hrel
    by_cases hlt : k < 40
    · have hz := hb.size
      have hVl := BX.out.2.2.2.1
      obtain ⟨w2, hw2⟩ : ∃ w2, World.alloc wr (.cells #[.int .i64 ((k : Int) + 1)] 3) = w2 := ⟨_, rfl⟩
      obtain ⟨w3, hw3⟩ : ∃ w3, World.alloc w2 (.cells #[.int .i64 27, .int .i64 0, .int .i64 0, .int .i64 0, .int .i64 0, .slice none 0 0, .slice (some ⟨wr.heap.size, 0, none⟩) 1 1] 39) = w3 := ⟨_, rfl⟩
      have z2 : w2.heap.size = wr.heap.size + 1 := by rw [← hw2]; simp
      have z3 : w3.heap.size = w2.heap.size + 1 := by rw [← hw3]; simp
      have b2 : Below wr.heap.size wr w2 := by rw [← hw2]; exact new (same _) _
      have b23 : Below w2.heap.size w2 w3 := by rw [← hw3]; exact new (same _) _
      have b3 : Below wr.heap.size wr w3 := View.more b2 b23
      have e1 : w3.cell? ⟨wr.heap.size, 0, none⟩ = some (.int .i64 ((k : Int) + 1)) := cell_on b23 (by rw [← hw2]; simp)
      have e2 : InsAt w3 w2.heap.size 0 (jumpI wr.heap.size) := by rw [← hw3]; exact InsAt.alloc w2 (jumpI wr.heap.size)
      obtain ⟨v5, w4, hrun, hown4, hgr4, hat4⟩ := app_gen (w2 := w3) underBk infoBk rfl (by decide) (by decide) (owns_on b3 hg.own) (by omega) (by omega) #[.slice (some ⟨w2.heap.size, 0, none⟩) 1 1] rfl (by intro x hx; simp at hx; subst hx; rfl) 31
      obtain ⟨sv, rfl⟩ := owns_slv hown4
      have G4 := hid (hg.step (a := (wr.heap.size, w2.heap.size)) (stabB _ _ _) hz b3 (show elB 41 V W0.heap.size w3 k (wr.heap.size, w2.heap.size) from ⟨fun _ => ⟨e1, e2, by show wr.heap.size ≠ 0; omega⟩, fun h => absurd (show k + 1 < 41 by omega) h⟩) (fun (b : Nat) (hb : fpB (wr.heap.size, w2.heap.size) b) => by
        rcases hb.2 with h | h
        · have h' : b = wr.heap.size := h; omega
        · have h' : b = w2.heap.size := h; omega) hown4 hgr4 hat4)
      have B4 := hid (show Below W0.heap.size W0 w4 from (new (View.more hb b3) _).grown hgr4 (by simp; omega) (fun b hbb => (hg.own.lt b hbb).1))
      clear hg hb hown4 hgr4 hat4 z2 z3 b2 b23 b3 e1 e2
      go_wp2_with (at_builtin; refine wpList_app (.tmp 127) (.tmp 134) (by rfl) (by rfl) (by rfl) (by rfl) (by rfl) hrun ?_)
      go_round
      case rel => obtain ⟨t2, g2⟩ := G4.out; exact ⟨k + 1, by omega, by go_num, sv, t2, rfl, g2, B4.out⟩
      case measure => simp [intOf]; omega
    · obtain rfl : k = 40 := by omega
      have hVl := BX.out.2.2.2.1
      have LW0 := hid hb
      have HB := hid hb
      have hk0 : wr.cell? ⟨V, 0, none⟩ = some (.slice none 0 0) := cell_on hb BX.out.1.c0
      have hk1 : wr.cell? ⟨V, 1, none⟩ = some (.slice none 0 0) := cell_on hb BX.out.1.c1
      have hk2 : wr.cell? ⟨V, 2, none⟩ = some (.slice none 0 0) := cell_on hb BX.out.1.c2
      have hk3 : wr.cell? ⟨V, 3, none⟩ = some (.slice none 0 0) := cell_on hb BX.out.1.c3
      have hkD : wr.drew.cell? ⟨V, 3, none⟩ = some (.slice none 0 0) := hk3
      have hzw := hb.size
      have fzV : wr.frozen? ⟨V, 3, none⟩ = false := by rw [hb.frozen (by show V < _; omega)]; exact BX.out.2.1 3
      have LOW := hid (View.more BX.out.2.2.1 hb)
      have BDw := hid (BD.out.on hb)
      obtain ⟨v5, w7, hrun5, hown5, hgr5, hat5⟩ := app_old (w2 := wr.drew) underBk infoBk rfl (by decide) (owns_on (Below.drew (same wr)) hg.own) (by omega) hzw (V + 1 + 1) (.slice (some ⟨V + 1, 0, none⟩) 1 1) (by obtain ⟨b, off, e, hc⟩ := BDw.out.1.2.2.2 Nat.one_pos; simp only [Option.some.injEq, Addr.mk.injEq] at e; obtain ⟨rfl, rfl, _⟩ := e; exact hc 0 Nat.one_pos) rfl 31
      obtain ⟨sl, rfl⟩ := owns_slv hown5
      have G5 := hid (Wl.Grow.stepg (a := (0, V + 1)) (stabB _ _ _) hg hzw (Below.drew (same wr)) (show elB 41 V W0.heap.size wr.drew 40 (0, V + 1) from ⟨fun h => absurd h (by decide), fun _ => rfl⟩) (fun (b : Nat) (hb : fpB (0, V + 1) b) => absurd rfl hb.1) hown5 hgr5.size (fun b h1 h2 => hgr5.block b h1 h2) (hat5.imp id (fun h => ⟨_, h, Nat.le_refl _⟩)))
      have bV : ∀ b, (slv vs).ownBlock = some b → W0.heap.size ≤ b := fun b hbb => (hg.own.lt b hbb).1
      have B7 := hid (show Below W0.heap.size W0 w7 from (show Below W0.heap.size W0 wr.drew from Below.drew hb).grown hgr5 hzw bV)
      have hc7 : w7.cell? ⟨V, 3, none⟩ = some (.slice none 0 0) := cell_on B7.out BX.out.1.c3
      clear hg hb hown5 hgr5 hat5 bV
      obtain ⟨v6, w6, hrun6, hown6, hgr6, hat6⟩ := app_gen (w2 := w7) underF infoF rfl (by decide) (by decide) (World.ownsRow_nil w7 W0.heap.size _ _) (by omega) B7.out.size #[.string ⟨#[102]⟩, .bool false, .slice none 0 0, .int .i64 0, .slice sl.a sl.n sl.c] rfl (by intro x hx; simp at hx; rcases hx with rfl | rfl | rfl | rfl | rfl <;> rfl) 25
      obtain ⟨sv, rfl⟩ := owns_slv hown6
      have B6 := hid (show Below w7.heap.size w7 w6 from (new (same w7) _).grown hgr6 (by simp) (fun b hb => by cases hb))
      have hc8 : (World.alloc w7 (.cells #[.string ⟨#[102]⟩, .bool false, .slice none 0 0, .int .i64 0, .slice sl.a sl.n sl.c] 33)).cell? ⟨V, 3, none⟩ = some (.slice none 0 0) := cell_on (new (same w7) _) hc7
      have hc9 : w6.cell? ⟨V, 3, none⟩ = some (.slice none 0 0) := cell_on B6.out hc7
      have fz9 : w6.frozen? ⟨V, 3, none⟩ = false := by rw [B6.out.frozen (by have := B7.out.size; show V < _; omega), B7.out.frozen (by show V < _; omega)]; exact BX.out.2.1 3
      have N6 := hid (show sv.n = 1 from own_n hown6 (by decide))
      have R6 := hid hown6
      clear hown6 hgr6 hat6
      go_wp2_with fail
      refine wp_region_noPanic ?_
      refine wp_region_held_drew (S := fun _ => True) (by kernel_rfl) trivial (fun hS => ?_)
      refine Go.Proofs.Ytnodofbpogcheaa.Wl.takeAt (i := 0) (d := some 136) (v := ?vt1_0) rfl (by rfl) (by kernel_rfl) (by kernel_rfl) (by kernel_rfl) (fun _ _ _ h => h) (Or.inl ⟨by rfl, ?yt1_0⟩) hS ?_
      case yt1_0 => intro wx hSw; (go_simp) <;> with_reducible rfl
      simp only [Act.put, List.setIfInBounds_toArray, List.set_cons_zero, List.set_cons_succ]
      refine Go.Proofs.Ytnodofbpogcheaa.Wl.takeAt (i := 2) (d := some 138) (v := ?vt2_2) rfl (by rfl) (by kernel_rfl) (by kernel_rfl) (by kernel_rfl) (fun _ _ _ h => h) (Or.inl ⟨by rfl, ?yt2_2⟩) hS ?_
      case yt2_2 => intro wx hSw; (go_simp) <;> with_reducible rfl
      simp only [Act.put, List.setIfInBounds_toArray, List.set_cons_zero, List.set_cons_succ]
      refine Go.Proofs.Ytnodofbpogcheaa.Wl.takeAt (i := 3) (d := some 139) (v := ?vt3_3) rfl (by rfl) (by kernel_rfl) (by kernel_rfl) (by kernel_rfl) (fun _ _ _ h => h) (Or.inl ⟨by rfl, ?yt3_3⟩) hS ?_
      case yt3_3 => intro wx hSw; (go_simp) <;> with_reducible rfl
      simp only [Act.put, List.setIfInBounds_toArray, List.set_cons_zero, List.set_cons_succ]
      refine wpAnyH_ready (rs := [1, 4]) (by kernel_rfl) (by simp) ?_
      refine AllReadyH.cons rfl (fun K hK => ?_) (AllReadyH.cons rfl (fun K hK => ?_) AllReadyH.nil)
      · go_simp
        refine hK.out _ _ trivial (fun _ => ?_)
        clear hK K
        have hS := True.intro
        try simp only [Act.put, List.setIfInBounds_toArray, List.set_cons_zero, List.set_cons_succ]
        refine wpAnyH_ready (rs := [4]) (by kernel_rfl) (by simp) ?_
        refine AllReadyH.cons rfl (fun K hK => ?_) AllReadyH.nil
        rw [if_pos (by rfl)]
        refine Go.Proofs.Ytnodofbpogcheaa.Wl.wp_app (s := .tmp 138) (x := .tmp 139) (t := 31) (d := some 140) rfl rfl rfl rfl rfl hrun5 ?_
        try simp only [Act.put, List.setIfInBounds_toArray, List.set_cons_zero, List.set_cons_succ]
        refine hK.out _ _ trivial (fun _ => ?_)
        clear hK K
        have hS := True.intro
        try simp only [Act.put, List.setIfInBounds_toArray, List.set_cons_zero, List.set_cons_succ]
        refine Go.Proofs.Ytnodofbpogcheaa.Wl.takeAt (i := 5) (d := some 141) (v := ?vt4_5) rfl (by rfl) (by kernel_rfl) (by kernel_rfl) (by kernel_rfl) (fun _ _ _ h => h) (Or.inl ⟨by rfl, ?yt4_5⟩) hS ?_
        case yt4_5 => intro wx hSw; (go_simp) <;> with_reducible rfl
        simp only [Act.put, List.setIfInBounds_toArray, List.set_cons_zero, List.set_cons_succ]
        refine wpAnyH_ready (rs := [6]) (by kernel_rfl) (by simp) ?_
        refine AllReadyH.cons rfl (fun K hK => ?_) AllReadyH.nil
        go_simp
        refine hK.out _ _ trivial (fun _ => ?_)
        clear hK K
        have hS := True.intro
        try simp only [Act.put, List.setIfInBounds_toArray, List.set_cons_zero, List.set_cons_succ]
        refine wpAnyH_ready (rs := [7]) (by kernel_rfl) (by simp) ?_
        refine AllReadyH.cons rfl (fun K hK => ?_) AllReadyH.nil
        rw [if_pos (by rfl)]
        refine Go.Proofs.Ytnodofbpogcheaa.Wl.wp_app (s := .tmp 137) (x := .tmp 142) (t := 25) (d := some 143) rfl rfl rfl rfl rfl hrun6 ?_
        try simp only [Act.put, List.setIfInBounds_toArray, List.set_cons_zero, List.set_cons_succ]
        refine hK.out _ _ trivial (fun _ => ?_)
        clear hK K
        have hS := True.intro
        try simp only [Act.put, List.setIfInBounds_toArray, List.set_cons_zero, List.set_cons_succ]
        refine Go.Proofs.Ytnodofbpogcheaa.Wl.takeAt (i := 8) (d := some 144) (v := ?vt5_8) rfl (by rfl) (by kernel_rfl) (by kernel_rfl) (by kernel_rfl) (fun _ _ _ h => h) (Or.inl ⟨by rfl, ?yt5_8⟩) hS ?_
        case yt5_8 => intro wx hSw; (go_simp) <;> with_reducible rfl
        simp only [Act.put, List.setIfInBounds_toArray, List.set_cons_zero, List.set_cons_succ]
        refine wpAnyH_ready (rs := [9]) (by kernel_rfl) (by simp) ?_
        refine AllReadyH.cons rfl (fun K hK => ?_) AllReadyH.nil
        go_simp
        refine hK.out _ _ trivial (fun _ => ?_)
        clear hK K
        have hS := True.intro
        try simp only [Act.put, List.setIfInBounds_toArray, List.set_cons_zero, List.set_cons_succ]
        refine wpAnyH_done (by kernel_rfl) ?_ _
        refine NoPanic.normal ?_
        have n6 := N6.out
        have TS := tail_fin (V := V) R6.out n6 rfl B6.out (by have := B7.out.size; omega) (fun b h1 => by omega)
        have oth : ∀ b, b ≠ V → b < w7.heap.size → (w6.setCell ⟨V, 3, none⟩ (slv sv)).heap[b]? = w7.heap[b]? := fun b h1 h2 => by rw [Below.heap_setCell _ _ _ _ h1]; exact B6.out.block b h2
        have g7 := G5.out.keep (w' := w6.setCell ⟨V, 3, none⟩ (slv sv)) (stabB _ _ _) (by simp; exact B6.out.size) (fun b h1 h2 => oth b (by omega) h2)
        have s7 := B7.out.size
        have bd7 := (BD.out.on B7.out).same (oth (V + 1) (by omega) (by omega)) (oth (V + 1 + 1) (by omega) (by omega))
        obtain ⟨r1, r2, r3, r4⟩ := ch_rows g7 bd7 (by decide)
        have CK := hid (res_ch HK.out (n := 41) (TS.1 (fun _ => chF sl _ 41 _) ⟨rfl, rfl, rfl, rfl, rfl⟩) n6 (by decide) (by decide) r1 (fun j hj => rfl) r2 r3 r4)
        rw [if_neg (by decide)] at CK
        clear g7 bd7 r1 r2 r3 r4 oth s7
        have L6 := View.more B7.out B6.out
        have LW := hid (show Below w1.heap.size w1 (w6.setCell ⟨V, 3, none⟩ (.slice sv.a sv.n sv.c)) from Below.setCell (View.more BX.out.2.2.1 L6) (by show _ ≤ V; exact BX.out.2.2.2.2) _)
        have b0 : (w6.setCell ⟨V, 3, none⟩ (.slice sv.a sv.n sv.c)).cell? ⟨V, 0, none⟩ = some (.slice none 0 0) := by rw [World.cell?_setCell_other (h := ne_off (by decide))]; exact cell_on L6 BX.out.1.c0
        have b1 : (w6.setCell ⟨V, 3, none⟩ (.slice sv.a sv.n sv.c)).cell? ⟨V, 1, none⟩ = some (.slice none 0 0) := by rw [World.cell?_setCell_other (h := ne_off (by decide))]; exact cell_on L6 BX.out.1.c1
        have b2 : (w6.setCell ⟨V, 3, none⟩ (.slice sv.a sv.n sv.c)).cell? ⟨V, 2, none⟩ = some (.slice none 0 0) := by rw [World.cell?_setCell_other (h := ne_off (by decide))]; exact cell_on L6 BX.out.1.c2
        have b3 : (w6.setCell ⟨V, 3, none⟩ (.slice sv.a sv.n sv.c)).cell? ⟨V, 3, none⟩ = some (.slice sv.a sv.n sv.c) := cell_same hc9
        obtain ⟨wf, hwf⟩ : ∃ wf, w6.setCell ⟨V, 3, none⟩ (.slice sv.a sv.n sv.c) = wf := ⟨_, rfl⟩
        rw [hwf]
        rw [hwf] at b0 b1 b2 b3 LW
        rw [show w6.setCell ⟨V, 3, none⟩ (slv sv) = wf from hwf] at CK
        clear hwf TS L6 n6
        go_wp2_with (go_at_call 15; refine (CK.out _ (same _)).mono ?_; rintro e w5 ⟨rfl, hb5⟩; have B5 := hid hb5; clear hb5)
        go_ret
        exact ⟨rfl, View.more (View.more st1.out LW.out) B5.out⟩
      · rw [if_pos (by rfl)]
        refine Go.Proofs.Ytnodofbpogcheaa.Wl.wp_app (s := .tmp 138) (x := .tmp 139) (t := 31) (d := some 140) rfl rfl rfl rfl rfl hrun5 ?_
        try simp only [Act.put, List.setIfInBounds_toArray, List.set_cons_zero, List.set_cons_succ]
        refine hK.out _ _ trivial (fun _ => ?_)
        clear hK K
        have hS := True.intro
        try simp only [Act.put, List.setIfInBounds_toArray, List.set_cons_zero, List.set_cons_succ]
        refine Go.Proofs.Ytnodofbpogcheaa.Wl.takeAt (i := 5) (d := some 141) (v := ?vt6_5) rfl (by rfl) (by kernel_rfl) (by kernel_rfl) (by kernel_rfl) (fun _ _ _ h => h) (Or.inl ⟨by rfl, ?yt6_5⟩) hS ?_
        case yt6_5 => intro wx hSw; (go_simp) <;> with_reducible rfl
        simp only [Act.put, List.setIfInBounds_toArray, List.set_cons_zero, List.set_cons_succ]
        refine wpAnyH_ready (rs := [1, 6]) (by kernel_rfl) (by simp) ?_
        refine AllReadyH.cons rfl (fun K hK => ?_) (AllReadyH.cons rfl (fun K hK => ?_) AllReadyH.nil)
        · go_simp
          refine hK.out _ _ trivial (fun _ => ?_)
          clear hK K
          have hS := True.intro
          try simp only [Act.put, List.setIfInBounds_toArray, List.set_cons_zero, List.set_cons_succ]
          refine wpAnyH_ready (rs := [6]) (by kernel_rfl) (by simp) ?_
          refine AllReadyH.cons rfl (fun K hK => ?_) AllReadyH.nil
          go_simp
          refine hK.out _ _ trivial (fun _ => ?_)
          clear hK K
          have hS := True.intro
          try simp only [Act.put, List.setIfInBounds_toArray, List.set_cons_zero, List.set_cons_succ]
          refine wpAnyH_ready (rs := [7]) (by kernel_rfl) (by simp) ?_
          refine AllReadyH.cons rfl (fun K hK => ?_) AllReadyH.nil
          rw [if_pos (by rfl)]
          refine Go.Proofs.Ytnodofbpogcheaa.Wl.wp_app (s := .tmp 137) (x := .tmp 142) (t := 25) (d := some 143) rfl rfl rfl rfl rfl hrun6 ?_
          try simp only [Act.put, List.setIfInBounds_toArray, List.set_cons_zero, List.set_cons_succ]
          refine hK.out _ _ trivial (fun _ => ?_)
          clear hK K
          have hS := True.intro
          try simp only [Act.put, List.setIfInBounds_toArray, List.set_cons_zero, List.set_cons_succ]
          refine Go.Proofs.Ytnodofbpogcheaa.Wl.takeAt (i := 8) (d := some 144) (v := ?vt7_8) rfl (by rfl) (by kernel_rfl) (by kernel_rfl) (by kernel_rfl) (fun _ _ _ h => h) (Or.inl ⟨by rfl, ?yt7_8⟩) hS ?_
          case yt7_8 => intro wx hSw; (go_simp) <;> with_reducible rfl
          simp only [Act.put, List.setIfInBounds_toArray, List.set_cons_zero, List.set_cons_succ]
          refine wpAnyH_ready (rs := [9]) (by kernel_rfl) (by simp) ?_
          refine AllReadyH.cons rfl (fun K hK => ?_) AllReadyH.nil
          go_simp
          refine hK.out _ _ trivial (fun _ => ?_)
          clear hK K
          have hS := True.intro
          try simp only [Act.put, List.setIfInBounds_toArray, List.set_cons_zero, List.set_cons_succ]
          refine wpAnyH_done (by kernel_rfl) ?_ _
          refine NoPanic.normal ?_
          have n6 := N6.out
          have TS := tail_fin (V := V) R6.out n6 rfl B6.out (by have := B7.out.size; omega) (fun b h1 => by omega)
          have oth : ∀ b, b ≠ V → b < w7.heap.size → (w6.setCell ⟨V, 3, none⟩ (slv sv)).heap[b]? = w7.heap[b]? := fun b h1 h2 => by rw [Below.heap_setCell _ _ _ _ h1]; exact B6.out.block b h2
          have g7 := G5.out.keep (w' := w6.setCell ⟨V, 3, none⟩ (slv sv)) (stabB _ _ _) (by simp; exact B6.out.size) (fun b h1 h2 => oth b (by omega) h2)
          have s7 := B7.out.size
          have bd7 := (BD.out.on B7.out).same (oth (V + 1) (by omega) (by omega)) (oth (V + 1 + 1) (by omega) (by omega))
          obtain ⟨r1, r2, r3, r4⟩ := ch_rows g7 bd7 (by decide)
          have CK := hid (res_ch HK.out (n := 41) (TS.1 (fun _ => chF sl _ 41 _) ⟨rfl, rfl, rfl, rfl, rfl⟩) n6 (by decide) (by decide) r1 (fun j hj => rfl) r2 r3 r4)
          rw [if_neg (by decide)] at CK
          clear g7 bd7 r1 r2 r3 r4 oth s7
          have L6 := View.more B7.out B6.out
          have LW := hid (show Below w1.heap.size w1 (w6.setCell ⟨V, 3, none⟩ (.slice sv.a sv.n sv.c)) from Below.setCell (View.more BX.out.2.2.1 L6) (by show _ ≤ V; exact BX.out.2.2.2.2) _)
          have b0 : (w6.setCell ⟨V, 3, none⟩ (.slice sv.a sv.n sv.c)).cell? ⟨V, 0, none⟩ = some (.slice none 0 0) := by rw [World.cell?_setCell_other (h := ne_off (by decide))]; exact cell_on L6 BX.out.1.c0
          have b1 : (w6.setCell ⟨V, 3, none⟩ (.slice sv.a sv.n sv.c)).cell? ⟨V, 1, none⟩ = some (.slice none 0 0) := by rw [World.cell?_setCell_other (h := ne_off (by decide))]; exact cell_on L6 BX.out.1.c1
          have b2 : (w6.setCell ⟨V, 3, none⟩ (.slice sv.a sv.n sv.c)).cell? ⟨V, 2, none⟩ = some (.slice none 0 0) := by rw [World.cell?_setCell_other (h := ne_off (by decide))]; exact cell_on L6 BX.out.1.c2
          have b3 : (w6.setCell ⟨V, 3, none⟩ (.slice sv.a sv.n sv.c)).cell? ⟨V, 3, none⟩ = some (.slice sv.a sv.n sv.c) := cell_same hc9
          obtain ⟨wf, hwf⟩ : ∃ wf, w6.setCell ⟨V, 3, none⟩ (.slice sv.a sv.n sv.c) = wf := ⟨_, rfl⟩
          rw [hwf]
          rw [hwf] at b0 b1 b2 b3 LW
          rw [show w6.setCell ⟨V, 3, none⟩ (slv sv) = wf from hwf] at CK
          clear hwf TS L6 n6
          go_wp2_with (go_at_call 15; refine (CK.out _ (same _)).mono ?_; rintro e w5 ⟨rfl, hb5⟩; have B5 := hid hb5; clear hb5)
          go_ret
          exact ⟨rfl, View.more (View.more st1.out LW.out) B5.out⟩
        · go_simp
          refine hK.out _ _ trivial (fun _ => ?_)
          clear hK K
          have hS := True.intro
          try simp only [Act.put, List.setIfInBounds_toArray, List.set_cons_zero, List.set_cons_succ]
          refine wpAnyH_ready (rs := [1]) (by kernel_rfl) (by simp) ?_
          refine AllReadyH.cons rfl (fun K hK => ?_) AllReadyH.nil
          go_simp
          refine hK.out _ _ trivial (fun _ => ?_)
          clear hK K
          have hS := True.intro
          try simp only [Act.put, List.setIfInBounds_toArray, List.set_cons_zero, List.set_cons_succ]
          refine wpAnyH_ready (rs := [7]) (by kernel_rfl) (by simp) ?_
          refine AllReadyH.cons rfl (fun K hK => ?_) AllReadyH.nil
          rw [if_pos (by rfl)]
          refine Go.Proofs.Ytnodofbpogcheaa.Wl.wp_app (s := .tmp 137) (x := .tmp 142) (t := 25) (d := some 143) rfl rfl rfl rfl rfl hrun6 ?_
          try simp only [Act.put, List.setIfInBounds_toArray, List.set_cons_zero, List.set_cons_succ]
          refine hK.out _ _ trivial (fun _ => ?_)
          clear hK K
          have hS := True.intro
          try simp only [Act.put, List.setIfInBounds_toArray, List.set_cons_zero, List.set_cons_succ]
          refine Go.Proofs.Ytnodofbpogcheaa.Wl.takeAt (i := 8) (d := some 144) (v := ?vt8_8) rfl (by rfl) (by kernel_rfl) (by kernel_rfl) (by kernel_rfl) (fun _ _ _ h => h) (Or.inl ⟨by rfl, ?yt8_8⟩) hS ?_
          case yt8_8 => intro wx hSw; (go_simp) <;> with_reducible rfl
          simp only [Act.put, List.setIfInBounds_toArray, List.set_cons_zero, List.set_cons_succ]
          refine wpAnyH_ready (rs := [9]) (by kernel_rfl) (by simp) ?_
          refine AllReadyH.cons rfl (fun K hK => ?_) AllReadyH.nil
          go_simp
          refine hK.out _ _ trivial (fun _ => ?_)
          clear hK K
          have hS := True.intro
          try simp only [Act.put, List.setIfInBounds_toArray, List.set_cons_zero, List.set_cons_succ]
          refine wpAnyH_done (by kernel_rfl) ?_ _
          refine NoPanic.normal ?_
          have n6 := N6.out
          have TS := tail_fin (V := V) R6.out n6 rfl B6.out (by have := B7.out.size; omega) (fun b h1 => by omega)
          have oth : ∀ b, b ≠ V → b < w7.heap.size → (w6.setCell ⟨V, 3, none⟩ (slv sv)).heap[b]? = w7.heap[b]? := fun b h1 h2 => by rw [Below.heap_setCell _ _ _ _ h1]; exact B6.out.block b h2
          have g7 := G5.out.keep (w' := w6.setCell ⟨V, 3, none⟩ (slv sv)) (stabB _ _ _) (by simp; exact B6.out.size) (fun b h1 h2 => oth b (by omega) h2)
          have s7 := B7.out.size
          have bd7 := (BD.out.on B7.out).same (oth (V + 1) (by omega) (by omega)) (oth (V + 1 + 1) (by omega) (by omega))
          obtain ⟨r1, r2, r3, r4⟩ := ch_rows g7 bd7 (by decide)
          have CK := hid (res_ch HK.out (n := 41) (TS.1 (fun _ => chF sl _ 41 _) ⟨rfl, rfl, rfl, rfl, rfl⟩) n6 (by decide) (by decide) r1 (fun j hj => rfl) r2 r3 r4)
          rw [if_neg (by decide)] at CK
          clear g7 bd7 r1 r2 r3 r4 oth s7
          have L6 := View.more B7.out B6.out
          have LW := hid (show Below w1.heap.size w1 (w6.setCell ⟨V, 3, none⟩ (.slice sv.a sv.n sv.c)) from Below.setCell (View.more BX.out.2.2.1 L6) (by show _ ≤ V; exact BX.out.2.2.2.2) _)
          have b0 : (w6.setCell ⟨V, 3, none⟩ (.slice sv.a sv.n sv.c)).cell? ⟨V, 0, none⟩ = some (.slice none 0 0) := by rw [World.cell?_setCell_other (h := ne_off (by decide))]; exact cell_on L6 BX.out.1.c0
          have b1 : (w6.setCell ⟨V, 3, none⟩ (.slice sv.a sv.n sv.c)).cell? ⟨V, 1, none⟩ = some (.slice none 0 0) := by rw [World.cell?_setCell_other (h := ne_off (by decide))]; exact cell_on L6 BX.out.1.c1
          have b2 : (w6.setCell ⟨V, 3, none⟩ (.slice sv.a sv.n sv.c)).cell? ⟨V, 2, none⟩ = some (.slice none 0 0) := by rw [World.cell?_setCell_other (h := ne_off (by decide))]; exact cell_on L6 BX.out.1.c2
          have b3 : (w6.setCell ⟨V, 3, none⟩ (.slice sv.a sv.n sv.c)).cell? ⟨V, 3, none⟩ = some (.slice sv.a sv.n sv.c) := cell_same hc9
          obtain ⟨wf, hwf⟩ : ∃ wf, w6.setCell ⟨V, 3, none⟩ (.slice sv.a sv.n sv.c) = wf := ⟨_, rfl⟩
          rw [hwf]
          rw [hwf] at b0 b1 b2 b3 LW
          rw [show w6.setCell ⟨V, 3, none⟩ (slv sv) = wf from hwf] at CK
          clear hwf TS L6 n6
          go_wp2_with (go_at_call 15; refine (CK.out _ (same _)).mono ?_; rintro e w5 ⟨rfl, hb5⟩; have B5 := hid hb5; clear hb5)
          go_ret
          exact ⟨rfl, View.more (View.more st1.out LW.out) B5.out⟩

end Go.Proofs.Ytnodofbpogcheaa.Wf
