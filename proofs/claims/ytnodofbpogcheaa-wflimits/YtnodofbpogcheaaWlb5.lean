/-
  WfLimits, walked: as many Ins as may be, one more.
-/
import Derived.Test.YtnodofbpogcheaaJ12
namespace Go.Proofs.Ytnodofbpogcheaa.Wf
open Go.RowKit View Rd Num Copy Go.Proofs.Ytnodofbpogcheaa.Mod Go.Proofs.Ytnodofbpogcheaa.Wl Go.Proofs.Ytnodofbpogcheaa.Chk Go.Proofs.Ytnodofbpogcheaa.Flo

set_option linter.unusedVariables false

set_option maxRecDepth 10000 in
set_option maxHeartbeats 8000000 in
theorem lim5_false (which : Int) (w : World) (hck : ChkC) (hfi : ∀ w, Calls Try.prog 13 #[] w fun e w' => e = .returned (.bool true) ∧ Below w.heap.size w w') (a0 : Nat) (h1 : bits .and .i64 which 255 = (a0 : Int)) (h2 : (a0 : Int).tmod 6 = 5) :
    Calls Try.prog 4 #[.int .i64 which, .bool false] w fun e w' => e = .returned (.bool true) ∧ Below w.heap.size w w' := by
  have HF := hid hfi
  have HK := hid hck
  clear hfi hck
  go_enter Try.func4, Try.ntmps4
  go_wp2_with (go_at_call 13; refine (HF.out _).mono ?_; rintro e w1 ⟨rfl, hb⟩; have st1 := hid hb; clear hb)
  clear h1 h2
  obtain ⟨V, hV⟩ : ∃ V, w1.heap.size = V := ⟨_, rfl⟩
  rw [hV]
  obtain ⟨W0, hW0⟩ : ∃ W0, ((w1.alloc (.cells #[.slice none 0 0, .slice none 0 0, .slice none 0 0, .slice none 0 0] 27)).alloc (.cells #[.int .i64 29, .int .i64 0, .int .i64 0, .int .i64 0, .int .i64 0, .slice none 0 0, .slice none 0 0] 39)).alloc (.cells #[.slice (some ⟨V + 1, 0, none⟩) 1 1] 37) = W0 := ⟨_, rfl⟩
  rw [hW0]
  have BX := hid (show MCell4 W0 V ∧ (∀ i, W0.frozen? ⟨V, i, none⟩ = false) ∧ Below w1.heap.size w1 W0 ∧ V + 2 < W0.heap.size ∧ w1.heap.size ≤ V from by
    subst hV hW0
    exact ⟨⟨cell_on (new (new (same _) _) _) (by simp), cell_on (new (new (same _) _) _) (by simp), cell_on (new (new (same _) _) _) (by simp), cell_on (new (new (same _) _) _) (by simp)⟩, fun i => by rw [World.frozen?_alloc_old _ _ _ (by show w1.heap.size ≠ _; simp; omega), World.frozen?_alloc_old _ _ _ (by show w1.heap.size ≠ _; simp)]; exact World.frozen?_alloc_new _ _ _ i, new (new (new (same _) _) _) _, by simp, Nat.le_refl _⟩)
  have BD := hid (show BodyAt W0 V from by subst hV hW0; exact bodyAt_new w1)
  clear hW0
  go_loopw [12, 13] (fun lv i wr => ∃ k : Nat, k ≤ 299 ∧ i = .int .i64 k ∧ ∃ (vs : Sl) (t : Nat → Unit), lv = .slice vs.a vs.n vs.c ∧ Grow W0.heap.size 39 7 k wr (slv vs) (csN 300) (noEl W0.heap.size) noFp t ∧ Below W0.heap.size W0 wr) (fun _ i _ => 299 - (intOf i).toNat)
  case atStart => exact ⟨0, Nat.zero_le _, rfl, ⟨none, 0, 0⟩, fun _ => (), rfl, ⟨World.ownsRow_nil _ _ _ _, fun i hi => by omega, fun i hi => by omega, fun i j hi => by omega⟩, same _⟩
  case round =>
    obtain ⟨k, hk, rfl, vs, t, rfl, hg, hb⟩ := hrel
    by_cases hlt : k < 299
    · have hz := hb.size
      obtain ⟨v5, w4, hrun, hown4, hgr4, hat4⟩ := app_gen (w2 := wr) underIn infoIn rfl (by decide) (by decide) hg.own (by omega) hz #[.int .i64 1, .int .i64 1, .int .i64 ((k : Int) + 1), .int .i64 0, .int .i64 (k : Int), .slice none 0 0, .slice none 0 0] rfl (by intro x hx; simp at hx; rcases hx with rfl | rfl | rfl | rfl | rfl | rfl | rfl <;> rfl) 35
      obtain ⟨sv, rfl⟩ := owns_slv hown4
      have G4 := hid (hg.step (a := ()) (stabN _) hz (same _) trivial (fun (b : Nat) (hb : False) => hb.elim) (by rw [nu_row (by omega)]; exact hown4) hgr4 hat4)
      have B4 := hid (show Below W0.heap.size W0 w4 from (new hb _).grown hgr4 (by simp; omega) (fun b hbb => (hg.own.lt b hbb).1))
      clear hg hb hown4 hgr4 hat4
      go_wp2_with (at_builtin; refine wpList_app (.tmp 31) (.tmp 36) (by rfl) (by rfl) (by rfl) (by rfl) (by rfl) hrun ?_)
      go_round
      case rel => obtain ⟨t2, g2⟩ := G4.out; exact ⟨k + 1, by omega, by go_num, sv, t2, rfl, g2, B4.out⟩
      case measure => simp [intOf]; omega
    · obtain rfl : k = 299 := by omega
      have hVl := BX.out.2.2.2.1
      have LW0 := hid hb
      have HB := hid hb
      have hk0 : wr.cell? ⟨V, 0, none⟩ = some (.slice none 0 0) := cell_on hb BX.out.1.c0
      have hk1 : wr.cell? ⟨V, 1, none⟩ = some (.slice none 0 0) := cell_on hb BX.out.1.c1
      have hk2 : wr.cell? ⟨V, 2, none⟩ = some (.slice none 0 0) := cell_on hb BX.out.1.c2
      have hk3 : wr.cell? ⟨V, 3, none⟩ = some (.slice none 0 0) := cell_on hb BX.out.1.c3
      have hkD : wr.drew.cell? ⟨V, 3, none⟩ = some (.slice none 0 0) := hk3
      have hzw := hb.size
      have fzV : wr.frozen? ⟨V, 3, none⟩ = false := by rw [hb.frozen (by show V < _; omega)]; exact BX.out.2.1 3
      have LOW := hid (View.more BX.out.2.2.1 hb)
      have BDw := hid (BD.out.on hb)
      obtain ⟨v5, w5, hrun5, hown5, hgr5, hat5⟩ := app_gen (w2 := wr.drew) underIn infoIn rfl (by decide) (by decide) (owns_on (Below.drew (same wr)) hg.own) (by omega) hzw #[.int .i64 29, .int .i64 0, .int .i64 0, .int .i64 0, .int .i64 0, .slice none 0 0, .slice none 0 0] rfl (by intro x hx; simp at hx; rcases hx with rfl | rfl | rfl | rfl | rfl | rfl | rfl <;> rfl) 35
      obtain ⟨sl, rfl⟩ := owns_slv hown5
      replace hrun5 : (Builtin.append_ #[35, 35] 35 #[slv vs, .slice (some ⟨wr.heap.size, 0, none⟩) 1 1]).run Try.prog (World.alloc wr (.cells #[.int .i64 29, .int .i64 0, .int .i64 0, .int .i64 0, .int .i64 0, .slice none 0 0, .slice none 0 0] 39)).drew = .ok (slv sl) w5 := hrun5
      have G5 := hid (hg.step (a := ()) (stabN _) hzw (Below.drew (same wr)) trivial (fun (b : Nat) (hb : False) => hb.elim) (by rw [nu_end (by omega)]; exact hown5) hgr5 hat5)
      have bV : ∀ b, (slv vs).ownBlock = some b → W0.heap.size ≤ b := fun b hbb => (hg.own.lt b hbb).1
      have B5 := hid (show Below W0.heap.size W0 w5 from (new (show Below W0.heap.size W0 wr.drew from Below.drew hb) _).grown hgr5 (by simp; omega) bV)
      have zz5 : wr.heap.size ≤ w5.heap.size := by have := hgr5.size; simp at this; omega
      have hc5 : w5.cell? ⟨V, 3, none⟩ = some (.slice none 0 0) := cell_on B5.out BX.out.1.c3
      have hc4 : (World.alloc wr (.cells #[.int .i64 29, .int .i64 0, .int .i64 0, .int .i64 0, .int .i64 0, .slice none 0 0, .slice none 0 0] 39)).drew.cell? ⟨V, 3, none⟩ = some (.slice none 0 0) := cell_on (Below.drew (new (same wr) _)) hk3
      obtain ⟨w7, hw7⟩ : ∃ w7, World.alloc w5 (.cells #[.slice sl.a sl.n sl.c] 37) = w7 := ⟨_, rfl⟩
      have B7 := hid (show Below W0.heap.size W0 w7 by rw [← hw7]; exact new B5.out _)
      have B57 := hid (show Below w5.heap.size w5 w7 by rw [← hw7]; exact new (same _) _)
      have e7 : w7.cell? ⟨w5.heap.size, 0, none⟩ = some (.slice sl.a sl.n sl.c) := by rw [← hw7]; simp
      have hc7 : w7.cell? ⟨V, 3, none⟩ = some (.slice none 0 0) := cell_on B57.out hc5
      have F5 := hid (And.intro (And.intro G5.out B5.out) (And.intro e7 bV))
      clear hg hb hown5 hgr5 hat5 bV
      obtain ⟨v6, w6, hrun6, hown6, hgr6, hat6⟩ := app_gen (w2 := w7) underF infoF rfl (by decide) (by decide) (World.ownsRow_nil w7 W0.heap.size _ _) (by omega) B7.out.size #[.string ⟨#[102]⟩, .bool false, .slice none 0 0, .int .i64 0, .slice (some ⟨w5.heap.size, 0, none⟩) 1 1] rfl (by intro x hx; simp at hx; rcases hx with rfl | rfl | rfl | rfl | rfl <;> rfl) 25
      obtain ⟨sv, rfl⟩ := owns_slv hown6
      have B6 := hid (show Below w7.heap.size w7 w6 from (new (same w7) _).grown hgr6 (by simp) (fun b hb => by cases hb))
      have hc8 : (World.alloc w7 (.cells #[.string ⟨#[102]⟩, .bool false, .slice none 0 0, .int .i64 0, .slice (some ⟨w5.heap.size, 0, none⟩) 1 1] 33)).cell? ⟨V, 3, none⟩ = some (.slice none 0 0) := cell_on (new (same w7) _) hc7
      have hc9 : w6.cell? ⟨V, 3, none⟩ = some (.slice none 0 0) := cell_on B6.out hc7
      have fz9 : w6.frozen? ⟨V, 3, none⟩ = false := by rw [B6.out.frozen (by have := B7.out.size; show V < _; omega), B7.out.frozen (by show V < _; omega)]; exact BX.out.2.1 3
      have N6 := hid (show sv.n = 1 from own_n hown6 (by decide))
      have R6 := hid hown6
      clear hown6 hgr6 hat6
      go_wp2_with fail
      refine wp_region_noPanic ?_
      refine wp_region_held_drew (S := fun _ => True) (by kernel_rfl) trivial (fun hS => ?_)
      refine Go.Proofs.Ytnodofbpogcheaa.Wl.takeAt (i := 0) (d := some 38) (v := ?vt1_0) rfl (by rfl) (by kernel_rfl) (by kernel_rfl) (by kernel_rfl) (fun _ _ _ h => h) (Or.inl ⟨by rfl, ?yt1_0⟩) hS ?_
      case yt1_0 => intro wx hSw; (go_simp) <;> with_reducible rfl
      simp only [Act.put, List.setIfInBounds_toArray, List.set_cons_zero, List.set_cons_succ]
      refine Go.Proofs.Ytnodofbpogcheaa.Wl.takeAt (i := 2) (d := some 40) (v := ?vt2_2) rfl (by rfl) (by kernel_rfl) (by kernel_rfl) (by kernel_rfl) (fun _ _ _ h => h) (Or.inl ⟨by rfl, ?yt2_2⟩) hS ?_
      case yt2_2 => intro wx hSw; (go_simp) <;> with_reducible rfl
      simp only [Act.put, List.setIfInBounds_toArray, List.set_cons_zero, List.set_cons_succ]
      refine Go.Proofs.Ytnodofbpogcheaa.Wl.takeAt (i := 3) (d := some 41) (v := ?vt3_3) rfl (by rfl) (by kernel_rfl) (by kernel_rfl) (by kernel_rfl) (fun _ _ _ h => h) (Or.inl ⟨by rfl, ?yt3_3⟩) hS ?_
      case yt3_3 => intro wx hSw; (go_simp) <;> with_reducible rfl
      simp only [Act.put, List.setIfInBounds_toArray, List.set_cons_zero, List.set_cons_succ]
      refine wpAnyH_ready (rs := [1, 4]) (by kernel_rfl) (by simp) ?_
      refine AllReadyH.cons rfl (fun K hK => ?_) (AllReadyH.cons rfl (fun K hK => ?_) AllReadyH.nil)
      · go_simp
        refine hK.out _ _ trivial (fun _ => ?_)
        clear hK K
        have hS := True.intro
        try simp only [Act.put, List.setIfInBounds_toArray, List.set_cons_zero, List.set_cons_succ]
        refine wpAnyH_ready (rs := [4]) (by kernel_rfl) (by simp) ?_
        refine AllReadyH.cons rfl (fun K hK => ?_) AllReadyH.nil
        go_simp
        refine hK.out _ _ trivial (fun _ => ?_)
        clear hK K
        have hS := True.intro
        try simp only [Act.put, List.setIfInBounds_toArray, List.set_cons_zero, List.set_cons_succ]
        refine wpAnyH_ready (rs := [5]) (by kernel_rfl) (by simp) ?_
        refine AllReadyH.cons rfl (fun K hK => ?_) AllReadyH.nil
        rw [if_pos (by rfl)]
        refine Go.Proofs.Ytnodofbpogcheaa.Wl.wp_app (s := .tmp 40) (x := .tmp 42) (t := 35) (d := some 43) rfl rfl rfl rfl rfl hrun5 ?_
        try simp only [Act.put, List.setIfInBounds_toArray, List.set_cons_zero, List.set_cons_succ]
        refine hK.out _ _ trivial (fun _ => ?_)
        clear hK K
        have hS := True.intro
        try simp only [Act.put, List.setIfInBounds_toArray, List.set_cons_zero, List.set_cons_succ]
        refine Go.Proofs.Ytnodofbpogcheaa.Wl.takeAt (i := 6) (d := some 44) (v := ?vt4_6) rfl (by rfl) (by kernel_rfl) (by kernel_rfl) (by kernel_rfl) (fun _ _ _ h => h) (Or.inl ⟨by rfl, ?yt4_6⟩) hS ?_
        case yt4_6 => intro wx hSw; (go_simp) <;> with_reducible rfl
        simp only [Act.put, List.setIfInBounds_toArray, List.set_cons_zero, List.set_cons_succ]
        refine wpAnyH_ready (rs := [7]) (by kernel_rfl) (by simp) ?_
        refine AllReadyH.cons rfl (fun K hK => ?_) AllReadyH.nil
        go_simp
        refine hK.out _ _ trivial (fun _ => ?_)
        clear hK K
        have hS := True.intro
        try simp only [Act.put, List.setIfInBounds_toArray, List.set_cons_zero, List.set_cons_succ]
        refine Go.Proofs.Ytnodofbpogcheaa.Wl.takeAt (i := 8) (d := some 46) (v := ?vt5_8) rfl (by rfl) (by kernel_rfl) (by kernel_rfl) (by kernel_rfl) (fun _ _ _ h => h) (Or.inl ⟨by rfl, ?yt5_8⟩) hS ?_
        case yt5_8 => intro wx hSw; (go_simp) <;> with_reducible rfl
        simp only [Act.put, List.setIfInBounds_toArray, List.set_cons_zero, List.set_cons_succ]
        refine wpAnyH_ready (rs := [9]) (by kernel_rfl) (by simp) ?_
        refine AllReadyH.cons rfl (fun K hK => ?_) AllReadyH.nil
        go_simp
        refine hK.out _ _ trivial (fun _ => ?_)
        clear hK K
        have hS := True.intro
        try simp only [Act.put, List.setIfInBounds_toArray, List.set_cons_zero, List.set_cons_succ]
        refine wpAnyH_ready (rs := [10]) (by kernel_rfl) (by simp) ?_
        refine AllReadyH.cons rfl (fun K hK => ?_) AllReadyH.nil
        rw [if_pos (by rfl)]
        refine Go.Proofs.Ytnodofbpogcheaa.Wl.wp_app (s := .tmp 39) (x := .tmp 47) (t := 25) (d := some 48) rfl rfl rfl rfl rfl hrun6 ?_
        try simp only [Act.put, List.setIfInBounds_toArray, List.set_cons_zero, List.set_cons_succ]
        refine hK.out _ _ trivial (fun _ => ?_)
        clear hK K
        have hS := True.intro
        try simp only [Act.put, List.setIfInBounds_toArray, List.set_cons_zero, List.set_cons_succ]
        refine Go.Proofs.Ytnodofbpogcheaa.Wl.takeAt (i := 11) (d := some 49) (v := ?vt6_11) rfl (by rfl) (by kernel_rfl) (by kernel_rfl) (by kernel_rfl) (fun _ _ _ h => h) (Or.inl ⟨by rfl, ?yt6_11⟩) hS ?_
        case yt6_11 => intro wx hSw; (go_simp) <;> with_reducible rfl
        simp only [Act.put, List.setIfInBounds_toArray, List.set_cons_zero, List.set_cons_succ]
        refine wpAnyH_ready (rs := [12]) (by kernel_rfl) (by simp) ?_
        refine AllReadyH.cons rfl (fun K hK => ?_) AllReadyH.nil
        go_simp
        refine hK.out _ _ trivial (fun _ => ?_)
        clear hK K
        have hS := True.intro
        try simp only [Act.put, List.setIfInBounds_toArray, List.set_cons_zero, List.set_cons_succ]
        refine wpAnyH_done (by kernel_rfl) ?_ _
        refine NoPanic.normal ?_
        obtain ⟨t5, g5⟩ := F5.out.1.1
        obtain ⟨ns, his⟩ := nu_inss g5 (by decide)
        have h5b := own_blk g5.own
        have n6 := N6.out
        have TS := tail_fin (V := V) R6.out n6 rfl B6.out (by have := B7.out.size; omega) (fun b h1 => by omega)
        have CK := hid (res_nu HK.out (n := 300) (b := w5.heap.size) (r := sl) (TS.1 (fun _ => nuF w5.heap.size sl 300) ⟨rfl, rfl, rfl, rfl, rfl⟩) n6 (by decide) (by decide) ns (TS.2.1 _ (by omega) _ e7) (TS.2.2 _ _ (fun b off e h0 => by have := h5b b off e h0; omega) (his.on B57.out)))
        rw [if_pos (by decide)] at CK
        have L6 := View.more B7.out B6.out
        have LW := hid (show Below w1.heap.size w1 (w6.setCell ⟨V, 3, none⟩ (.slice sv.a sv.n sv.c)) from Below.setCell (View.more BX.out.2.2.1 L6) (by show _ ≤ V; exact BX.out.2.2.2.2) _)
        have b0 : (w6.setCell ⟨V, 3, none⟩ (.slice sv.a sv.n sv.c)).cell? ⟨V, 0, none⟩ = some (.slice none 0 0) := by rw [World.cell?_setCell_other (h := ne_off (by decide))]; exact cell_on L6 BX.out.1.c0
        have b1 : (w6.setCell ⟨V, 3, none⟩ (.slice sv.a sv.n sv.c)).cell? ⟨V, 1, none⟩ = some (.slice none 0 0) := by rw [World.cell?_setCell_other (h := ne_off (by decide))]; exact cell_on L6 BX.out.1.c1
        have b2 : (w6.setCell ⟨V, 3, none⟩ (.slice sv.a sv.n sv.c)).cell? ⟨V, 2, none⟩ = some (.slice none 0 0) := by rw [World.cell?_setCell_other (h := ne_off (by decide))]; exact cell_on L6 BX.out.1.c2
        have b3 : (w6.setCell ⟨V, 3, none⟩ (.slice sv.a sv.n sv.c)).cell? ⟨V, 3, none⟩ = some (.slice sv.a sv.n sv.c) := cell_same hc9
        obtain ⟨wf, hwf⟩ : ∃ wf, w6.setCell ⟨V, 3, none⟩ (.slice sv.a sv.n sv.c) = wf := ⟨_, rfl⟩
        rw [hwf]
        rw [hwf] at b0 b1 b2 b3 LW
        rw [show w6.setCell ⟨V, 3, none⟩ (slv sv) = wf from hwf] at CK
        clear hwf TS L6 n6
        go_wp2_with (go_at_call 15; refine (CK.out _ (same _)).mono ?_; rintro e w5 ⟨rfl, hb5⟩; have B5 := hid hb5; clear hb5)
        go_ret
        exact ⟨rfl, View.more (View.more st1.out LW.out) B5.out⟩
      · go_simp
        refine hK.out _ _ trivial (fun _ => ?_)
        clear hK K
        have hS := True.intro
        try simp only [Act.put, List.setIfInBounds_toArray, List.set_cons_zero, List.set_cons_succ]
        refine wpAnyH_ready (rs := [1, 5]) (by kernel_rfl) (by simp) ?_
        refine AllReadyH.cons rfl (fun K hK => ?_) (AllReadyH.cons rfl (fun K hK => ?_) AllReadyH.nil)
        · go_simp
          refine hK.out _ _ trivial (fun _ => ?_)
          clear hK K
          have hS := True.intro
          try simp only [Act.put, List.setIfInBounds_toArray, List.set_cons_zero, List.set_cons_succ]
          refine wpAnyH_ready (rs := [5]) (by kernel_rfl) (by simp) ?_
          refine AllReadyH.cons rfl (fun K hK => ?_) AllReadyH.nil
          rw [if_pos (by rfl)]
          refine Go.Proofs.Ytnodofbpogcheaa.Wl.wp_app (s := .tmp 40) (x := .tmp 42) (t := 35) (d := some 43) rfl rfl rfl rfl rfl hrun5 ?_
          try simp only [Act.put, List.setIfInBounds_toArray, List.set_cons_zero, List.set_cons_succ]
          refine hK.out _ _ trivial (fun _ => ?_)
          clear hK K
          have hS := True.intro
          try simp only [Act.put, List.setIfInBounds_toArray, List.set_cons_zero, List.set_cons_succ]
          refine Go.Proofs.Ytnodofbpogcheaa.Wl.takeAt (i := 6) (d := some 44) (v := ?vt7_6) rfl (by rfl) (by kernel_rfl) (by kernel_rfl) (by kernel_rfl) (fun _ _ _ h => h) (Or.inl ⟨by rfl, ?yt7_6⟩) hS ?_
          case yt7_6 => intro wx hSw; (go_simp) <;> with_reducible rfl
          simp only [Act.put, List.setIfInBounds_toArray, List.set_cons_zero, List.set_cons_succ]
          refine wpAnyH_ready (rs := [7]) (by kernel_rfl) (by simp) ?_
          refine AllReadyH.cons rfl (fun K hK => ?_) AllReadyH.nil
          go_simp
          refine hK.out _ _ trivial (fun _ => ?_)
          clear hK K
          have hS := True.intro
          try simp only [Act.put, List.setIfInBounds_toArray, List.set_cons_zero, List.set_cons_succ]
          refine Go.Proofs.Ytnodofbpogcheaa.Wl.takeAt (i := 8) (d := some 46) (v := ?vt8_8) rfl (by rfl) (by kernel_rfl) (by kernel_rfl) (by kernel_rfl) (fun _ _ _ h => h) (Or.inl ⟨by rfl, ?yt8_8⟩) hS ?_
          case yt8_8 => intro wx hSw; (go_simp) <;> with_reducible rfl
          simp only [Act.put, List.setIfInBounds_toArray, List.set_cons_zero, List.set_cons_succ]
          refine wpAnyH_ready (rs := [9]) (by kernel_rfl) (by simp) ?_
          refine AllReadyH.cons rfl (fun K hK => ?_) AllReadyH.nil
          go_simp
          refine hK.out _ _ trivial (fun _ => ?_)
          clear hK K
          have hS := True.intro
          try simp only [Act.put, List.setIfInBounds_toArray, List.set_cons_zero, List.set_cons_succ]
          refine wpAnyH_ready (rs := [10]) (by kernel_rfl) (by simp) ?_
          refine AllReadyH.cons rfl (fun K hK => ?_) AllReadyH.nil
          rw [if_pos (by rfl)]
          refine Go.Proofs.Ytnodofbpogcheaa.Wl.wp_app (s := .tmp 39) (x := .tmp 47) (t := 25) (d := some 48) rfl rfl rfl rfl rfl hrun6 ?_
          try simp only [Act.put, List.setIfInBounds_toArray, List.set_cons_zero, List.set_cons_succ]
          refine hK.out _ _ trivial (fun _ => ?_)
          clear hK K
          have hS := True.intro
          try simp only [Act.put, List.setIfInBounds_toArray, List.set_cons_zero, List.set_cons_succ]
          refine Go.Proofs.Ytnodofbpogcheaa.Wl.takeAt (i := 11) (d := some 49) (v := ?vt9_11) rfl (by rfl) (by kernel_rfl) (by kernel_rfl) (by kernel_rfl) (fun _ _ _ h => h) (Or.inl ⟨by rfl, ?yt9_11⟩) hS ?_
          case yt9_11 => intro wx hSw; (go_simp) <;> with_reducible rfl
          simp only [Act.put, List.setIfInBounds_toArray, List.set_cons_zero, List.set_cons_succ]
          refine wpAnyH_ready (rs := [12]) (by kernel_rfl) (by simp) ?_
          refine AllReadyH.cons rfl (fun K hK => ?_) AllReadyH.nil
          go_simp
          refine hK.out _ _ trivial (fun _ => ?_)
          clear hK K
          have hS := True.intro
          try simp only [Act.put, List.setIfInBounds_toArray, List.set_cons_zero, List.set_cons_succ]
          refine wpAnyH_done (by kernel_rfl) ?_ _
          refine NoPanic.normal ?_
          obtain ⟨t5, g5⟩ := F5.out.1.1
          obtain ⟨ns, his⟩ := nu_inss g5 (by decide)
          have h5b := own_blk g5.own
          have n6 := N6.out
          have TS := tail_fin (V := V) R6.out n6 rfl B6.out (by have := B7.out.size; omega) (fun b h1 => by omega)
          have CK := hid (res_nu HK.out (n := 300) (b := w5.heap.size) (r := sl) (TS.1 (fun _ => nuF w5.heap.size sl 300) ⟨rfl, rfl, rfl, rfl, rfl⟩) n6 (by decide) (by decide) ns (TS.2.1 _ (by omega) _ e7) (TS.2.2 _ _ (fun b off e h0 => by have := h5b b off e h0; omega) (his.on B57.out)))
          rw [if_pos (by decide)] at CK
          have L6 := View.more B7.out B6.out
          have LW := hid (show Below w1.heap.size w1 (w6.setCell ⟨V, 3, none⟩ (.slice sv.a sv.n sv.c)) from Below.setCell (View.more BX.out.2.2.1 L6) (by show _ ≤ V; exact BX.out.2.2.2.2) _)
          have b0 : (w6.setCell ⟨V, 3, none⟩ (.slice sv.a sv.n sv.c)).cell? ⟨V, 0, none⟩ = some (.slice none 0 0) := by rw [World.cell?_setCell_other (h := ne_off (by decide))]; exact cell_on L6 BX.out.1.c0
          have b1 : (w6.setCell ⟨V, 3, none⟩ (.slice sv.a sv.n sv.c)).cell? ⟨V, 1, none⟩ = some (.slice none 0 0) := by rw [World.cell?_setCell_other (h := ne_off (by decide))]; exact cell_on L6 BX.out.1.c1
          have b2 : (w6.setCell ⟨V, 3, none⟩ (.slice sv.a sv.n sv.c)).cell? ⟨V, 2, none⟩ = some (.slice none 0 0) := by rw [World.cell?_setCell_other (h := ne_off (by decide))]; exact cell_on L6 BX.out.1.c2
          have b3 : (w6.setCell ⟨V, 3, none⟩ (.slice sv.a sv.n sv.c)).cell? ⟨V, 3, none⟩ = some (.slice sv.a sv.n sv.c) := cell_same hc9
          obtain ⟨wf, hwf⟩ : ∃ wf, w6.setCell ⟨V, 3, none⟩ (.slice sv.a sv.n sv.c) = wf := ⟨_, rfl⟩
          rw [hwf]
          rw [hwf] at b0 b1 b2 b3 LW
          rw [show w6.setCell ⟨V, 3, none⟩ (slv sv) = wf from hwf] at CK
          clear hwf TS L6 n6
          go_wp2_with (go_at_call 15; refine (CK.out _ (same _)).mono ?_; rintro e w5 ⟨rfl, hb5⟩; have B5 := hid hb5; clear hb5)
          go_ret
          exact ⟨rfl, View.more (View.more st1.out LW.out) B5.out⟩
        · rw [if_pos (by rfl)]
          refine Go.Proofs.Ytnodofbpogcheaa.Wl.wp_app (s := .tmp 40) (x := .tmp 42) (t := 35) (d := some 43) rfl rfl rfl rfl rfl hrun5 ?_
          try simp only [Act.put, List.setIfInBounds_toArray, List.set_cons_zero, List.set_cons_succ]
          refine hK.out _ _ trivial (fun _ => ?_)
          clear hK K
          have hS := True.intro
          try simp only [Act.put, List.setIfInBounds_toArray, List.set_cons_zero, List.set_cons_succ]
          refine Go.Proofs.Ytnodofbpogcheaa.Wl.takeAt (i := 6) (d := some 44) (v := ?vt10_6) rfl (by rfl) (by kernel_rfl) (by kernel_rfl) (by kernel_rfl) (fun _ _ _ h => h) (Or.inl ⟨by rfl, ?yt10_6⟩) hS ?_
          case yt10_6 => intro wx hSw; (go_simp) <;> with_reducible rfl
          simp only [Act.put, List.setIfInBounds_toArray, List.set_cons_zero, List.set_cons_succ]
          refine wpAnyH_ready (rs := [1, 7]) (by kernel_rfl) (by simp) ?_
          refine AllReadyH.cons rfl (fun K hK => ?_) (AllReadyH.cons rfl (fun K hK => ?_) AllReadyH.nil)
          · go_simp
            refine hK.out _ _ trivial (fun _ => ?_)
            clear hK K
            have hS := True.intro
            try simp only [Act.put, List.setIfInBounds_toArray, List.set_cons_zero, List.set_cons_succ]
            refine wpAnyH_ready (rs := [7]) (by kernel_rfl) (by simp) ?_
            refine AllReadyH.cons rfl (fun K hK => ?_) AllReadyH.nil
            go_simp
            refine hK.out _ _ trivial (fun _ => ?_)
            clear hK K
            have hS := True.intro
            try simp only [Act.put, List.setIfInBounds_toArray, List.set_cons_zero, List.set_cons_succ]
            refine Go.Proofs.Ytnodofbpogcheaa.Wl.takeAt (i := 8) (d := some 46) (v := ?vt11_8) rfl (by rfl) (by kernel_rfl) (by kernel_rfl) (by kernel_rfl) (fun _ _ _ h => h) (Or.inl ⟨by rfl, ?yt11_8⟩) hS ?_
            case yt11_8 => intro wx hSw; (go_simp) <;> with_reducible rfl
            simp only [Act.put, List.setIfInBounds_toArray, List.set_cons_zero, List.set_cons_succ]
            refine wpAnyH_ready (rs := [9]) (by kernel_rfl) (by simp) ?_
            refine AllReadyH.cons rfl (fun K hK => ?_) AllReadyH.nil
            go_simp
            refine hK.out _ _ trivial (fun _ => ?_)
            clear hK K
            have hS := True.intro
            try simp only [Act.put, List.setIfInBounds_toArray, List.set_cons_zero, List.set_cons_succ]
            refine wpAnyH_ready (rs := [10]) (by kernel_rfl) (by simp) ?_
            refine AllReadyH.cons rfl (fun K hK => ?_) AllReadyH.nil
            rw [if_pos (by rfl)]
            refine Go.Proofs.Ytnodofbpogcheaa.Wl.wp_app (s := .tmp 39) (x := .tmp 47) (t := 25) (d := some 48) rfl rfl rfl rfl rfl hrun6 ?_
            try simp only [Act.put, List.setIfInBounds_toArray, List.set_cons_zero, List.set_cons_succ]
            refine hK.out _ _ trivial (fun _ => ?_)
            clear hK K
            have hS := True.intro
            try simp only [Act.put, List.setIfInBounds_toArray, List.set_cons_zero, List.set_cons_succ]
            refine Go.Proofs.Ytnodofbpogcheaa.Wl.takeAt (i := 11) (d := some 49) (v := ?vt12_11) rfl (by rfl) (by kernel_rfl) (by kernel_rfl) (by kernel_rfl) (fun _ _ _ h => h) (Or.inl ⟨by rfl, ?yt12_11⟩) hS ?_
            case yt12_11 => intro wx hSw; (go_simp) <;> with_reducible rfl
            simp only [Act.put, List.setIfInBounds_toArray, List.set_cons_zero, List.set_cons_succ]
            refine wpAnyH_ready (rs := [12]) (by kernel_rfl) (by simp) ?_
            refine AllReadyH.cons rfl (fun K hK => ?_) AllReadyH.nil
            go_simp
            refine hK.out _ _ trivial (fun _ => ?_)
            clear hK K
            have hS := True.intro
            try simp only [Act.put, List.setIfInBounds_toArray, List.set_cons_zero, List.set_cons_succ]
            refine wpAnyH_done (by kernel_rfl) ?_ _
            refine NoPanic.normal ?_
            obtain ⟨t5, g5⟩ := F5.out.1.1
            obtain ⟨ns, his⟩ := nu_inss g5 (by decide)
            have h5b := own_blk g5.own
            have n6 := N6.out
            have TS := tail_fin (V := V) R6.out n6 rfl B6.out (by have := B7.out.size; omega) (fun b h1 => by omega)
            have CK := hid (res_nu HK.out (n := 300) (b := w5.heap.size) (r := sl) (TS.1 (fun _ => nuF w5.heap.size sl 300) ⟨rfl, rfl, rfl, rfl, rfl⟩) n6 (by decide) (by decide) ns (TS.2.1 _ (by omega) _ e7) (TS.2.2 _ _ (fun b off e h0 => by have := h5b b off e h0; omega) (his.on B57.out)))
            rw [if_pos (by decide)] at CK
            have L6 := View.more B7.out B6.out
            have LW := hid (show Below w1.heap.size w1 (w6.setCell ⟨V, 3, none⟩ (.slice sv.a sv.n sv.c)) from Below.setCell (View.more BX.out.2.2.1 L6) (by show _ ≤ V; exact BX.out.2.2.2.2) _)
            have b0 : (w6.setCell ⟨V, 3, none⟩ (.slice sv.a sv.n sv.c)).cell? ⟨V, 0, none⟩ = some (.slice none 0 0) := by rw [World.cell?_setCell_other (h := ne_off (by decide))]; exact cell_on L6 BX.out.1.c0
            have b1 : (w6.setCell ⟨V, 3, none⟩ (.slice sv.a sv.n sv.c)).cell? ⟨V, 1, none⟩ = some (.slice none 0 0) := by rw [World.cell?_setCell_other (h := ne_off (by decide))]; exact cell_on L6 BX.out.1.c1
            have b2 : (w6.setCell ⟨V, 3, none⟩ (.slice sv.a sv.n sv.c)).cell? ⟨V, 2, none⟩ = some (.slice none 0 0) := by rw [World.cell?_setCell_other (h := ne_off (by decide))]; exact cell_on L6 BX.out.1.c2
            have b3 : (w6.setCell ⟨V, 3, none⟩ (.slice sv.a sv.n sv.c)).cell? ⟨V, 3, none⟩ = some (.slice sv.a sv.n sv.c) := cell_same hc9
            obtain ⟨wf, hwf⟩ : ∃ wf, w6.setCell ⟨V, 3, none⟩ (.slice sv.a sv.n sv.c) = wf := ⟨_, rfl⟩
            rw [hwf]
            rw [hwf] at b0 b1 b2 b3 LW
            rw [show w6.setCell ⟨V, 3, none⟩ (slv sv) = wf from hwf] at CK
            clear hwf TS L6 n6
            go_wp2_with (go_at_call 15; refine (CK.out _ (same _)).mono ?_; rintro e w5 ⟨rfl, hb5⟩; have B5 := hid hb5; clear hb5)
            go_ret
            exact ⟨rfl, View.more (View.more st1.out LW.out) B5.out⟩
          · go_simp
            refine hK.out _ _ trivial (fun _ => ?_)
            clear hK K
            have hS := True.intro
            try simp only [Act.put, List.setIfInBounds_toArray, List.set_cons_zero, List.set_cons_succ]
            refine Go.Proofs.Ytnodofbpogcheaa.Wl.takeAt (i := 8) (d := some 46) (v := ?vt13_8) rfl (by rfl) (by kernel_rfl) (by kernel_rfl) (by kernel_rfl) (fun _ _ _ h => h) (Or.inl ⟨by rfl, ?yt13_8⟩) hS ?_
            case yt13_8 => intro wx hSw; (go_simp) <;> with_reducible rfl
            simp only [Act.put, List.setIfInBounds_toArray, List.set_cons_zero, List.set_cons_succ]
            refine wpAnyH_ready (rs := [1, 9]) (by kernel_rfl) (by simp) ?_
            refine AllReadyH.cons rfl (fun K hK => ?_) (AllReadyH.cons rfl (fun K hK => ?_) AllReadyH.nil)
            · go_simp
              refine hK.out _ _ trivial (fun _ => ?_)
              clear hK K
              have hS := True.intro
              try simp only [Act.put, List.setIfInBounds_toArray, List.set_cons_zero, List.set_cons_succ]
              refine wpAnyH_ready (rs := [9]) (by kernel_rfl) (by simp) ?_
              refine AllReadyH.cons rfl (fun K hK => ?_) AllReadyH.nil
              go_simp
              refine hK.out _ _ trivial (fun _ => ?_)
              clear hK K
              have hS := True.intro
              try simp only [Act.put, List.setIfInBounds_toArray, List.set_cons_zero, List.set_cons_succ]
              refine wpAnyH_ready (rs := [10]) (by kernel_rfl) (by simp) ?_
              refine AllReadyH.cons rfl (fun K hK => ?_) AllReadyH.nil
              rw [if_pos (by rfl)]
              refine Go.Proofs.Ytnodofbpogcheaa.Wl.wp_app (s := .tmp 39) (x := .tmp 47) (t := 25) (d := some 48) rfl rfl rfl rfl rfl hrun6 ?_
              try simp only [Act.put, List.setIfInBounds_toArray, List.set_cons_zero, List.set_cons_succ]
              refine hK.out _ _ trivial (fun _ => ?_)
              clear hK K
              have hS := True.intro
              try simp only [Act.put, List.setIfInBounds_toArray, List.set_cons_zero, List.set_cons_succ]
              refine Go.Proofs.Ytnodofbpogcheaa.Wl.takeAt (i := 11) (d := some 49) (v := ?vt14_11) rfl (by rfl) (by kernel_rfl) (by kernel_rfl) (by kernel_rfl) (fun _ _ _ h => h) (Or.inl ⟨by rfl, ?yt14_11⟩) hS ?_
              case yt14_11 => intro wx hSw; (go_simp) <;> with_reducible rfl
              simp only [Act.put, List.setIfInBounds_toArray, List.set_cons_zero, List.set_cons_succ]
              refine wpAnyH_ready (rs := [12]) (by kernel_rfl) (by simp) ?_
              refine AllReadyH.cons rfl (fun K hK => ?_) AllReadyH.nil
              go_simp
              refine hK.out _ _ trivial (fun _ => ?_)
              clear hK K
              have hS := True.intro
              try simp only [Act.put, List.setIfInBounds_toArray, List.set_cons_zero, List.set_cons_succ]
              refine wpAnyH_done (by kernel_rfl) ?_ _
              refine NoPanic.normal ?_
              obtain ⟨t5, g5⟩ := F5.out.1.1
              obtain ⟨ns, his⟩ := nu_inss g5 (by decide)
              have h5b := own_blk g5.own
              have n6 := N6.out
              have TS := tail_fin (V := V) R6.out n6 rfl B6.out (by have := B7.out.size; omega) (fun b h1 => by omega)
              have CK := hid (res_nu HK.out (n := 300) (b := w5.heap.size) (r := sl) (TS.1 (fun _ => nuF w5.heap.size sl 300) ⟨rfl, rfl, rfl, rfl, rfl⟩) n6 (by decide) (by decide) ns (TS.2.1 _ (by omega) _ e7) (TS.2.2 _ _ (fun b off e h0 => by have := h5b b off e h0; omega) (his.on B57.out)))
              rw [if_pos (by decide)] at CK
              have L6 := View.more B7.out B6.out
              have LW := hid (show Below w1.heap.size w1 (w6.setCell ⟨V, 3, none⟩ (.slice sv.a sv.n sv.c)) from Below.setCell (View.more BX.out.2.2.1 L6) (by show _ ≤ V; exact BX.out.2.2.2.2) _)
              have b0 : (w6.setCell ⟨V, 3, none⟩ (.slice sv.a sv.n sv.c)).cell? ⟨V, 0, none⟩ = some (.slice none 0 0) := by rw [World.cell?_setCell_other (h := ne_off (by decide))]; exact cell_on L6 BX.out.1.c0
              have b1 : (w6.setCell ⟨V, 3, none⟩ (.slice sv.a sv.n sv.c)).cell? ⟨V, 1, none⟩ = some (.slice none 0 0) := by rw [World.cell?_setCell_other (h := ne_off (by decide))]; exact cell_on L6 BX.out.1.c1
              have b2 : (w6.setCell ⟨V, 3, none⟩ (.slice sv.a sv.n sv.c)).cell? ⟨V, 2, none⟩ = some (.slice none 0 0) := by rw [World.cell?_setCell_other (h := ne_off (by decide))]; exact cell_on L6 BX.out.1.c2
              have b3 : (w6.setCell ⟨V, 3, none⟩ (.slice sv.a sv.n sv.c)).cell? ⟨V, 3, none⟩ = some (.slice sv.a sv.n sv.c) := cell_same hc9
              obtain ⟨wf, hwf⟩ : ∃ wf, w6.setCell ⟨V, 3, none⟩ (.slice sv.a sv.n sv.c) = wf := ⟨_, rfl⟩
              rw [hwf]
              rw [hwf] at b0 b1 b2 b3 LW
              rw [show w6.setCell ⟨V, 3, none⟩ (slv sv) = wf from hwf] at CK
              clear hwf TS L6 n6
              go_wp2_with (go_at_call 15; refine (CK.out _ (same _)).mono ?_; rintro e w5 ⟨rfl, hb5⟩; have B5 := hid hb5; clear hb5)
              go_ret
              exact ⟨rfl, View.more (View.more st1.out LW.out) B5.out⟩
            · go_simp
              refine hK.out _ _ trivial (fun _ => ?_)
              clear hK K
              have hS := True.intro
              try simp only [Act.put, List.setIfInBounds_toArray, List.set_cons_zero, List.set_cons_succ]
              refine wpAnyH_ready (rs := [1]) (by kernel_rfl) (by simp) ?_
              refine AllReadyH.cons rfl (fun K hK => ?_) AllReadyH.nil
              go_simp
              refine hK.out _ _ trivial (fun _ => ?_)
              clear hK K
              have hS := True.intro
              try simp only [Act.put, List.setIfInBounds_toArray, List.set_cons_zero, List.set_cons_succ]
              refine wpAnyH_ready (rs := [10]) (by kernel_rfl) (by simp) ?_
              refine AllReadyH.cons rfl (fun K hK => ?_) AllReadyH.nil
              rw [if_pos (by rfl)]
              refine Go.Proofs.Ytnodofbpogcheaa.Wl.wp_app (s := .tmp 39) (x := .tmp 47) (t := 25) (d := some 48) rfl rfl rfl rfl rfl hrun6 ?_
              try simp only [Act.put, List.setIfInBounds_toArray, List.set_cons_zero, List.set_cons_succ]
              refine hK.out _ _ trivial (fun _ => ?_)
              clear hK K
              have hS := True.intro
              try simp only [Act.put, List.setIfInBounds_toArray, List.set_cons_zero, List.set_cons_succ]
              refine Go.Proofs.Ytnodofbpogcheaa.Wl.takeAt (i := 11) (d := some 49) (v := ?vt15_11) rfl (by rfl) (by kernel_rfl) (by kernel_rfl) (by kernel_rfl) (fun _ _ _ h => h) (Or.inl ⟨by rfl, ?yt15_11⟩) hS ?_
              case yt15_11 => intro wx hSw; (go_simp) <;> with_reducible rfl
              simp only [Act.put, List.setIfInBounds_toArray, List.set_cons_zero, List.set_cons_succ]
              refine wpAnyH_ready (rs := [12]) (by kernel_rfl) (by simp) ?_
              refine AllReadyH.cons rfl (fun K hK => ?_) AllReadyH.nil
              go_simp
              refine hK.out _ _ trivial (fun _ => ?_)
              clear hK K
              have hS := True.intro
              try simp only [Act.put, List.setIfInBounds_toArray, List.set_cons_zero, List.set_cons_succ]
              refine wpAnyH_done (by kernel_rfl) ?_ _
              refine NoPanic.normal ?_
              obtain ⟨t5, g5⟩ := F5.out.1.1
              obtain ⟨ns, his⟩ := nu_inss g5 (by decide)
              have h5b := own_blk g5.own
              have n6 := N6.out
              have TS := tail_fin (V := V) R6.out n6 rfl B6.out (by have := B7.out.size; omega) (fun b h1 => by omega)
              have CK := hid (res_nu HK.out (n := 300) (b := w5.heap.size) (r := sl) (TS.1 (fun _ => nuF w5.heap.size sl 300) ⟨rfl, rfl, rfl, rfl, rfl⟩) n6 (by decide) (by decide) ns (TS.2.1 _ (by omega) _ e7) (TS.2.2 _ _ (fun b off e h0 => by have := h5b b off e h0; omega) (his.on B57.out)))
              rw [if_pos (by decide)] at CK
              have L6 := View.more B7.out B6.out
              have LW := hid (show Below w1.heap.size w1 (w6.setCell ⟨V, 3, none⟩ (.slice sv.a sv.n sv.c)) from Below.setCell (View.more BX.out.2.2.1 L6) (by show _ ≤ V; exact BX.out.2.2.2.2) _)
              have b0 : (w6.setCell ⟨V, 3, none⟩ (.slice sv.a sv.n sv.c)).cell? ⟨V, 0, none⟩ = some (.slice none 0 0) := by rw [World.cell?_setCell_other (h := ne_off (by decide))]; exact cell_on L6 BX.out.1.c0
              have b1 : (w6.setCell ⟨V, 3, none⟩ (.slice sv.a sv.n sv.c)).cell? ⟨V, 1, none⟩ = some (.slice none 0 0) := by rw [World.cell?_setCell_other (h := ne_off (by decide))]; exact cell_on L6 BX.out.1.c1
              have b2 : (w6.setCell ⟨V, 3, none⟩ (.slice sv.a sv.n sv.c)).cell? ⟨V, 2, none⟩ = some (.slice none 0 0) := by rw [World.cell?_setCell_other (h := ne_off (by decide))]; exact cell_on L6 BX.out.1.c2
              have b3 : (w6.setCell ⟨V, 3, none⟩ (.slice sv.a sv.n sv.c)).cell? ⟨V, 3, none⟩ = some (.slice sv.a sv.n sv.c) := cell_same hc9
              obtain ⟨wf, hwf⟩ : ∃ wf, w6.setCell ⟨V, 3, none⟩ (.slice sv.a sv.n sv.c) = wf := ⟨_, rfl⟩
              rw [hwf]
              rw [hwf] at b0 b1 b2 b3 LW
              rw [show w6.setCell ⟨V, 3, none⟩ (slv sv) = wf from hwf] at CK
              clear hwf TS L6 n6
              go_wp2_with (go_at_call 15; refine (CK.out _ (same _)).mono ?_; rintro e w5 ⟨rfl, hb5⟩; have B5 := hid hb5; clear hb5)
              go_ret
              exact ⟨rfl, View.more (View.more st1.out LW.out) B5.out⟩

set_option maxRecDepth 10000 in
set_option maxHeartbeats 8000000 in
theorem lim5_true (which : Int) (w : World) (hck : ChkC) (hfi : ∀ w, Calls Try.prog 13 #[] w fun e w' => e = .returned (.bool true) ∧ Below w.heap.size w w') (a0 : Nat) (h1 : bits .and .i64 which 255 = (a0 : Int)) (h2 : (a0 : Int).tmod 6 = 5) :
    Calls Try.prog 4 #[.int .i64 which, .bool true] w fun e w' => e = .returned (.bool true) ∧ Below w.heap.size w w' := by
  have HF := hid hfi
  have HK := hid hck
  clear hfi hck
  go_enter Try.func4, Try.ntmps4
  go_wp2_with (go_at_call 13; refine (HF.out _).mono ?_; rintro e w1 ⟨rfl, hb⟩; have st1 := hid hb; clear hb)
  clear h1 h2
  obtain ⟨V, hV⟩ : ∃ V, w1.heap.size = V := ⟨_, rfl⟩
  rw [hV]
  obtain ⟨W0, hW0⟩ : ∃ W0, ((w1.alloc (.cells #[.slice none 0 0, .slice none 0 0, .slice none 0 0, .slice none 0 0] 27)).alloc (.cells #[.int .i64 29, .int .i64 0, .int .i64 0, .int .i64 0, .int .i64 0, .slice none 0 0, .slice none 0 0] 39)).alloc (.cells #[.slice (some ⟨V + 1, 0, none⟩) 1 1] 37) = W0 := ⟨_, rfl⟩
  rw [hW0]
  have BX := hid (show MCell4 W0 V ∧ (∀ i, W0.frozen? ⟨V, i, none⟩ = false) ∧ Below w1.heap.size w1 W0 ∧ V + 2 < W0.heap.size ∧ w1.heap.size ≤ V from by
    subst hV hW0
    exact ⟨⟨cell_on (new (new (same _) _) _) (by simp), cell_on (new (new (same _) _) _) (by simp), cell_on (new (new (same _) _) _) (by simp), cell_on (new (new (same _) _) _) (by simp)⟩, fun i => by rw [World.frozen?_alloc_old _ _ _ (by show w1.heap.size ≠ _; simp; omega), World.frozen?_alloc_old _ _ _ (by show w1.heap.size ≠ _; simp)]; exact World.frozen?_alloc_new _ _ _ i, new (new (new (same _) _) _) _, by simp, Nat.le_refl _⟩)
  have BD := hid (show BodyAt W0 V from by subst hV hW0; exact bodyAt_new w1)
  clear hW0
  go_loopw [12, 13] (fun lv i wr => ∃ k : Nat, k ≤ 300 ∧ i = .int .i64 k ∧ ∃ (vs : Sl) (t : Nat → Unit), lv = .slice vs.a vs.n vs.c ∧ Grow W0.heap.size 39 7 k wr (slv vs) (csN 301) (noEl W0.heap.size) noFp t ∧ Below W0.heap.size W0 wr) (fun _ i _ => 300 - (intOf i).toNat)
  case atStart => exact ⟨0, Nat.zero_le _, rfl, ⟨none, 0, 0⟩, fun _ => (), rfl, ⟨World.ownsRow_nil _ _ _ _, fun i hi => by omega, fun i hi => by omega, fun i j hi => by omega⟩, same _⟩
  case round =>
    obtain ⟨k, hk, rfl, vs, t, rfl, hg, hb⟩ := hrel
    by_cases hlt : k < 300
    · have hz := hb.size
      obtain ⟨v5, w4, hrun, hown4, hgr4, hat4⟩ := app_gen (w2 := wr) underIn infoIn rfl (by decide) (by decide) hg.own (by omega) hz #[.int .i64 1, .int .i64 1, .int .i64 ((k : Int) + 1), .int .i64 0, .int .i64 (k : Int), .slice none 0 0, .slice none 0 0] rfl (by intro x hx; simp at hx; rcases hx with rfl | rfl | rfl | rfl | rfl | rfl | rfl <;> rfl) 35
      obtain ⟨sv, rfl⟩ := owns_slv hown4
      have G4 := hid (hg.step (a := ()) (stabN _) hz (same _) trivial (fun (b : Nat) (hb : False) => hb.elim) (by rw [nu_row (by omega)]; exact hown4) hgr4 hat4)
      have B4 := hid (show Below W0.heap.size W0 w4 from (new hb _).grown hgr4 (by simp; omega) (fun b hbb => (hg.own.lt b hbb).1))
      clear hg hb hown4 hgr4 hat4
      go_wp2_with (at_builtin; refine wpList_app (.tmp 31) (.tmp 36) (by rfl) (by rfl) (by rfl) (by rfl) (by rfl) hrun ?_)
      go_round
      case rel => obtain ⟨t2, g2⟩ := G4.out; exact ⟨k + 1, by omega, by go_num, sv, t2, rfl, g2, B4.out⟩
      case measure => simp [intOf]; omega
    · obtain rfl : k = 300 := by omega
      have hVl := BX.out.2.2.2.1
      have LW0 := hid hb
      have HB := hid hb
      have hk0 : wr.cell? ⟨V, 0, none⟩ = some (.slice none 0 0) := cell_on hb BX.out.1.c0
      have hk1 : wr.cell? ⟨V, 1, none⟩ = some (.slice none 0 0) := cell_on hb BX.out.1.c1
      have hk2 : wr.cell? ⟨V, 2, none⟩ = some (.slice none 0 0) := cell_on hb BX.out.1.c2
      have hk3 : wr.cell? ⟨V, 3, none⟩ = some (.slice none 0 0) := cell_on hb BX.out.1.c3
      have hkD : wr.drew.cell? ⟨V, 3, none⟩ = some (.slice none 0 0) := hk3
      have hzw := hb.size
      have fzV : wr.frozen? ⟨V, 3, none⟩ = false := by rw [hb.frozen (by show V < _; omega)]; exact BX.out.2.1 3
      have LOW := hid (View.more BX.out.2.2.1 hb)
      have BDw := hid (BD.out.on hb)
      obtain ⟨v5, w5, hrun5, hown5, hgr5, hat5⟩ := app_gen (w2 := wr.drew) underIn infoIn rfl (by decide) (by decide) (owns_on (Below.drew (same wr)) hg.own) (by omega) hzw #[.int .i64 29, .int .i64 0, .int .i64 0, .int .i64 0, .int .i64 0, .slice none 0 0, .slice none 0 0] rfl (by intro x hx; simp at hx; rcases hx with rfl | rfl | rfl | rfl | rfl | rfl | rfl <;> rfl) 35
      obtain ⟨sl, rfl⟩ := owns_slv hown5
      replace hrun5 : (Builtin.append_ #[35, 35] 35 #[slv vs, .slice (some ⟨wr.heap.size, 0, none⟩) 1 1]).run Try.prog (World.alloc wr (.cells #[.int .i64 29, .int .i64 0, .int .i64 0, .int .i64 0, .int .i64 0, .slice none 0 0, .slice none 0 0] 39)).drew = .ok (slv sl) w5 := hrun5
      have G5 := hid (hg.step (a := ()) (stabN _) hzw (Below.drew (same wr)) trivial (fun (b : Nat) (hb : False) => hb.elim) (by rw [nu_end (by omega)]; exact hown5) hgr5 hat5)
      have bV : ∀ b, (slv vs).ownBlock = some b → W0.heap.size ≤ b := fun b hbb => (hg.own.lt b hbb).1
      have B5 := hid (show Below W0.heap.size W0 w5 from (new (show Below W0.heap.size W0 wr.drew from Below.drew hb) _).grown hgr5 (by simp; omega) bV)
      have zz5 : wr.heap.size ≤ w5.heap.size := by have := hgr5.size; simp at this; omega
      have hc5 : w5.cell? ⟨V, 3, none⟩ = some (.slice none 0 0) := cell_on B5.out BX.out.1.c3
      have hc4 : (World.alloc wr (.cells #[.int .i64 29, .int .i64 0, .int .i64 0, .int .i64 0, .int .i64 0, .slice none 0 0, .slice none 0 0] 39)).drew.cell? ⟨V, 3, none⟩ = some (.slice none 0 0) := cell_on (Below.drew (new (same wr) _)) hk3
      obtain ⟨w7, hw7⟩ : ∃ w7, World.alloc w5 (.cells #[.slice sl.a sl.n sl.c] 37) = w7 := ⟨_, rfl⟩
      have B7 := hid (show Below W0.heap.size W0 w7 by rw [← hw7]; exact new B5.out _)
      have B57 := hid (show Below w5.heap.size w5 w7 by rw [← hw7]; exact new (same _) _)
      have e7 : w7.cell? ⟨w5.heap.size, 0, none⟩ = some (.slice sl.a sl.n sl.c) := by rw [← hw7]; simp
      have hc7 : w7.cell? ⟨V, 3, none⟩ = some (.slice none 0 0) := cell_on B57.out hc5
      have F5 := hid (And.intro (And.intro G5.out B5.out) (And.intro e7 bV))
      clear hg hb hown5 hgr5 hat5 bV
      obtain ⟨v6, w6, hrun6, hown6, hgr6, hat6⟩ := app_gen (w2 := w7) underF infoF rfl (by decide) (by decide) (World.ownsRow_nil w7 W0.heap.size _ _) (by omega) B7.out.size #[.string ⟨#[102]⟩, .bool false, .slice none 0 0, .int .i64 0, .slice (some ⟨w5.heap.size, 0, none⟩) 1 1] rfl (by intro x hx; simp at hx; rcases hx with rfl | rfl | rfl | rfl | rfl <;> rfl) 25
      obtain ⟨sv, rfl⟩ := owns_slv hown6
      have B6 := hid (show Below w7.heap.size w7 w6 from (new (same w7) _).grown hgr6 (by simp) (fun b hb => by cases hb))
      have hc8 : (World.alloc w7 (.cells #[.string ⟨#[102]⟩, .bool false, .slice none 0 0, .int .i64 0, .slice (some ⟨w5.heap.size, 0, none⟩) 1 1] 33)).cell? ⟨V, 3, none⟩ = some (.slice none 0 0) := cell_on (new (same w7) _) hc7
      have hc9 : w6.cell? ⟨V, 3, none⟩ = some (.slice none 0 0) := cell_on B6.out hc7
      have fz9 : w6.frozen? ⟨V, 3, none⟩ = false := by rw [B6.out.frozen (by have := B7.out.size; show V < _; omega), B7.out.frozen (by show V < _; omega)]; exact BX.out.2.1 3
      have N6 := hid (show sv.n = 1 from own_n hown6 (by decide))
      have R6 := hid hown6
      clear hown6 hgr6 hat6
      go_wp2_with fail
      refine wp_region_noPanic ?_
      refine wp_region_held_drew (S := fun _ => True) (by kernel_rfl) trivial (fun hS => ?_)
      refine Go.Proofs.Ytnodofbpogcheaa.Wl.takeAt (i := 0) (d := some 38) (v := ?vt1_0) rfl (by rfl) (by kernel_rfl) (by kernel_rfl) (by kernel_rfl) (fun _ _ _ h => h) (Or.inl ⟨by rfl, ?yt1_0⟩) hS ?_
      case yt1_0 => intro wx hSw; (go_simp) <;> with_reducible rfl
      simp only [Act.put, List.setIfInBounds_toArray, List.set_cons_zero, List.set_cons_succ]
      refine Go.Proofs.Ytnodofbpogcheaa.Wl.takeAt (i := 2) (d := some 40) (v := ?vt2_2) rfl (by rfl) (by kernel_rfl) (by kernel_rfl) (by kernel_rfl) (fun _ _ _ h => h) (Or.inl ⟨by rfl, ?yt2_2⟩) hS ?_
      case yt2_2 => intro wx hSw; (go_simp) <;> with_reducible rfl
      simp only [Act.put, List.setIfInBounds_toArray, List.set_cons_zero, List.set_cons_succ]
      refine Go.Proofs.Ytnodofbpogcheaa.Wl.takeAt (i := 3) (d := some 41) (v := ?vt3_3) rfl (by rfl) (by kernel_rfl) (by kernel_rfl) (by kernel_rfl) (fun _ _ _ h => h) (Or.inl ⟨by rfl, ?yt3_3⟩) hS ?_
      case yt3_3 => intro wx hSw; (go_simp) <;> with_reducible rfl
      simp only [Act.put, List.setIfInBounds_toArray, List.set_cons_zero, List.set_cons_succ]
      refine wpAnyH_ready (rs := [1, 4]) (by kernel_rfl) (by simp) ?_
      refine AllReadyH.cons rfl (fun K hK => ?_) (AllReadyH.cons rfl (fun K hK => ?_) AllReadyH.nil)
      · go_simp
        refine hK.out _ _ trivial (fun _ => ?_)
        clear hK K
        have hS := True.intro
        try simp only [Act.put, List.setIfInBounds_toArray, List.set_cons_zero, List.set_cons_succ]
        refine wpAnyH_ready (rs := [4]) (by kernel_rfl) (by simp) ?_
        refine AllReadyH.cons rfl (fun K hK => ?_) AllReadyH.nil
        go_simp
        refine hK.out _ _ trivial (fun _ => ?_)
        clear hK K
        have hS := True.intro
        try simp only [Act.put, List.setIfInBounds_toArray, List.set_cons_zero, List.set_cons_succ]
        refine wpAnyH_ready (rs := [5]) (by kernel_rfl) (by simp) ?_
        refine AllReadyH.cons rfl (fun K hK => ?_) AllReadyH.nil
        rw [if_pos (by rfl)]
        refine Go.Proofs.Ytnodofbpogcheaa.Wl.wp_app (s := .tmp 40) (x := .tmp 42) (t := 35) (d := some 43) rfl rfl rfl rfl rfl hrun5 ?_
        try simp only [Act.put, List.setIfInBounds_toArray, List.set_cons_zero, List.set_cons_succ]
        refine hK.out _ _ trivial (fun _ => ?_)
        clear hK K
        have hS := True.intro
        try simp only [Act.put, List.setIfInBounds_toArray, List.set_cons_zero, List.set_cons_succ]
        refine Go.Proofs.Ytnodofbpogcheaa.Wl.takeAt (i := 6) (d := some 44) (v := ?vt4_6) rfl (by rfl) (by kernel_rfl) (by kernel_rfl) (by kernel_rfl) (fun _ _ _ h => h) (Or.inl ⟨by rfl, ?yt4_6⟩) hS ?_
        case yt4_6 => intro wx hSw; (go_simp) <;> with_reducible rfl
        simp only [Act.put, List.setIfInBounds_toArray, List.set_cons_zero, List.set_cons_succ]
        refine wpAnyH_ready (rs := [7]) (by kernel_rfl) (by simp) ?_
        refine AllReadyH.cons rfl (fun K hK => ?_) AllReadyH.nil
        go_simp
        refine hK.out _ _ trivial (fun _ => ?_)
        clear hK K
        have hS := True.intro
        try simp only [Act.put, List.setIfInBounds_toArray, List.set_cons_zero, List.set_cons_succ]
        refine Go.Proofs.Ytnodofbpogcheaa.Wl.takeAt (i := 8) (d := some 46) (v := ?vt5_8) rfl (by rfl) (by kernel_rfl) (by kernel_rfl) (by kernel_rfl) (fun _ _ _ h => h) (Or.inl ⟨by rfl, ?yt5_8⟩) hS ?_
        case yt5_8 => intro wx hSw; (go_simp) <;> with_reducible rfl
        simp only [Act.put, List.setIfInBounds_toArray, List.set_cons_zero, List.set_cons_succ]
        refine wpAnyH_ready (rs := [9]) (by kernel_rfl) (by simp) ?_
        refine AllReadyH.cons rfl (fun K hK => ?_) AllReadyH.nil
        go_simp
        refine hK.out _ _ trivial (fun _ => ?_)
        clear hK K
        have hS := True.intro
        try simp only [Act.put, List.setIfInBounds_toArray, List.set_cons_zero, List.set_cons_succ]
        refine wpAnyH_ready (rs := [10]) (by kernel_rfl) (by simp) ?_
        refine AllReadyH.cons rfl (fun K hK => ?_) AllReadyH.nil
        rw [if_pos (by rfl)]
        refine Go.Proofs.Ytnodofbpogcheaa.Wl.wp_app (s := .tmp 39) (x := .tmp 47) (t := 25) (d := some 48) rfl rfl rfl rfl rfl hrun6 ?_
        try simp only [Act.put, List.setIfInBounds_toArray, List.set_cons_zero, List.set_cons_succ]
        refine hK.out _ _ trivial (fun _ => ?_)
        clear hK K
        have hS := True.intro
        try simp only [Act.put, List.setIfInBounds_toArray, List.set_cons_zero, List.set_cons_succ]
        refine Go.Proofs.Ytnodofbpogcheaa.Wl.takeAt (i := 11) (d := some 49) (v := ?vt6_11) rfl (by rfl) (by kernel_rfl) (by kernel_rfl) (by kernel_rfl) (fun _ _ _ h => h) (Or.inl ⟨by rfl, ?yt6_11⟩) hS ?_
        case yt6_11 => intro wx hSw; (go_simp) <;> with_reducible rfl
        simp only [Act.put, List.setIfInBounds_toArray, List.set_cons_zero, List.set_cons_succ]
        refine wpAnyH_ready (rs := [12]) (by kernel_rfl) (by simp) ?_
        refine AllReadyH.cons rfl (fun K hK => ?_) AllReadyH.nil
        go_simp
        refine hK.out _ _ trivial (fun _ => ?_)
        clear hK K
        have hS := True.intro
        try simp only [Act.put, List.setIfInBounds_toArray, List.set_cons_zero, List.set_cons_succ]
        refine wpAnyH_done (by kernel_rfl) ?_ _
        refine NoPanic.normal ?_
        obtain ⟨t5, g5⟩ := F5.out.1.1
        obtain ⟨ns, his⟩ := nu_inss g5 (by decide)
        have h5b := own_blk g5.own
        have n6 := N6.out
        have TS := tail_fin (V := V) R6.out n6 rfl B6.out (by have := B7.out.size; omega) (fun b h1 => by omega)
        have CK := hid (res_nu HK.out (n := 301) (b := w5.heap.size) (r := sl) (TS.1 (fun _ => nuF w5.heap.size sl 301) ⟨rfl, rfl, rfl, rfl, rfl⟩) n6 (by decide) (by decide) ns (TS.2.1 _ (by omega) _ e7) (TS.2.2 _ _ (fun b off e h0 => by have := h5b b off e h0; omega) (his.on B57.out)))
        rw [if_neg (by decide)] at CK
        have L6 := View.more B7.out B6.out
        have LW := hid (show Below w1.heap.size w1 (w6.setCell ⟨V, 3, none⟩ (.slice sv.a sv.n sv.c)) from Below.setCell (View.more BX.out.2.2.1 L6) (by show _ ≤ V; exact BX.out.2.2.2.2) _)
        have b0 : (w6.setCell ⟨V, 3, none⟩ (.slice sv.a sv.n sv.c)).cell? ⟨V, 0, none⟩ = some (.slice none 0 0) := by rw [World.cell?_setCell_other (h := ne_off (by decide))]; exact cell_on L6 BX.out.1.c0
        have b1 : (w6.setCell ⟨V, 3, none⟩ (.slice sv.a sv.n sv.c)).cell? ⟨V, 1, none⟩ = some (.slice none 0 0) := by rw [World.cell?_setCell_other (h := ne_off (by decide))]; exact cell_on L6 BX.out.1.c1
        have b2 : (w6.setCell ⟨V, 3, none⟩ (.slice sv.a sv.n sv.c)).cell? ⟨V, 2, none⟩ = some (.slice none 0 0) := by rw [World.cell?_setCell_other (h := ne_off (by decide))]; exact cell_on L6 BX.out.1.c2
        have b3 : (w6.setCell ⟨V, 3, none⟩ (.slice sv.a sv.n sv.c)).cell? ⟨V, 3, none⟩ = some (.slice sv.a sv.n sv.c) := cell_same hc9
        obtain ⟨wf, hwf⟩ : ∃ wf, w6.setCell ⟨V, 3, none⟩ (.slice sv.a sv.n sv.c) = wf := ⟨_, rfl⟩
        rw [hwf]
        rw [hwf] at b0 b1 b2 b3 LW
        rw [show w6.setCell ⟨V, 3, none⟩ (slv sv) = wf from hwf] at CK
        clear hwf TS L6 n6
        go_wp2_with (go_at_call 15; refine (CK.out _ (same _)).mono ?_; rintro e w5 ⟨rfl, hb5⟩; have B5 := hid hb5; clear hb5)
        go_ret
        exact ⟨rfl, View.more (View.more st1.out LW.out) B5.out⟩
      · go_simp
        refine hK.out _ _ trivial (fun _ => ?_)
        clear hK K
        have hS := True.intro
        try simp only [Act.put, List.setIfInBounds_toArray, List.set_cons_zero, List.set_cons_succ]
        refine wpAnyH_ready (rs := [1, 5]) (by kernel_rfl) (by simp) ?_
        refine AllReadyH.cons rfl (fun K hK => ?_) (AllReadyH.cons rfl (fun K hK => ?_) AllReadyH.nil)
        · go_simp
          refine hK.out _ _ trivial (fun _ => ?_)
          clear hK K
          have hS := True.intro
          try simp only [Act.put, List.setIfInBounds_toArray, List.set_cons_zero, List.set_cons_succ]
          refine wpAnyH_ready (rs := [5]) (by kernel_rfl) (by simp) ?_
          refine AllReadyH.cons rfl (fun K hK => ?_) AllReadyH.nil
          rw [if_pos (by rfl)]
          refine Go.Proofs.Ytnodofbpogcheaa.Wl.wp_app (s := .tmp 40) (x := .tmp 42) (t := 35) (d := some 43) rfl rfl rfl rfl rfl hrun5 ?_
          try simp only [Act.put, List.setIfInBounds_toArray, List.set_cons_zero, List.set_cons_succ]
          refine hK.out _ _ trivial (fun _ => ?_)
          clear hK K
          have hS := True.intro
          try simp only [Act.put, List.setIfInBounds_toArray, List.set_cons_zero, List.set_cons_succ]
          refine Go.Proofs.Ytnodofbpogcheaa.Wl.takeAt (i := 6) (d := some 44) (v := ?vt7_6) rfl (by rfl) (by kernel_rfl) (by kernel_rfl) (by kernel_rfl) (fun _ _ _ h => h) (Or.inl ⟨by rfl, ?yt7_6⟩) hS ?_
          case yt7_6 => intro wx hSw; (go_simp) <;> with_reducible rfl
          simp only [Act.put, List.setIfInBounds_toArray, List.set_cons_zero, List.set_cons_succ]
          refine wpAnyH_ready (rs := [7]) (by kernel_rfl) (by simp) ?_
          refine AllReadyH.cons rfl (fun K hK => ?_) AllReadyH.nil
          go_simp
          refine hK.out _ _ trivial (fun _ => ?_)
          clear hK K
          have hS := True.intro
          try simp only [Act.put, List.setIfInBounds_toArray, List.set_cons_zero, List.set_cons_succ]
          refine Go.Proofs.Ytnodofbpogcheaa.Wl.takeAt (i := 8) (d := some 46) (v := ?vt8_8) rfl (by rfl) (by kernel_rfl) (by kernel_rfl) (by kernel_rfl) (fun _ _ _ h => h) (Or.inl ⟨by rfl, ?yt8_8⟩) hS ?_
          case yt8_8 => intro wx hSw; (go_simp) <;> with_reducible rfl
          simp only [Act.put, List.setIfInBounds_toArray, List.set_cons_zero, List.set_cons_succ]
          refine wpAnyH_ready (rs := [9]) (by kernel_rfl) (by simp) ?_
          refine AllReadyH.cons rfl (fun K hK => ?_) AllReadyH.nil
          go_simp
          refine hK.out _ _ trivial (fun _ => ?_)
          clear hK K
          have hS := True.intro
          try simp only [Act.put, List.setIfInBounds_toArray, List.set_cons_zero, List.set_cons_succ]
          refine wpAnyH_ready (rs := [10]) (by kernel_rfl) (by simp) ?_
          refine AllReadyH.cons rfl (fun K hK => ?_) AllReadyH.nil
          rw [if_pos (by rfl)]
          refine Go.Proofs.Ytnodofbpogcheaa.Wl.wp_app (s := .tmp 39) (x := .tmp 47) (t := 25) (d := some 48) rfl rfl rfl rfl rfl hrun6 ?_
          try simp only [Act.put, List.setIfInBounds_toArray, List.set_cons_zero, List.set_cons_succ]
          refine hK.out _ _ trivial (fun _ => ?_)
          clear hK K
          have hS := True.intro
          try simp only [Act.put, List.setIfInBounds_toArray, List.set_cons_zero, List.set_cons_succ]
          refine Go.Proofs.Ytnodofbpogcheaa.Wl.takeAt (i := 11) (d := some 49) (v := ?vt9_11) rfl (by rfl) (by kernel_rfl) (by kernel_rfl) (by kernel_rfl) (fun _ _ _ h => h) (Or.inl ⟨by rfl, ?yt9_11⟩) hS ?_
          case yt9_11 => intro wx hSw; (go_simp) <;> with_reducible rfl
          simp only [Act.put, List.setIfInBounds_toArray, List.set_cons_zero, List.set_cons_succ]
          refine wpAnyH_ready (rs := [12]) (by kernel_rfl) (by simp) ?_
          refine AllReadyH.cons rfl (fun K hK => ?_) AllReadyH.nil
          go_simp
          refine hK.out _ _ trivial (fun _ => ?_)
          clear hK K
          have hS := True.intro
          try simp only [Act.put, List.setIfInBounds_toArray, List.set_cons_zero, List.set_cons_succ]
          refine wpAnyH_done (by kernel_rfl) ?_ _
          refine NoPanic.normal ?_
          obtain ⟨t5, g5⟩ := F5.out.1.1
          obtain ⟨ns, his⟩ := nu_inss g5 (by decide)
          have h5b := own_blk g5.own
          have n6 := N6.out
          have TS := tail_fin (V := V) R6.out n6 rfl B6.out (by have := B7.out.size; omega) (fun b h1 => by omega)
          have CK := hid (res_nu HK.out (n := 301) (b := w5.heap.size) (r := sl) (TS.1 (fun _ => nuF w5.heap.size sl 301) ⟨rfl, rfl, rfl, rfl, rfl⟩) n6 (by decide) (by decide) ns (TS.2.1 _ (by omega) _ e7) (TS.2.2 _ _ (fun b off e h0 => by have := h5b b off e h0; omega) (his.on B57.out)))
          rw [if_neg (by decide)] at CK
          have L6 := View.more B7.out B6.out
          have LW := hid (show Below w1.heap.size w1 (w6.setCell ⟨V, 3, none⟩ (.slice sv.a sv.n sv.c)) from Below.setCell (View.more BX.out.2.2.1 L6) (by show _ ≤ V; exact BX.out.2.2.2.2) _)
          have b0 : (w6.setCell ⟨V, 3, none⟩ (.slice sv.a sv.n sv.c)).cell? ⟨V, 0, none⟩ = some (.slice none 0 0) := by rw [World.cell?_setCell_other (h := ne_off (by decide))]; exact cell_on L6 BX.out.1.c0
          have b1 : (w6.setCell ⟨V, 3, none⟩ (.slice sv.a sv.n sv.c)).cell? ⟨V, 1, none⟩ = some (.slice none 0 0) := by rw [World.cell?_setCell_other (h := ne_off (by decide))]; exact cell_on L6 BX.out.1.c1
          have b2 : (w6.setCell ⟨V, 3, none⟩ (.slice sv.a sv.n sv.c)).cell? ⟨V, 2, none⟩ = some (.slice none 0 0) := by rw [World.cell?_setCell_other (h := ne_off (by decide))]; exact cell_on L6 BX.out.1.c2
          have b3 : (w6.setCell ⟨V, 3, none⟩ (.slice sv.a sv.n sv.c)).cell? ⟨V, 3, none⟩ = some (.slice sv.a sv.n sv.c) := cell_same hc9
          obtain ⟨wf, hwf⟩ : ∃ wf, w6.setCell ⟨V, 3, none⟩ (.slice sv.a sv.n sv.c) = wf := ⟨_, rfl⟩
          rw [hwf]
          rw [hwf] at b0 b1 b2 b3 LW
          rw [show w6.setCell ⟨V, 3, none⟩ (slv sv) = wf from hwf] at CK
          clear hwf TS L6 n6
          go_wp2_with (go_at_call 15; refine (CK.out _ (same _)).mono ?_; rintro e w5 ⟨rfl, hb5⟩; have B5 := hid hb5; clear hb5)
          go_ret
          exact ⟨rfl, View.more (View.more st1.out LW.out) B5.out⟩
        · rw [if_pos (by rfl)]
          refine Go.Proofs.Ytnodofbpogcheaa.Wl.wp_app (s := .tmp 40) (x := .tmp 42) (t := 35) (d := some 43) rfl rfl rfl rfl rfl hrun5 ?_
          try simp only [Act.put, List.setIfInBounds_toArray, List.set_cons_zero, List.set_cons_succ]
          refine hK.out _ _ trivial (fun _ => ?_)
          clear hK K
          have hS := True.intro
          try simp only [Act.put, List.setIfInBounds_toArray, List.set_cons_zero, List.set_cons_succ]
          refine Go.Proofs.Ytnodofbpogcheaa.Wl.takeAt (i := 6) (d := some 44) (v := ?vt10_6) rfl (by rfl) (by kernel_rfl) (by kernel_rfl) (by kernel_rfl) (fun _ _ _ h => h) (Or.inl ⟨by rfl, ?yt10_6⟩) hS ?_
          case yt10_6 => intro wx hSw; (go_simp) <;> with_reducible rfl
          simp only [Act.put, List.setIfInBounds_toArray, List.set_cons_zero, List.set_cons_succ]
          refine wpAnyH_ready (rs := [1, 7]) (by kernel_rfl) (by simp) ?_
          refine AllReadyH.cons rfl (fun K hK => ?_) (AllReadyH.cons rfl (fun K hK => ?_) AllReadyH.nil)
          · go_simp
            refine hK.out _ _ trivial (fun _ => ?_)
            clear hK K
            have hS := True.intro
            try simp only [Act.put, List.setIfInBounds_toArray, List.set_cons_zero, List.set_cons_succ]
            refine wpAnyH_ready (rs := [7]) (by kernel_rfl) (by simp) ?_
            refine AllReadyH.cons rfl (fun K hK => ?_) AllReadyH.nil
            go_simp
            refine hK.out _ _ trivial (fun _ => ?_)
            clear hK K
            have hS := True.intro
            try simp only [Act.put, List.setIfInBounds_toArray, List.set_cons_zero, List.set_cons_succ]
            refine Go.Proofs.Ytnodofbpogcheaa.Wl.takeAt (i := 8) (d := some 46) (v := ?vt11_8) rfl (by rfl) (by kernel_rfl) (by kernel_rfl) (by kernel_rfl) (fun _ _ _ h => h) (Or.inl ⟨by rfl, ?yt11_8⟩) hS ?_
            case yt11_8 => intro wx hSw; (go_simp) <;> with_reducible rfl
            simp only [Act.put, List.setIfInBounds_toArray, List.set_cons_zero, List.set_cons_succ]
            refine wpAnyH_ready (rs := [9]) (by kernel_rfl) (by simp) ?_
            refine AllReadyH.cons rfl (fun K hK => ?_) AllReadyH.nil
            go_simp
            refine hK.out _ _ trivial (fun _ => ?_)
            clear hK K
            have hS := True.intro
            try simp only [Act.put, List.setIfInBounds_toArray, List.set_cons_zero, List.set_cons_succ]
            refine wpAnyH_ready (rs := [10]) (by kernel_rfl) (by simp) ?_
            refine AllReadyH.cons rfl (fun K hK => ?_) AllReadyH.nil
            rw [if_pos (by rfl)]
            refine Go.Proofs.Ytnodofbpogcheaa.Wl.wp_app (s := .tmp 39) (x := .tmp 47) (t := 25) (d := some 48) rfl rfl rfl rfl rfl hrun6 ?_
            try simp only [Act.put, List.setIfInBounds_toArray, List.set_cons_zero, List.set_cons_succ]
            refine hK.out _ _ trivial (fun _ => ?_)
            clear hK K
            have hS := True.intro
            try simp only [Act.put, List.setIfInBounds_toArray, List.set_cons_zero, List.set_cons_succ]
            refine Go.Proofs.Ytnodofbpogcheaa.Wl.takeAt (i := 11) (d := some 49) (v := ?vt12_11) rfl (by rfl) (by kernel_rfl) (by kernel_rfl) (by kernel_rfl) (fun _ _ _ h => h) (Or.inl ⟨by rfl, ?yt12_11⟩) hS ?_
            case yt12_11 => intro wx hSw; (go_simp) <;> with_reducible rfl
            simp only [Act.put, List.setIfInBounds_toArray, List.set_cons_zero, List.set_cons_succ]
            refine wpAnyH_ready (rs := [12]) (by kernel_rfl) (by simp) ?_
            refine AllReadyH.cons rfl (fun K hK => ?_) AllReadyH.nil
            go_simp
            refine hK.out _ _ trivial (fun _ => ?_)
            clear hK K
            have hS := True.intro
            try simp only [Act.put, List.setIfInBounds_toArray, List.set_cons_zero, List.set_cons_succ]
            refine wpAnyH_done (by kernel_rfl) ?_ _
            refine NoPanic.normal ?_
            obtain ⟨t5, g5⟩ := F5.out.1.1
            obtain ⟨ns, his⟩ := nu_inss g5 (by decide)
            have h5b := own_blk g5.own
            have n6 := N6.out
            have TS := tail_fin (V := V) R6.out n6 rfl B6.out (by have := B7.out.size; omega) (fun b h1 => by omega)
            have CK := hid (res_nu HK.out (n := 301) (b := w5.heap.size) (r := sl) (TS.1 (fun _ => nuF w5.heap.size sl 301) ⟨rfl, rfl, rfl, rfl, rfl⟩) n6 (by decide) (by decide) ns (TS.2.1 _ (by omega) _ e7) (TS.2.2 _ _ (fun b off e h0 => by have := h5b b off e h0; omega) (his.on B57.out)))
            rw [if_neg (by decide)] at CK
            have L6 := View.more B7.out B6.out
            have LW := hid (show Below w1.heap.size w1 (w6.setCell ⟨V, 3, none⟩ (.slice sv.a sv.n sv.c)) from Below.setCell (View.more BX.out.2.2.1 L6) (by show _ ≤ V; exact BX.out.2.2.2.2) _)
            have b0 : (w6.setCell ⟨V, 3, none⟩ (.slice sv.a sv.n sv.c)).cell? ⟨V, 0, none⟩ = some (.slice none 0 0) := by rw [World.cell?_setCell_other (h := ne_off (by decide))]; exact cell_on L6 BX.out.1.c0
            have b1 : (w6.setCell ⟨V, 3, none⟩ (.slice sv.a sv.n sv.c)).cell? ⟨V, 1, none⟩ = some (.slice none 0 0) := by rw [World.cell?_setCell_other (h := ne_off (by decide))]; exact cell_on L6 BX.out.1.c1
            have b2 : (w6.setCell ⟨V, 3, none⟩ (.slice sv.a sv.n sv.c)).cell? ⟨V, 2, none⟩ = some (.slice none 0 0) := by rw [World.cell?_setCell_other (h := ne_off (by decide))]; exact cell_on L6 BX.out.1.c2
            have b3 : (w6.setCell ⟨V, 3, none⟩ (.slice sv.a sv.n sv.c)).cell? ⟨V, 3, none⟩ = some (.slice sv.a sv.n sv.c) := cell_same hc9
            obtain ⟨wf, hwf⟩ : ∃ wf, w6.setCell ⟨V, 3, none⟩ (.slice sv.a sv.n sv.c) = wf := ⟨_, rfl⟩
            rw [hwf]
            rw [hwf] at b0 b1 b2 b3 LW
            rw [show w6.setCell ⟨V, 3, none⟩ (slv sv) = wf from hwf] at CK
            clear hwf TS L6 n6
            go_wp2_with (go_at_call 15; refine (CK.out _ (same _)).mono ?_; rintro e w5 ⟨rfl, hb5⟩; have B5 := hid hb5; clear hb5)
            go_ret
            exact ⟨rfl, View.more (View.more st1.out LW.out) B5.out⟩
          · go_simp
            refine hK.out _ _ trivial (fun _ => ?_)
            clear hK K
            have hS := True.intro
            try simp only [Act.put, List.setIfInBounds_toArray, List.set_cons_zero, List.set_cons_succ]
            refine Go.Proofs.Ytnodofbpogcheaa.Wl.takeAt (i := 8) (d := some 46) (v := ?vt13_8) rfl (by rfl) (by kernel_rfl) (by kernel_rfl) (by kernel_rfl) (fun _ _ _ h => h) (Or.inl ⟨by rfl, ?yt13_8⟩) hS ?_
            case yt13_8 => intro wx hSw; (go_simp) <;> with_reducible rfl
            simp only [Act.put, List.setIfInBounds_toArray, List.set_cons_zero, List.set_cons_succ]
            refine wpAnyH_ready (rs := [1, 9]) (by kernel_rfl) (by simp) ?_
            refine AllReadyH.cons rfl (fun K hK => ?_) (AllReadyH.cons rfl (fun K hK => ?_) AllReadyH.nil)
            · go_simp
              refine hK.out _ _ trivial (fun _ => ?_)
              clear hK K
              have hS := True.intro
              try simp only [Act.put, List.setIfInBounds_toArray, List.set_cons_zero, List.set_cons_succ]
              refine wpAnyH_ready (rs := [9]) (by kernel_rfl) (by simp) ?_
              refine AllReadyH.cons rfl (fun K hK => ?_) AllReadyH.nil
              go_simp
              refine hK.out _ _ trivial (fun _ => ?_)
              clear hK K
              have hS := True.intro
              try simp only [Act.put, List.setIfInBounds_toArray, List.set_cons_zero, List.set_cons_succ]
              refine wpAnyH_ready (rs := [10]) (by kernel_rfl) (by simp) ?_
              refine AllReadyH.cons rfl (fun K hK => ?_) AllReadyH.nil
              rw [if_pos (by rfl)]
              refine Go.Proofs.Ytnodofbpogcheaa.Wl.wp_app (s := .tmp 39) (x := .tmp 47) (t := 25) (d := some 48) rfl rfl rfl rfl rfl hrun6 ?_
              try simp only [Act.put, List.setIfInBounds_toArray, List.set_cons_zero, List.set_cons_succ]
              refine hK.out _ _ trivial (fun _ => ?_)
              clear hK K
              have hS := True.intro
              try simp only [Act.put, List.setIfInBounds_toArray, List.set_cons_zero, List.set_cons_succ]
              refine Go.Proofs.Ytnodofbpogcheaa.Wl.takeAt (i := 11) (d := some 49) (v := ?vt14_11) rfl (by rfl) (by kernel_rfl) (by kernel_rfl) (by kernel_rfl) (fun _ _ _ h => h) (Or.inl ⟨by rfl, ?yt14_11⟩) hS ?_
              case yt14_11 => intro wx hSw; (go_simp) <;> with_reducible rfl
              simp only [Act.put, List.setIfInBounds_toArray, List.set_cons_zero, List.set_cons_succ]
              refine wpAnyH_ready (rs := [12]) (by kernel_rfl) (by simp) ?_
              refine AllReadyH.cons rfl (fun K hK => ?_) AllReadyH.nil
              go_simp
              refine hK.out _ _ trivial (fun _ => ?_)
              clear hK K
              have hS := True.intro
              try simp only [Act.put, List.setIfInBounds_toArray, List.set_cons_zero, List.set_cons_succ]
              refine wpAnyH_done (by kernel_rfl) ?_ _
              refine NoPanic.normal ?_
              obtain ⟨t5, g5⟩ := F5.out.1.1
              obtain ⟨ns, his⟩ := nu_inss g5 (by decide)
              have h5b := own_blk g5.own
              have n6 := N6.out
              have TS := tail_fin (V := V) R6.out n6 rfl B6.out (by have := B7.out.size; omega) (fun b h1 => by omega)
              have CK := hid (res_nu HK.out (n := 301) (b := w5.heap.size) (r := sl) (TS.1 (fun _ => nuF w5.heap.size sl 301) ⟨rfl, rfl, rfl, rfl, rfl⟩) n6 (by decide) (by decide) ns (TS.2.1 _ (by omega) _ e7) (TS.2.2 _ _ (fun b off e h0 => by have := h5b b off e h0; omega) (his.on B57.out)))
              rw [if_neg (by decide)] at CK
              have L6 := View.more B7.out B6.out
              have LW := hid (show Below w1.heap.size w1 (w6.setCell ⟨V, 3, none⟩ (.slice sv.a sv.n sv.c)) from Below.setCell (View.more BX.out.2.2.1 L6) (by show _ ≤ V; exact BX.out.2.2.2.2) _)
              have b0 : (w6.setCell ⟨V, 3, none⟩ (.slice sv.a sv.n sv.c)).cell? ⟨V, 0, none⟩ = some (.slice none 0 0) := by rw [World.cell?_setCell_other (h := ne_off (by decide))]; exact cell_on L6 BX.out.1.c0
              have b1 : (w6.setCell ⟨V, 3, none⟩ (.slice sv.a sv.n sv.c)).cell? ⟨V, 1, none⟩ = some (.slice none 0 0) := by rw [World.cell?_setCell_other (h := ne_off (by decide))]; exact cell_on L6 BX.out.1.c1
              have b2 : (w6.setCell ⟨V, 3, none⟩ (.slice sv.a sv.n sv.c)).cell? ⟨V, 2, none⟩ = some (.slice none 0 0) := by rw [World.cell?_setCell_other (h := ne_off (by decide))]; exact cell_on L6 BX.out.1.c2
              have b3 : (w6.setCell ⟨V, 3, none⟩ (.slice sv.a sv.n sv.c)).cell? ⟨V, 3, none⟩ = some (.slice sv.a sv.n sv.c) := cell_same hc9
              obtain ⟨wf, hwf⟩ : ∃ wf, w6.setCell ⟨V, 3, none⟩ (.slice sv.a sv.n sv.c) = wf := ⟨_, rfl⟩
              rw [hwf]
              rw [hwf] at b0 b1 b2 b3 LW
              rw [show w6.setCell ⟨V, 3, none⟩ (slv sv) = wf from hwf] at CK
              clear hwf TS L6 n6
              go_wp2_with (go_at_call 15; refine (CK.out _ (same _)).mono ?_; rintro e w5 ⟨rfl, hb5⟩; have B5 := hid hb5; clear hb5)
              go_ret
              exact ⟨rfl, View.more (View.more st1.out LW.out) B5.out⟩
            · go_simp
              refine hK.out _ _ trivial (fun _ => ?_)
              clear hK K
              have hS := True.intro
              try simp only [Act.put, List.setIfInBounds_toArray, List.set_cons_zero, List.set_cons_succ]
              refine wpAnyH_ready (rs := [1]) (by kernel_rfl) (by simp) ?_
              refine AllReadyH.cons rfl (fun K hK => ?_) AllReadyH.nil
              go_simp
              refine hK.out _ _ trivial (fun _ => ?_)
              clear hK K
              have hS := True.intro
              try simp only [Act.put, List.setIfInBounds_toArray, List.set_cons_zero, List.set_cons_succ]
              refine wpAnyH_ready (rs := [10]) (by kernel_rfl) (by simp) ?_
              refine AllReadyH.cons rfl (fun K hK => ?_) AllReadyH.nil
              rw [if_pos (by rfl)]
              refine Go.Proofs.Ytnodofbpogcheaa.Wl.wp_app (s := .tmp 39) (x := .tmp 47) (t := 25) (d := some 48) rfl rfl rfl rfl rfl hrun6 ?_
              try simp only [Act.put, List.setIfInBounds_toArray, List.set_cons_zero, List.set_cons_succ]
              refine hK.out _ _ trivial (fun _ => ?_)
              clear hK K
              have hS := True.intro
              try simp only [Act.put, List.setIfInBounds_toArray, List.set_cons_zero, List.set_cons_succ]
              refine Go.Proofs.Ytnodofbpogcheaa.Wl.takeAt (i := 11) (d := some 49) (v := ?vt15_11) rfl (by rfl) (by kernel_rfl) (by kernel_rfl) (by kernel_rfl) (fun _ _ _ h => h) (Or.inl ⟨by rfl, ?yt15_11⟩) hS ?_
              case yt15_11 => intro wx hSw; (go_simp) <;> with_reducible rfl
              simp only [Act.put, List.setIfInBounds_toArray, List.set_cons_zero, List.set_cons_succ]
              refine wpAnyH_ready (rs := [12]) (by kernel_rfl) (by simp) ?_
              refine AllReadyH.cons rfl (fun K hK => ?_) AllReadyH.nil
              go_simp
              refine hK.out _ _ trivial (fun _ => ?_)
              clear hK K
              have hS := True.intro
              try simp only [Act.put, List.setIfInBounds_toArray, List.set_cons_zero, List.set_cons_succ]
              refine wpAnyH_done (by kernel_rfl) ?_ _
              refine NoPanic.normal ?_
              obtain ⟨t5, g5⟩ := F5.out.1.1
              obtain ⟨ns, his⟩ := nu_inss g5 (by decide)
              have h5b := own_blk g5.own
              have n6 := N6.out
              have TS := tail_fin (V := V) R6.out n6 rfl B6.out (by have := B7.out.size; omega) (fun b h1 => by omega)
              have CK := hid (res_nu HK.out (n := 301) (b := w5.heap.size) (r := sl) (TS.1 (fun _ => nuF w5.heap.size sl 301) ⟨rfl, rfl, rfl, rfl, rfl⟩) n6 (by decide) (by decide) ns (TS.2.1 _ (by omega) _ e7) (TS.2.2 _ _ (fun b off e h0 => by have := h5b b off e h0; omega) (his.on B57.out)))
              rw [if_neg (by decide)] at CK
              have L6 := View.more B7.out B6.out
              have LW := hid (show Below w1.heap.size w1 (w6.setCell ⟨V, 3, none⟩ (.slice sv.a sv.n sv.c)) from Below.setCell (View.more BX.out.2.2.1 L6) (by show _ ≤ V; exact BX.out.2.2.2.2) _)
              have b0 : (w6.setCell ⟨V, 3, none⟩ (.slice sv.a sv.n sv.c)).cell? ⟨V, 0, none⟩ = some (.slice none 0 0) := by rw [World.cell?_setCell_other (h := ne_off (by decide))]; exact cell_on L6 BX.out.1.c0
              have b1 : (w6.setCell ⟨V, 3, none⟩ (.slice sv.a sv.n sv.c)).cell? ⟨V, 1, none⟩ = some (.slice none 0 0) := by rw [World.cell?_setCell_other (h := ne_off (by decide))]; exact cell_on L6 BX.out.1.c1
              have b2 : (w6.setCell ⟨V, 3, none⟩ (.slice sv.a sv.n sv.c)).cell? ⟨V, 2, none⟩ = some (.slice none 0 0) := by rw [World.cell?_setCell_other (h := ne_off (by decide))]; exact cell_on L6 BX.out.1.c2
              have b3 : (w6.setCell ⟨V, 3, none⟩ (.slice sv.a sv.n sv.c)).cell? ⟨V, 3, none⟩ = some (.slice sv.a sv.n sv.c) := cell_same hc9
              obtain ⟨wf, hwf⟩ : ∃ wf, w6.setCell ⟨V, 3, none⟩ (.slice sv.a sv.n sv.c) = wf := ⟨_, rfl⟩
              rw [hwf]
              rw [hwf] at b0 b1 b2 b3 LW
              rw [show w6.setCell ⟨V, 3, none⟩ (slv sv) = wf from hwf] at CK
              clear hwf TS L6 n6
              go_wp2_with (go_at_call 15; refine (CK.out _ (same _)).mono ?_; rintro e w5 ⟨rfl, hb5⟩; have B5 := hid hb5; clear hb5)
              go_ret
              exact ⟨rfl, View.more (View.more st1.out LW.out) B5.out⟩

end Go.Proofs.Ytnodofbpogcheaa.Wf
