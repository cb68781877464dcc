/-
  By the document: plnref3.Under, walked.
-/
import Derived.Test.YtahjippocejphaaDmm
import Derived.Test.YtahjippocejphaaDml
import Derived.Test.YtahjippocejphaaFloY
namespace Go.Proofs.Ytahjippocejphaa.Dm
open Go.RowKit View Rd Copy Num Ty Srt Go.Proofs.Ytahjippocejphaa.Flo Go.Proofs.Ytahjippocejphaa.Lt

set_option linter.unusedVariables false

set_option maxRecDepth 10000 in
set_option maxHeartbeats 2000000 in
theorem under_ref (F : FV) (w : World) (hF : In w F) (hl : Light F) : Calls Try.prog 32 #[F.val] w fun e w' => UnderGives F w e w' := by
  have HF := hid hF
  have HL := hid hl
  have gb := hl.blk
  have hmk := run_make_row' (P := Try.prog) 56 30 (.slice none 0 0) 24 underlying56 info30 rfl .i64 .i64 F.blk.n (by omega) (by omega)
  clear hF hl
  go_enter Try.func32, Try.ntmps32
  go_wp2_with fail
  clear hmk
  obtain ⟨w1, hw1⟩ : ∃ w1, (w.alloc (.cells (fcells F) 33)).alloc (.cells (madeCells #[.slice none 0 0] F.blk.n) 30) = w1 := ⟨_, rfl⟩
  obtain ⟨M, hM⟩ : ∃ M, w.heap.size + 1 = M := ⟨_, rfl⟩
  have B1 := hid (show Below w.heap.size w w1 by rw [← hw1]; exact new (new (same w) _) _)
  have P1 := hid (show Pv w1 M F.blk.n (fun _ => ⟨none, 0, 0⟩) (fun _ => []) by
    rw [← hw1, ← hM]
    refine ⟨?_, fun i hi => by simp; exact World.ownsRow_nil _ _ _ _, fun i j _ _ _ g h => by simp [Value.ownBlock] at h⟩
    have := World.rowIs_made (w.alloc (.cells (fcells F) 33)) (.slice none 0 0) F.blk.n 30
    simpa using this)
  have FA1 := hid (show FuncAt w1 w.heap.size F by rw [← hw1]; exact (FuncAt.alloc w F).on (new (same _) _))
  have Z1 := hid (show w1.heap.size = w.heap.size + 2 by rw [← hw1]; simp)
  simp only [hw1, hM]
  clear hw1
  obtain ⟨c0, c1, c2, c3, c4⟩ := FA1.out
  go_wp2_with fail
  refine (over_ref F _ (HF.out.on B1.out) HL.out).mono ?_
  rintro e w2 ⟨go, ov, rfl, hro, hov, hgo, hb2⟩
  have RO := hid hro
  have OV := hid hov
  have P2 := hid (P1.out.on hb2)
  have B2 := hid (View.more B1.out hb2)
  have gol := hro.lt
  have z1 := Z1.out
  have z2 := hb2.size
  clear hro hov hb2 c0 c1 c2 c3 c4
  go_wp2_with fail
  go_loopw [5] (fun iv wr => ∃ (k : Nat) (R : Nat → Sl), k ≤ F.blk.n ∧ iv = .int .i64 k ∧ Pv wr M F.blk.n R (undL ov k) ∧ (∀ i, i < F.blk.n → ∀ g, (Sl.val (R i)).ownBlock = some g → w2.heap.size ≤ g) ∧ Ro wr go F.blk.n ov ∧ w2.heap.size ≤ wr.heap.size ∧ Below w.heap.size w wr) (fun iv _ => F.blk.n - (intOf iv).toNat)
  case atStart => exact ⟨0, _, Nat.zero_le _, rfl, P2.out.congr (fun i _ => by simp [undL]), fun i _ g h => by simp [Value.ownBlock] at h, RO.out, Nat.le_refl _, B2.out⟩
  case round =>
    clear P2 RO B2 P1 FA1
    obtain ⟨k, R, hk, rfl, hp, hfar, hro, hsz, hbl⟩ := hrel
    have HS := hid (And.intro hp (And.intro hfar (And.intro hro hbl)))
    by_cases lk : k < F.blk.n
    · have i1 := int_at (g := go) (c := F.blk.n) lk
      have p1 := hro.cell k lk
      rcases overIs_cases OV.out lk with hm | ⟨a, han, ha⟩
      · rw [hm] at p1
        have HM := hid hm
        clear hp hfar hro hbl hm
        go_wp2_with fail
        go_round
        case rel => exact ⟨k + 1, R, by omega, by go_num, HS.out.1.congr (fun i _ => by rw [undL_next, HM.out, if_neg (by omega)]; simp), HS.out.2.1, HS.out.2.2.1, hsz, HS.out.2.2.2⟩
        case measure => simp [intOf]; omega
      · rw [ha] at p1
        have t1 : decide ((0 : Int) ≤ (a : Int)) = true := by simp
        have HA := hid ha
        have i2 := row_at (M := M) han
        have p2 := hp.row.cell han
        have z2' := hp.row.frozen a
        have hml := hp.row.lt
        have hul := undL_le ov k a
        have hcell := p1
        have hstep := undL_next ov k
        have hrow := i2
        have FIN0 := hid (show ∀ (w2' : World) (s2 : Sl), w2'.ownsRow (M + 1) 3 1 (Sl.val s2) (ints (undL ov k a) ++ [(k : Int)]).length ((ints (undL ov k a) ++ [(k : Int)]).map (Value.int .i64)) → (wr.drew.alloc (.cells #[.int .i64 k] 3)).grownBy w2' (Sl.val (R a)).ownBlock → ((Sl.val s2).ownBlock = (Sl.val (R a)).ownBlock ∨ (Sl.val s2).ownBlock = some (wr.drew.heap.size + 1)) → ∃ (k' : Nat) (R : Nat → Sl), k' ≤ F.blk.n ∧ Value.int .i64 ((k : Int) + 1) = .int .i64 k' ∧ Pv (w2'.setCell ⟨M, a, none⟩ (Sl.val s2)) M F.blk.n R (undL ov k') ∧ (∀ i, i < F.blk.n → ∀ g, (Sl.val (R i)).ownBlock = some g → w2.heap.size ≤ g) ∧ Ro (w2'.setCell ⟨M, a, none⟩ (Sl.val s2)) go F.blk.n ov ∧ w2.heap.size ≤ (w2'.setCell ⟨M, a, none⟩ (Sl.val s2)).heap.size ∧ Below w.heap.size w (w2'.setCell ⟨M, a, none⟩ (Sl.val s2)) from fun w3 s2 o1 o2 o3 => by
          have hP := (HS.out.1.on (Below.drew (same wr))).step han o1 o2 o3
          have hz3 := o2.size
          simp only [World.size_alloc] at hz3
          have hz4 : wr.heap.size + 1 ≤ w3.heap.size := hz3
          have hk3 : ∀ q, q < wr.heap.size → some q ≠ (Sl.val (R a)).ownBlock → w3.heap[q]? = wr.heap[q]? := fun q h1 h2 => by rw [o2.block q (by show _ < (wr.drew.alloc _).heap.size; simp; omega) h2]; exact Below.heap_alloc _ _ _ h1
          refine ⟨k + 1, _, by omega, by go_num, hP.congr (fun i _ => ?_), fun i hi g hg => ?_, ?_, by simp; omega, ((new (Below.drew HS.out.2.2.2) _).grown o2 (by simp; have := HS.out.2.2.2.size; omega) (fun q hq => by have := ((HS.out.1.own a han).lt q hq).1; omega)).setCell (by show _ ≤ M; omega) _⟩
          · rw [undL_next, HA.out]
            by_cases e : i = a
            · subst e; simp
            · rw [if_neg e, if_neg (by omega)]; simp
          · by_cases e : i = a
            · simp only [if_pos e] at hg
              rcases o3 with h | h
              · rw [h] at hg; exact HS.out.2.1 a han g hg
              · rw [h] at hg; have := Option.some.inj hg; have : wr.heap.size + 1 = g := this; omega
            · simp only [if_neg e] at hg; exact HS.out.2.1 i hi g hg
          · refine (HS.out.2.2.1.at_block (hk3 go (by omega) (fun e => by have := HS.out.2.1 a han go e.symm; omega))).setOther (by show go ≠ M; omega) _)
        clear hp hfar hro hbl ha
        obtain ⟨i0, hi, hz0, hz1, hz2x⟩ := info_parts info3
        obtain ⟨v2, w3, hrun, hown2, hgr2, _, hat2⟩ := run_append_own_at (P := Try.prog) (wr.drew.alloc (.cells #[.int .i64 k] 3)) (M + 1) 30 30 3 i0 (.int .i64 0) 1 8 underlying30 hi hz0 hz1 hz2x rfl (by decide) (.slice (R a).a (R a).n (R a).c) _ _ ((owns_on (Below.drew (same _)) (HS.out.1.own a han)).alloc _) ⟨wr.heap.size, 0, none⟩ 1 1 [.int .i64 k] rfl (cell_one_new wr.drew _ _) (by intro u hu; simp at hu; subst hu; rfl) (by simp only [maxLen]; simp; omega) (by simp; omega) (by show _ ≤ (wr.drew.alloc _).heap.size; simp; omega)
        obtain ⟨s2, rfl⟩ := owns_sl hown2
        have hk3 : w3.heap[M]? = (wr.drew.alloc (.cells #[.int .i64 k] 3)).heap[M]? := hgr2.block _ (by show _ < (wr.drew.alloc _).heap.size; simp; omega) (fun e => by have := ((HS.out.1.own a han).lt _ e.symm).1; omega)
        have hr2 : w3.rowIs M 30 F.blk.n (fun i => Sl.val (R i)) := World.rowIs.of_block (World.rowIs.alloc (w := wr.drew) (HS.out.1.row.of_block rfl) (.cells #[.int .i64 k] 3)) hk3
        have hrc2 := hr2.cell han
        have hrf2 := hr2.frozen a
        have hS0 : wr.drew.cell? ⟨go, k, none⟩ = some (.int .i64 a) := hcell
        have hS1 : (wr.drew.alloc (.cells #[.int .i64 k] 3)).cell? ⟨go, k, none⟩ = some (.int .i64 a) := cell_on (new (same _) _) hS0
        have hS2 : w3.cell? ⟨go, k, none⟩ = some (.int .i64 a) := by
          rw [World.cell?_of_block (w := wr.drew.alloc (.cells #[.int .i64 k] 3)) (hgr2.block go (by show _ < (wr.drew.alloc _).heap.size; simp; omega) (fun e => by have := HS.out.2.1 a han go e.symm; omega))]
          exact hS1
        have hS3 : (w3.setCell ⟨M, a, none⟩ (.slice s2.a s2.n s2.c)).cell? ⟨go, k, none⟩ = some (.int .i64 a) := cell_other (fun e => by have := congrArg Addr.block e; simp at this; omega) hS2
        have hown3 : w3.ownsRow (M + 1) 3 1 (Sl.val s2) (ints (undL ov k a) ++ [(k : Int)]).length ((ints (undL ov k a) ++ [(k : Int)]).map (Value.int .i64)) := by simpa using hown2
        have hat3 : (Sl.val s2).ownBlock = (Sl.val (R a)).ownBlock ∨ (Sl.val s2).ownBlock = some (wr.drew.heap.size + 1) := by simpa using hat2
        have FIN := hid (FIN0.out w3 s2 hown3 hgr2 hat3)
        have hrc := p2
        have hrf := z2'
        clear hown2 hown3 hgr2 hat2 hat3 hk3 hr2 hi hz0 hz1 hz2x FIN0
        go_wp2_with fail
        refine wp_region_noPanic ?_
        refine wp_region_held_drew (S := fun wx => wx.cell? ⟨go, k, none⟩ = some (.int .i64 a)) (by kernel_rfl) hS0 (fun hS => ?_)
        refine takeAt (i := 0) (d := some 23) (v := ?v0) rfl (by rfl) (by kernel_rfl) (by kernel_rfl) (by kernel_rfl) (fun _ _ _ h => h) (Or.inl ⟨by rfl, ?y0⟩) hS ?_
        case y0 => intro wx hSw; (go_simp) <;> with_reducible rfl
        simp only [Act.put, List.setIfInBounds_toArray, List.set_cons_zero, List.set_cons_succ]
        refine takeAt (i := 1) (d := some 24) (v := ?v1) rfl (by rfl) (by kernel_rfl) (by kernel_rfl) (by kernel_rfl) (fun _ _ _ h => h) (Or.inl ⟨by rfl, ?y1⟩) hS ?_
        case y1 => intro wx hSw; (go_simp) <;> with_reducible rfl
        simp only [Act.put, List.setIfInBounds_toArray, List.set_cons_zero, List.set_cons_succ]
        refine takeAt (i := 2) (d := some 25) (v := ?v2) rfl (by rfl) (by kernel_rfl) (by kernel_rfl) (by kernel_rfl) (fun _ _ _ h => h) (Or.inl ⟨by rfl, ?y2⟩) hS ?_
        case y2 => intro wx hSw; (go_simp) <;> with_reducible rfl
        simp only [Act.put, List.setIfInBounds_toArray, List.set_cons_zero, List.set_cons_succ]
        refine takeAt (i := 3) (d := some 26) (v := ?v3) rfl (by rfl) (by kernel_rfl) (by kernel_rfl) (by kernel_rfl) (fun _ _ _ h => h) (Or.inl ⟨by rfl, ?y3⟩) hS ?_
        case y3 => intro wx hSw; (go_simp) <;> with_reducible rfl
        simp only [Act.put, List.setIfInBounds_toArray, List.set_cons_zero, List.set_cons_succ]
        refine takeAt (i := 4) (d := some 27) (v := ?v4) rfl (by rfl) (by kernel_rfl) (by kernel_rfl) (by kernel_rfl) (fun _ _ _ h => h) (Or.inl ⟨by rfl, ?y4⟩) hS ?_
        case y4 => intro wx hSw; (go_simp) <;> with_reducible rfl
        simp only [Act.put, List.setIfInBounds_toArray, List.set_cons_zero, List.set_cons_succ]
        refine takeAt (i := 5) (d := some 28) (v := ?v5) rfl (by rfl) (by kernel_rfl) (by kernel_rfl) (by kernel_rfl) (fun _ _ _ h => h) (Or.inl ⟨by rfl, ?y5⟩) hS ?_
        case y5 => intro wx hSw; (go_simp) <;> with_reducible rfl
        simp only [Act.put, List.setIfInBounds_toArray, List.set_cons_zero, List.set_cons_succ]
        refine takeAt (i := 6) (d := some 29) (v := ?v6) rfl (by rfl) (by kernel_rfl) (by kernel_rfl) (by kernel_rfl) (fun _ _ _ h => h) (Or.inl ⟨by rfl, ?y6⟩) hS ?_
        case y6 => intro wx hSw; (go_simp) <;> with_reducible rfl
        simp only [Act.put, List.setIfInBounds_toArray, List.set_cons_zero, List.set_cons_succ]
        refine takeAt (i := 7) (d := some 30) (v := ?v7) rfl (by rfl) (by kernel_rfl) (by kernel_rfl) (by kernel_rfl) (fun _ _ _ h => h) (Or.inl ⟨by rfl, ?y7⟩) hS ?_
        case y7 => intro wx hSw; (go_simp) <;> with_reducible rfl
        simp only [Act.put, List.setIfInBounds_toArray, List.set_cons_zero, List.set_cons_succ]
        refine takeAt (i := 8) (d := some 31) (v := ?v8) rfl (by rfl) (by kernel_rfl) (by kernel_rfl) (by kernel_rfl) (fun _ _ _ h => h) (Or.inl ⟨by rfl, ?y8⟩) hS ?_
        case y8 => intro wx hSw; (go_simp) <;> with_reducible rfl
        simp only [Act.put, List.setIfInBounds_toArray, List.set_cons_zero, List.set_cons_succ]
        refine takeAt (i := 9) (d := some 32) (v := ?v9) rfl (by rfl) (by kernel_rfl) (by kernel_rfl) (by kernel_rfl) (fun _ _ _ h => h) (Or.inl ⟨by rfl, ?y9⟩) hS ?_
        case y9 => intro wx hSw; (go_simp) <;> with_reducible rfl
        simp only [Act.put, List.setIfInBounds_toArray, List.set_cons_zero, List.set_cons_succ]
        refine takeAt (i := 10) (d := some 33) (v := ?v10) rfl (by rfl) (by kernel_rfl) (by kernel_rfl) (by kernel_rfl) (fun _ _ _ h => h) (Or.inl ⟨by rfl, ?y10⟩) hS ?_
        case y10 => intro wx hSw; (go_simp) <;> with_reducible rfl
        simp only [Act.put, List.setIfInBounds_toArray, List.set_cons_zero, List.set_cons_succ]
        refine takeAt (i := 12) (d := some 35) (v := ?v12) rfl (by rfl) (by kernel_rfl) (by kernel_rfl) (by kernel_rfl) (fun _ _ _ h => h) (Or.inl ⟨by rfl, ?y12⟩) hS ?_
        case y12 => intro wx hSw; (go_simp) <;> with_reducible rfl
        simp only [Act.put, List.setIfInBounds_toArray, List.set_cons_zero, List.set_cons_succ]
        refine wpAnyH_ready (rs := [11, 13]) (by kernel_rfl) (by simp) ?_
        refine AllReadyH.cons rfl (fun K hK => ?_) (AllReadyH.cons rfl (fun K hK => ?_) AllReadyH.nil)
        · go_simp
          refine hK.out _ _ hS0 (fun _ => ?_)
          clear hK K
          replace hS := hS0
          try simp only [Act.put, List.setIfInBounds_toArray, List.set_cons_zero, List.set_cons_succ]
          refine wpAnyH_ready (rs := [13]) (by kernel_rfl) (by simp) ?_
          refine AllReadyH.cons rfl (fun K hK => ?_) AllReadyH.nil
          go_simp
          refine hK.out _ _ hS1 (fun _ => ?_)
          clear hK K
          replace hS := hS1
          try simp only [Act.put, List.setIfInBounds_toArray, List.set_cons_zero, List.set_cons_succ]
          refine wpAnyH_ready (rs := [14]) (by kernel_rfl) (by simp) ?_
          refine AllReadyH.cons rfl (fun K hK => ?_) AllReadyH.nil
          rw [if_pos (by rfl)]
          refine wp_app (s := .tmp 34) (x := .tmp 36) (t := 30) (d := some 37) rfl rfl rfl rfl hrun ?_
          try simp only [Act.put, List.setIfInBounds_toArray, List.set_cons_zero, List.set_cons_succ]
          refine hK.out _ _ hS2 (fun _ => ?_)
          clear hK K
          replace hS := hS2
          try simp only [Act.put, List.setIfInBounds_toArray, List.set_cons_zero, List.set_cons_succ]
          refine takeAt (i := 15) (d := some 38) (v := ?vp15) rfl (by rfl) (by kernel_rfl) (by kernel_rfl) (by kernel_rfl) (fun _ _ _ h => h) (Or.inl ⟨by rfl, ?yp15⟩) hS ?_
          case yp15 => intro wx hSw; (go_simp) <;> with_reducible rfl
          simp only [Act.put, List.setIfInBounds_toArray, List.set_cons_zero, List.set_cons_succ]
          refine wpAnyH_ready (rs := [16]) (by kernel_rfl) (by simp) ?_
          refine AllReadyH.cons rfl (fun K hK => ?_) AllReadyH.nil
          go_simp
          refine hK.out _ _ hS3 (fun _ => ?_)
          clear hK K
          replace hS := hS3
          try simp only [Act.put, List.setIfInBounds_toArray, List.set_cons_zero, List.set_cons_succ]
          refine wpAnyH_done (by kernel_rfl) ?_ _
          refine NoPanic.normal ?_
          clear hS hS0 hS1 hS2 hS3 hrun hrc hrf hcell p1 p2 z2' hrc2 hrf2
          go_wp2_with fail
          go_round
          case rel => exact FIN.out
          case measure => simp [intOf]; omega
        · go_simp
          refine hK.out _ _ hS1 (fun _ => ?_)
          clear hK K
          replace hS := hS1
          try simp only [Act.put, List.setIfInBounds_toArray, List.set_cons_zero, List.set_cons_succ]
          refine wpAnyH_ready (rs := [11]) (by kernel_rfl) (by simp) ?_
          refine AllReadyH.cons rfl (fun K hK => ?_) AllReadyH.nil
          go_simp
          refine hK.out _ _ hS1 (fun _ => ?_)
          clear hK K
          replace hS := hS1
          try simp only [Act.put, List.setIfInBounds_toArray, List.set_cons_zero, List.set_cons_succ]
          refine wpAnyH_ready (rs := [14]) (by kernel_rfl) (by simp) ?_
          refine AllReadyH.cons rfl (fun K hK => ?_) AllReadyH.nil
          rw [if_pos (by rfl)]
          refine wp_app (s := .tmp 34) (x := .tmp 36) (t := 30) (d := some 37) rfl rfl rfl rfl hrun ?_
          try simp only [Act.put, List.setIfInBounds_toArray, List.set_cons_zero, List.set_cons_succ]
          refine hK.out _ _ hS2 (fun _ => ?_)
          clear hK K
          replace hS := hS2
          try simp only [Act.put, List.setIfInBounds_toArray, List.set_cons_zero, List.set_cons_succ]
          refine takeAt (i := 15) (d := some 38) (v := ?vq15) rfl (by rfl) (by kernel_rfl) (by kernel_rfl) (by kernel_rfl) (fun _ _ _ h => h) (Or.inl ⟨by rfl, ?yq15⟩) hS ?_
          case yq15 => intro wx hSw; (go_simp) <;> with_reducible rfl
          simp only [Act.put, List.setIfInBounds_toArray, List.set_cons_zero, List.set_cons_succ]
          refine wpAnyH_ready (rs := [16]) (by kernel_rfl) (by simp) ?_
          refine AllReadyH.cons rfl (fun K hK => ?_) AllReadyH.nil
          go_simp
          refine hK.out _ _ hS3 (fun _ => ?_)
          clear hK K
          replace hS := hS3
          try simp only [Act.put, List.setIfInBounds_toArray, List.set_cons_zero, List.set_cons_succ]
          refine wpAnyH_done (by kernel_rfl) ?_ _
          refine NoPanic.normal ?_
          clear hS hS0 hS1 hS2 hS3 hrun hrc hrf hcell p1 p2 z2' hrc2 hrf2
          go_wp2_with fail
          go_round
          case rel => exact FIN.out
          case measure => simp [intOf]; omega
    · obtain rfl : k = F.blk.n := by omega
      clear hp hfar hro hbl
      go_wp2_with fail
      go_ret
      exact ⟨M, R, ov, rfl, HS.out.1, OV.out, by omega, HS.out.2.2.2⟩

end Go.Proofs.Ytahjippocejphaa.Dm
