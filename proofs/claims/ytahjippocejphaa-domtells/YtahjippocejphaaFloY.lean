/-
  By the document: plnref3.Prev; plnkeep.Rows.
-/
import Derived.Test.YtahjippocejphaaFloT
import Derived.Deep.RegionHeld3
namespace Go.Proofs.Ytahjippocejphaa.Flo
open Go.RowKit View Rd Copy Num Ty Srt

set_option linter.unusedVariables false

theorem wp_app {P : Program} {o : Oper} {a : Act} {w w' : World} {v' v u : Value} {t : TypeId} {s x : Operand} {K : Act → World → Prop} {Q : Exit → Act → World → Prop} {d : Option Tmp} (ho : o.op = .call { callee := .builtin .append, args := #[s, x], argTypes := #[t, t] }) (hd : o.dst = d) (hs : a.eval s = v) (hx : a.eval x = u) (hr : (Builtin.append_ #[t, t] o.type #[v, u]).run P w = .ok v' w') (h : K (a.put d v') w') : o.wp P a w K Q := by
  subst hd
  unfold Oper.wp execOp
  simp only [ho, resolve, invoke, builtin, Sem.run_bind, Sem.run_pure, Result.andThen_ok, List.map_toArray, List.map_cons, List.map_nil, hs, hx, hr]
  exact h

set_option maxRecDepth 10000 in
set_option maxHeartbeats 1000000 in
theorem prev_ref (F : FV) (w : World) (hF : In w F) (hl : Light F) :
    Calls Try.prog 37 #[F.val] w fun e w' => PrevIs F w e w' := by
  have HF := hid hF
  have HL := hid hl
  have gb := hl.blk
  have hmk := run_make_row' (P := Try.prog) 56 30 (.slice none 0 0) 24 underlying56 info30 rfl .i64 .i64 F.blk.n (by omega) (by omega)
  clear hF hl
  go_enter Try.func37, Try.ntmps37
  go_wp2_with fail
  have p0 : Pv ((w.alloc (.cells (fcells F) 33)).alloc (.cells (madeCells #[.slice none 0 0] F.blk.n) 30)) (w.heap.size + 1) F.blk.n (fun _ => ⟨none, 0, 0⟩) (pvL F 0) := by
    refine ⟨?_, fun i hi => by simp [pvL]; exact World.ownsRow_nil _ _ _ _, fun i j _ _ _ g h => by simp [Value.ownBlock] at h⟩
    have := World.rowIs_made (w.alloc (.cells (fcells F) 33)) (.slice none 0 0) F.blk.n 30
    simpa using this
  have P0 := hid p0
  clear hmk p0
  go_loopw [4] (fun i wr => ∃ b : Nat, b ≤ F.blk.n ∧ i = .int .i64 b ∧ (∃ R, Pv wr (w.heap.size + 1) F.blk.n R (pvL F b)) ∧ FuncAt wr w.heap.size F ∧ Below w.heap.size w wr) (fun i _ => F.blk.n - (intOf i).toNat)
  case atStart => exact ⟨0, Nat.zero_le _, rfl, ⟨_, P0.out⟩, (FuncAt.alloc w F).on (new (same _) _), new (new (same w) _) _⟩
  case round =>
    clear P0
    obtain ⟨b, hb, rfl, ⟨R, hp⟩, hf, hbr⟩ := hrel
    have HP := hid hp
    have HFA := hid hf
    obtain ⟨c0, c1, c2, c3, c4⟩ := hf
    have hwl : w.heap.size + 1 < wr.heap.size := hp.row.lt
    clear hp
    by_cases hlt : b < F.blk.n
    · go_wp2_with fail
      refine (next_ref F b _ (HF.out.on hbr) HL.out).mono ?_
      rintro e w1 ⟨s, rfl, hsn, hsi, hsm, hb1⟩
      rw [suI_nat] at hsn hsi
      have far : Far s R F.blk.n := fun h0 g hg i hi e => by
        obtain ⟨g1, h1, h2, h3, _⟩ := hsm h0
        rw [h1] at hg
        have h4 := ((HP.out.own i hi).lt g e).2
        simp at hg
      have FAR := hid far
      clear far
      have p1 := HP.out.on hb1
      have f1 := HFA.out.on hb1
      have hb2 := View.more hbr hb1
      have hz := hb1.size
      have hle := su_le HL.out b
      have SI := hid hsi
      have SM := hid hsm
      have P1 := hid p1
      have F1 := hid f1
      have B2 := hid hb2
      have SN := hid hsn
      have hsn2 : s.n ≤ 20 := by omega
      clear hsi hsm p1 f1 hb2 hb1 HP HFA c0 c1 c2 c3 c4 hsn hbr
      go_wp2_with fail
      go_loopw [6] (fun i wx => ∃ t : Nat, t ≤ s.n ∧ i = .int .i64 t ∧ (∃ R, Pv wx (w.heap.size + 1) F.blk.n R (pvn F b t) ∧ Far s R F.blk.n) ∧ w1.heap.size ≤ wx.heap.size ∧ Ints wx s (fun i => (((su F b).getD i 0 : Nat) : Int)) ∧ FuncAt wx w.heap.size F ∧ Below w.heap.size w wx) (fun i _ => s.n - (intOf i).toNat)
      case atStart => exact ⟨0, Nat.zero_le _, rfl, ⟨R, P1.out.congr (fun i _ => (pvn_zero F b i).symm), FAR.out⟩, Nat.le_refl _, SI.out, F1.out, B2.out⟩
      case round =>
        clear P1 F1 B2 SI FAR
        obtain ⟨t, ht, rfl, ⟨R2, hp, hfar⟩, hw1, hsi, hf, hbr⟩ := hrel
        have FR := hid hfar
        have HP := hid hp
        have HFA := hid hf
        have SI := hid hsi
        have hwl2 : w.heap.size + 1 < wr.heap.size := hp.row.lt
        clear hp hf hsi hfar
        by_cases htl : t < s.n
        · have htl2 : t < (su F b).length := by have := SN.out; omega
          obtain ⟨g1, ga, gl, gt, _⟩ := SM.out (by omega)
          have GA := hid ga
          clear ga
          obtain ⟨hiy, hcell⟩ := own_at SI.out GA.out htl
          have hx : (su F b).getD t 0 < F.blk.n := su_lt F b _ (getD_mem htl2)
          have hstep := pvn_step htl2
          obtain ⟨X, hX⟩ : ∃ X, (su F b).getD t 0 = X := ⟨_, rfl⟩
          simp only [hX] at hcell hx hstep
          have hrow := row_at (M := w.heap.size + 1) hx
          have hrc := HP.out.row.cell hx
          have hrf := HP.out.row.frozen X
          have hpl := pvn_le F b t X
          have STP := hid hstep
          clear hX hstep
          obtain ⟨i0, hi, hz0, hz1, hz2x⟩ := info_parts info3
          obtain ⟨v2, w2, hrun, hown2, hgr2, _, hat2⟩ := run_append_own_at (P := Try.prog) (wr.drew.alloc (.cells #[.int .i64 b] 3)) (w.heap.size + 1 + 1) 30 30 3 i0 (.int .i64 0) 1 8 underlying30 hi hz0 hz1 hz2x rfl (by decide) (.slice (R2 X).a (R2 X).n (R2 X).c) _ _ ((owns_on (Below.drew (same _)) (HP.out.own X hx)).alloc _) ⟨wr.heap.size, 0, none⟩ 1 1 [.int .i64 b] rfl (cell_one_new wr.drew _ _) (by intro u hu; simp at hu; subst hu; rfl) (by simp only [maxLen]; simp; omega) (by simp; omega) (by show _ ≤ (wr.drew.alloc _).heap.size; simp; omega)
          obtain ⟨s2, rfl⟩ := owns_sl hown2
          have hk : w2.heap[w.heap.size + 1]? = (wr.drew.alloc (.cells #[.int .i64 b] 3)).heap[w.heap.size + 1]? := hgr2.block _ (by show _ < (wr.drew.alloc _).heap.size; simp; omega) (fun e => by have := ((HP.out.own X hx).lt _ e.symm).1; omega)
          have hr2 : w2.rowIs (w.heap.size + 1) 30 F.blk.n (fun i => Sl.val (R2 i)) := World.rowIs.of_block (World.rowIs.alloc (w := wr.drew) (HP.out.row.of_block rfl) (.cells #[.int .i64 b] 3)) hk
          have hrc2 := hr2.cell hx
          have hrf2 := hr2.frozen X
          have hS0 : wr.drew.cell? ⟨g1, t, none⟩ = some (.int .i64 X) := hcell
          have hS1 : (wr.drew.alloc (.cells #[.int .i64 b] 3)).cell? ⟨g1, t, none⟩ = some (.int .i64 X) := cell_on (new (same _) _) hS0
          have hS2 : w2.cell? ⟨g1, t, none⟩ = some (.int .i64 X) := by
            rw [World.cell?_of_block (w := wr.drew.alloc (.cells #[.int .i64 b] 3)) (hgr2.block g1 (by show _ < (wr.drew.alloc _).heap.size; simp; omega) (fun e => FR.out (by omega) _ GA.out X hx e.symm))]
            exact hS1
          have hS3 : (w2.setCell ⟨w.heap.size + 1, X, none⟩ (.slice s2.a s2.n s2.c)).cell? ⟨g1, t, none⟩ = some (.int .i64 X) := cell_other (fun e => by have := congrArg Addr.block e; simp at this; omega) hS2
          have hown3 : w2.ownsRow (w.heap.size + 1 + 1) 3 1 (Sl.val s2) (ints (pvn F b t X) ++ [(b : Int)]).length ((ints (pvn F b t X) ++ [(b : Int)]).map (Value.int .i64)) := by simpa using hown2
          have hat3 : (Sl.val s2).ownBlock = (Sl.val (R2 X)).ownBlock ∨ (Sl.val s2).ownBlock = some (wr.drew.heap.size + 1) := by simpa using hat2
          have OW := hid (And.intro hown3 (And.intro hgr2 hat3))
          clear hown2 hown3 hgr2 hat2 hat3 hk hr2 hi hz0 hz1 hz2x
          go_wp2_with fail
          refine wp_region_noPanic ?_
          refine wp_region_held_drew (S := fun wx => wx.cell? ⟨g1, t, none⟩ = some (.int .i64 X)) (by kernel_rfl) hS0 (fun hS => ?_)
          refine takeAt (i := 0) (d := some 27) (v := ?v0) rfl (by rfl) (by kernel_rfl) (by kernel_rfl) (by kernel_rfl) (fun _ _ _ h => h) (Or.inl ⟨by rfl, ?y0⟩) hS ?_
          case y0 => intro wx hSw; (go_simp) <;> with_reducible rfl
          simp only [Act.put, List.setIfInBounds_toArray, List.set_cons_zero, List.set_cons_succ]
          refine takeAt (i := 1) (d := some 28) (v := ?v1) rfl (by rfl) (by kernel_rfl) (by kernel_rfl) (by kernel_rfl) (fun _ _ _ h => h) (Or.inl ⟨by rfl, ?y1⟩) hS ?_
          case y1 => intro wx hSw; (go_simp) <;> with_reducible rfl
          simp only [Act.put, List.setIfInBounds_toArray, List.set_cons_zero, List.set_cons_succ]
          refine takeAt (i := 2) (d := some 29) (v := ?v2) rfl (by rfl) (by kernel_rfl) (by kernel_rfl) (by kernel_rfl) (fun _ _ _ h => h) (Or.inl ⟨by rfl, ?y2⟩) hS ?_
          case y2 => intro wx hSw; (go_simp) <;> with_reducible rfl
          simp only [Act.put, List.setIfInBounds_toArray, List.set_cons_zero, List.set_cons_succ]
          refine takeAt (i := 3) (d := some 30) (v := ?v3) rfl (by rfl) (by kernel_rfl) (by kernel_rfl) (by kernel_rfl) (fun _ _ _ h => h) (Or.inl ⟨by rfl, ?y3⟩) hS ?_
          case y3 => intro wx hSw; (go_simp) <;> with_reducible rfl
          simp only [Act.put, List.setIfInBounds_toArray, List.set_cons_zero, List.set_cons_succ]
          refine takeAt (i := 4) (d := some 31) (v := ?v4) rfl (by rfl) (by kernel_rfl) (by kernel_rfl) (by kernel_rfl) (fun _ _ _ h => h) (Or.inl ⟨by rfl, ?y4⟩) hS ?_
          case y4 => intro wx hSw; (go_simp) <;> with_reducible rfl
          simp only [Act.put, List.setIfInBounds_toArray, List.set_cons_zero, List.set_cons_succ]
          refine takeAt (i := 5) (d := some 32) (v := ?v5) rfl (by rfl) (by kernel_rfl) (by kernel_rfl) (by kernel_rfl) (fun _ _ _ h => h) (Or.inl ⟨by rfl, ?y5⟩) hS ?_
          case y5 => intro wx hSw; (go_simp) <;> with_reducible rfl
          simp only [Act.put, List.setIfInBounds_toArray, List.set_cons_zero, List.set_cons_succ]
          refine takeAt (i := 6) (d := some 33) (v := ?v6) rfl (by rfl) (by kernel_rfl) (by kernel_rfl) (by kernel_rfl) (fun _ _ _ h => h) (Or.inl ⟨by rfl, ?y6⟩) hS ?_
          case y6 => intro wx hSw; (go_simp) <;> with_reducible rfl
          simp only [Act.put, List.setIfInBounds_toArray, List.set_cons_zero, List.set_cons_succ]
          refine takeAt (i := 7) (d := some 34) (v := ?v7) rfl (by rfl) (by kernel_rfl) (by kernel_rfl) (by kernel_rfl) (fun _ _ _ h => h) (Or.inl ⟨by rfl, ?y7⟩) hS ?_
          case y7 => intro wx hSw; (go_simp) <;> with_reducible rfl
          simp only [Act.put, List.setIfInBounds_toArray, List.set_cons_zero, List.set_cons_succ]
          refine takeAt (i := 8) (d := some 35) (v := ?v8) rfl (by rfl) (by kernel_rfl) (by kernel_rfl) (by kernel_rfl) (fun _ _ _ h => h) (Or.inl ⟨by rfl, ?y8⟩) hS ?_
          case y8 => intro wx hSw; (go_simp) <;> with_reducible rfl
          simp only [Act.put, List.setIfInBounds_toArray, List.set_cons_zero, List.set_cons_succ]
          refine takeAt (i := 9) (d := some 36) (v := ?v9) rfl (by rfl) (by kernel_rfl) (by kernel_rfl) (by kernel_rfl) (fun _ _ _ h => h) (Or.inl ⟨by rfl, ?y9⟩) hS ?_
          case y9 => intro wx hSw; (go_simp) <;> with_reducible rfl
          simp only [Act.put, List.setIfInBounds_toArray, List.set_cons_zero, List.set_cons_succ]
          refine takeAt (i := 10) (d := some 37) (v := ?v10) rfl (by rfl) (by kernel_rfl) (by kernel_rfl) (by kernel_rfl) (fun _ _ _ h => h) (Or.inl ⟨by rfl, ?y10⟩) hS ?_
          case y10 => intro wx hSw; (go_simp) <;> with_reducible rfl
          simp only [Act.put, List.setIfInBounds_toArray, List.set_cons_zero, List.set_cons_succ]
          refine takeAt (i := 12) (d := some 39) (v := ?v12) rfl (by rfl) (by kernel_rfl) (by kernel_rfl) (by kernel_rfl) (fun _ _ _ h => h) (Or.inl ⟨by rfl, ?y12⟩) hS ?_
          case y12 => intro wx hSw; (go_simp) <;> with_reducible rfl
          simp only [Act.put, List.setIfInBounds_toArray, List.set_cons_zero, List.set_cons_succ]
          refine wpAnyH_ready (rs := [11, 13]) (by kernel_rfl) (by simp) ?_
          refine AllReadyH.cons rfl (fun K hK => ?_) (AllReadyH.cons rfl (fun K hK => ?_) AllReadyH.nil)
          · go_simp
            refine hK.out _ _ hS0 (fun _ => ?_)
            clear hK K
            replace hS := hS0
            try simp only [Act.put, List.setIfInBounds_toArray, List.set_cons_zero, List.set_cons_succ]
            refine wpAnyH_ready (rs := [13]) (by kernel_rfl) (by simp) ?_
            refine AllReadyH.cons rfl (fun K hK => ?_) AllReadyH.nil
            go_simp
            refine hK.out _ _ hS1 (fun _ => ?_)
            clear hK K
            replace hS := hS1
            try simp only [Act.put, List.setIfInBounds_toArray, List.set_cons_zero, List.set_cons_succ]
            refine wpAnyH_ready (rs := [14]) (by kernel_rfl) (by simp) ?_
            refine AllReadyH.cons rfl (fun K hK => ?_) AllReadyH.nil
            rw [if_pos (by rfl)]
            refine wp_app (s := .tmp 38) (x := .tmp 40) (t := 30) (d := some 41) rfl rfl rfl rfl hrun ?_
            try simp only [Act.put, List.setIfInBounds_toArray, List.set_cons_zero, List.set_cons_succ]
            refine hK.out _ _ hS2 (fun _ => ?_)
            clear hK K
            replace hS := hS2
            try simp only [Act.put, List.setIfInBounds_toArray, List.set_cons_zero, List.set_cons_succ]
            refine takeAt (i := 15) (d := some 42) (v := ?vp15) rfl (by rfl) (by kernel_rfl) (by kernel_rfl) (by kernel_rfl) (fun _ _ _ h => h) (Or.inl ⟨by rfl, ?yp15⟩) hS ?_
            case yp15 => intro wx hSw; (go_simp) <;> with_reducible rfl
            simp only [Act.put, List.setIfInBounds_toArray, List.set_cons_zero, List.set_cons_succ]
            refine wpAnyH_ready (rs := [16]) (by kernel_rfl) (by simp) ?_
            refine AllReadyH.cons rfl (fun K hK => ?_) AllReadyH.nil
            go_simp
            refine hK.out _ _ hS3 (fun _ => ?_)
            clear hK K
            replace hS := hS3
            try simp only [Act.put, List.setIfInBounds_toArray, List.set_cons_zero, List.set_cons_succ]
            refine wpAnyH_done (by kernel_rfl) ?_ _
            refine NoPanic.normal ?_
            clear hS hS0 hS1 hS2 hS3 hrun hrc hrf hcell
            go_wp2_with fail
            have hz2 := OW.out.2.1.size
            simp only [World.size_alloc] at hz2
            have hz3 : wr.heap.size + 1 ≤ w2.heap.size := hz2
            go_round
            case rel =>
              obtain ⟨o1, o2, o3⟩ := OW.out
              have hP := (HP.out.on (Below.drew (same wr))).step hx o1 o2 o3
              have hb2 : Below w.heap.size w w2 := (new (Below.drew hbr) _).grown o2 (by simp; omega) (fun q hq => by have := ((HP.out.own X hx).lt q hq).1; omega)
              have hf2 : FuncAt w2 w.heap.size F := FuncAt.grown (HFA.out.on (new (Below.drew (same _)) _)) o2 (fun q hq => by have := ((HP.out.own X hx).lt q hq).1; omega)
              have hi2 : Ints w2 s (fun i => (((su F b).getD i 0 : Nat) : Int)) := by
                refine (SI.out.on (new (Below.drew (same _)) (.cells #[.int .i64 b] 3))).kept (p := fun k => k = g1) ⟨o2.size, fun k hk => by subst hk; exact o2.block _ (by simp; omega) (fun e => FR.out (by omega) _ GA.out X hx e.symm)⟩ (fun q off h h0 => ?_)
                rw [GA.out] at h
                simp at h
                exact h.1.symm
              have hi3 : Ints (w2.setCell ⟨w.heap.size + 1, X, none⟩ (Sl.val s2)) s (fun i => (((su F b).getD i 0 : Nat) : Int)) := by
                refine hi2.kept (p := fun k => k = g1) ((Kept.refl _ _).setCell (by show ¬ (w.heap.size + 1 = g1); omega) _) (fun q off h h0 => ?_)
                rw [GA.out] at h
                simp at h
                exact h.1.symm
              refine ⟨t + 1, by omega, by go_num, ⟨_, hP.congr (fun i _ => by rw [STP.out i]; by_cases e : i = X <;> simp [e]), fun h0 g hg i hi e => ?_⟩, by simp; omega, hi3, ?_, hb2.setCell (by simp) _⟩
              · rw [GA.out] at hg
                simp at hg
                subst hg
                by_cases e1 : i = X
                · simp only [e1, if_true] at e
                  rcases o3 with h | h
                  · rw [h] at e; exact FR.out h0 _ GA.out X hx e
                  · rw [h] at e; simp at e; omega
                · simp only [e1, if_false] at e
                  exact FR.out h0 _ GA.out i hi e
              · exact hf2.kept ((Kept.refl (fun k => k ≠ w.heap.size + 1) w2).setCell (fun h => h rfl) _) (by show _ ≠ _; omega)
            case measure => simp [intOf]; omega
          · go_simp
            refine hK.out _ _ hS1 (fun _ => ?_)
            clear hK K
            replace hS := hS1
            try simp only [Act.put, List.setIfInBounds_toArray, List.set_cons_zero, List.set_cons_succ]
            refine wpAnyH_ready (rs := [11]) (by kernel_rfl) (by simp) ?_
            refine AllReadyH.cons rfl (fun K hK => ?_) AllReadyH.nil
            go_simp
            refine hK.out _ _ hS1 (fun _ => ?_)
            clear hK K
            replace hS := hS1
            try simp only [Act.put, List.setIfInBounds_toArray, List.set_cons_zero, List.set_cons_succ]
            refine wpAnyH_ready (rs := [14]) (by kernel_rfl) (by simp) ?_
            refine AllReadyH.cons rfl (fun K hK => ?_) AllReadyH.nil
            rw [if_pos (by rfl)]
            refine wp_app (s := .tmp 38) (x := .tmp 40) (t := 30) (d := some 41) rfl rfl rfl rfl hrun ?_
            try simp only [Act.put, List.setIfInBounds_toArray, List.set_cons_zero, List.set_cons_succ]
            refine hK.out _ _ hS2 (fun _ => ?_)
            clear hK K
            replace hS := hS2
            try simp only [Act.put, List.setIfInBounds_toArray, List.set_cons_zero, List.set_cons_succ]
            refine takeAt (i := 15) (d := some 42) (v := ?vq15) rfl (by rfl) (by kernel_rfl) (by kernel_rfl) (by kernel_rfl) (fun _ _ _ h => h) (Or.inl ⟨by rfl, ?yq15⟩) hS ?_
            case yq15 => intro wx hSw; (go_simp) <;> with_reducible rfl
            simp only [Act.put, List.setIfInBounds_toArray, List.set_cons_zero, List.set_cons_succ]
            refine wpAnyH_ready (rs := [16]) (by kernel_rfl) (by simp) ?_
            refine AllReadyH.cons rfl (fun K hK => ?_) AllReadyH.nil
            go_simp
            refine hK.out _ _ hS3 (fun _ => ?_)
            clear hK K
            replace hS := hS3
            try simp only [Act.put, List.setIfInBounds_toArray, List.set_cons_zero, List.set_cons_succ]
            refine wpAnyH_done (by kernel_rfl) ?_ _
            refine NoPanic.normal ?_
            clear hS hS0 hS1 hS2 hS3 hrun hrc hrf hcell
            go_wp2_with fail
            have hz2 := OW.out.2.1.size
            simp only [World.size_alloc] at hz2
            have hz3 : wr.heap.size + 1 ≤ w2.heap.size := hz2
            go_round
            case rel =>
              obtain ⟨o1, o2, o3⟩ := OW.out
              have hP := (HP.out.on (Below.drew (same wr))).step hx o1 o2 o3
              have hb2 : Below w.heap.size w w2 := (new (Below.drew hbr) _).grown o2 (by simp; omega) (fun q hq => by have := ((HP.out.own X hx).lt q hq).1; omega)
              have hf2 : FuncAt w2 w.heap.size F := FuncAt.grown (HFA.out.on (new (Below.drew (same _)) _)) o2 (fun q hq => by have := ((HP.out.own X hx).lt q hq).1; omega)
              have hi2 : Ints w2 s (fun i => (((su F b).getD i 0 : Nat) : Int)) := by
                refine (SI.out.on (new (Below.drew (same _)) (.cells #[.int .i64 b] 3))).kept (p := fun k => k = g1) ⟨o2.size, fun k hk => by subst hk; exact o2.block _ (by simp; omega) (fun e => FR.out (by omega) _ GA.out X hx e.symm)⟩ (fun q off h h0 => ?_)
                rw [GA.out] at h
                simp at h
                exact h.1.symm
              have hi3 : Ints (w2.setCell ⟨w.heap.size + 1, X, none⟩ (Sl.val s2)) s (fun i => (((su F b).getD i 0 : Nat) : Int)) := by
                refine hi2.kept (p := fun k => k = g1) ((Kept.refl _ _).setCell (by show ¬ (w.heap.size + 1 = g1); omega) _) (fun q off h h0 => ?_)
                rw [GA.out] at h
                simp at h
                exact h.1.symm
              refine ⟨t + 1, by omega, by go_num, ⟨_, hP.congr (fun i _ => by rw [STP.out i]; by_cases e : i = X <;> simp [e]), fun h0 g hg i hi e => ?_⟩, by simp; omega, hi3, ?_, hb2.setCell (by simp) _⟩
              · rw [GA.out] at hg
                simp at hg
                subst hg
                by_cases e1 : i = X
                · simp only [e1, if_true] at e
                  rcases o3 with h | h
                  · rw [h] at e; exact FR.out h0 _ GA.out X hx e
                  · rw [h] at e; simp at e; omega
                · simp only [e1, if_false] at e
                  exact FR.out h0 _ GA.out i hi e
              · exact hf2.kept ((Kept.refl (fun k => k ≠ w.heap.size + 1) w2).setCell (fun h => h rfl) _) (by show _ ≠ _; omega)
            case measure => simp [intOf]; omega
        · obtain rfl : t = s.n := by omega
          go_wp2_with fail
          go_round
          case rel => exact ⟨b + 1, by omega, by go_num, ⟨R2, HP.out.congr (fun i _ => by rw [SN.out]; exact pvn_all F b i)⟩, HFA.out, hbr⟩
          case measure => simp [intOf]; omega
    · obtain rfl : b = F.blk.n := by omega
      go_wp2_with fail
      go_ret
      exact ⟨w.heap.size + 1, R, rfl, HP.out, by omega, hbr⟩

theorem Pv.ints {w : World} {M n : Nat} {R : Nat → Sl} {L : Nat → List Nat} (h : Pv w M n R L) {i : Nat} (hi : i < n) (hl : (L i).length ≤ 1000) : Ints w (R i) (fun k => (((L i).getD k 0 : Nat) : Int)) ∧ (R i).n = (L i).length := by
  obtain ⟨s, hs, hn, hI, _⟩ := ints_of_owns (h.own i hi) (by simp; omega)
  have e : R i = s := by
    have h1 : (R i).a = s.a ∧ (R i).n = s.n ∧ (R i).c = s.c := by simpa [Sl.val] using hs
    cases hR : R i; cases s; rw [hR] at h1; simp at h1; simp [h1]
  rw [e]
  exact ⟨hI.congr (fun k hk => getD_ints _ _ (by rw [hn] at hk; simpa using hk)), by simpa using hn⟩

set_option maxHeartbeats 1000000 in
theorem rows_any (n M M2 : Nat) (R R2 : Nat → Sl) (L : Nat → List Nat) (w : World) (h1 : Pv w M n R L) (h2 : Pv w M2 n R2 L) (hn : n ≤ 1000) (hl : ∀ i, i < n → (L i).length ≤ 1000) :
    Calls Try.prog 30 #[.slice (some ⟨M, 0, none⟩) n n, .slice (some ⟨M2, 0, none⟩) n n] w fun e w' => e = .returned (.bool true) ∧ Below w.heap.size w w' := by
  have H1 := hid h1
  have H2 := hid h2
  have HE := hid hl
  clear h1 h2 hl
  have tn : ((n : Int) != (n : Int)) = false := by simp
  go_enter Try.func30, Try.ntmps30
  go_wp2_with fail
  go_loopw [5] (fun i wr => ∃ k : Nat, k ≤ n ∧ i = .int .i64 k ∧ Below w.heap.size w wr) (fun i _ => n - (intOf i).toNat)
  case atStart => exact ⟨0, Nat.zero_le _, rfl, same w⟩
  case round =>
    obtain ⟨k, hk, rfl, hb⟩ := hrel
    by_cases hlt : k < n
    · have e1 := cell_on hb (H1.out.row.cell hlt)
      have e2 := cell_on hb (H2.out.row.cell hlt)
      obtain ⟨i1, i2⟩ := H1.out.ints hlt (HE.out k hlt)
      obtain ⟨j1, j2⟩ := H2.out.ints hlt (HE.out k hlt)
      have b1 := row_at (M := M) hlt
      have b2 := row_at (M := M2) hlt
      have I1 := hid (And.intro i1 i2)
      have J1 := hid (And.intro j1 j2)
      have hlk := HE.out k hlt
      have A1 : ∀ wx, Below wr.heap.size wr wx → wx.cell? ⟨M, k, none⟩ = some (.slice (R k).a (R k).n (R k).c) := fun wx h => cell_on h e1
      have A2 : ∀ wx, Below wr.heap.size wr wx → wx.cell? ⟨M2, k, none⟩ = some (.slice (R2 k).a (R2 k).n (R2 k).c) := fun wx h => cell_on h e2
      have st0 : Below wr.heap.size wr wr.drew := Below.drew (same _)
      clear i1 i2 j1 j2 e1 e2
      go_wp2_with fail
      go_region_held3 (fun wx => Below wr.heap.size wr wx) (first | exact st0 | exact below_drewN (same _) _)
        (first | (go_at_call 27; refine (ints_any (R k) (R2 k) _ _ _ (I1.out.1.on (View.more hb st0)) (J1.out.1.on (View.more hb st0)) (by have := I1.out.2; omega)).mono ?_; rintro e w5 ⟨r, rfl, hr, q5, rfl⟩; obtain rfl : r = true := hr.2 ⟨by rw [I1.out.2, J1.out.2], fun i hi => rfl⟩; clear hr))
      have ST := hid (below_drewN (same wr) (1 + q5))
      clear st0 A1 A2
      go_wp2_with fail
      go_round
      case rel => exact ⟨k + 1, by omega, by go_num, View.more hb ST.out⟩
      case measure => simp [intOf]; omega
    · obtain rfl : k = n := by omega
      go_wp2_with fail
      go_ret
      exact ⟨rfl, hb⟩

end Go.Proofs.Ytahjippocejphaa.Flo
