/-
  plnlaw3.IrTells answers true.
-/
import Derived.Test.YthaedlnefikigaaNeatR
import Derived.Test.YthaedlnefikigaaNeatLaw
import Derived.Test.YthaedlnefikigaaCopyM5
import Derived.Test.YthaedlnefikigaaSameR
import Derived.Test.YthaedlnefikigaaWhole
import Derived.Test.YthaedlnefikigaaTyIr
import Derived.Test.YthaedlnefikigaaUseR
import Derived.Test.YthaedlnefikigaaFirst
namespace Go.Proofs.Ythaedlnefikigaa.Mod
open Go.RowKit View Rd Num Opn Copy Own Srt Ty Use First CpM

set_option linter.unusedVariables false

theorem eqs_refl (s : Sl) (f : Nat → Int) : Eqs s s f f := ⟨rfl, fun _ _ => rfl⟩
theorem eqF_refl (F : FV) : EqF F F := ⟨rfl, rfl, rfl, eqs_refl _ _, rfl, fun j hj => ⟨rfl, fun k hk => ⟨rfl, rfl, rfl, rfl, rfl, eqs_refl _ _, eqs_refl _ _⟩⟩⟩
theorem eqM_refl (M : MV) : EqM M M := ⟨⟨rfl, fun i hi => ⟨rfl, rfl, eqs_refl _ _⟩⟩, ⟨rfl, fun i hi => ⟨rfl, eqs_refl _ _⟩⟩, ⟨rfl, fun i hi => ⟨rfl, eqs_refl _ _⟩⟩, ⟨rfl, fun i hi => eqF_refl _⟩⟩

/-- Made neat by the one and by the other: alike. -/
theorem neats_same {F G H : FV} (h : Neats F G) (k : Neats F H) : EqF G H := by
  refine ⟨by rw [h.name, k.name], by rw [h.out, k.out], by rw [h.res, k.res], ⟨by rw [h.par, k.par], fun i hi => ?_⟩, by rw [h.blk, k.blk], fun j hj => ?_⟩
  · rw [h.par] at hi; rw [h.P i hi, k.P i hi]
  · have hjF : j < F.blk.n := by rw [← h.blk]; exact hj
    refine ⟨by rw [h.B j hjF, k.B j hjF], fun t ht => ?_⟩
    have htF : t < (F.B j).n := by rw [← h.B j hjF]; exact ht
    obtain ⟨a1, hp1, ha1⟩ := h.rows j hjF t htF
    obtain ⟨a2, hp2, ha2⟩ := k.rows j hjF t htF
    have u := put_unique rfl rfl rfl hp1 hp2
    refine ⟨by rw [h.op j hjF t htF, k.op j hjF t htF], by rw [h.ty j hjF t htF, k.ty j hjF t htF], by rw [h.to j hjF t htF, k.to j hjF t htF], by rw [h.sym j hjF t htF, k.sym j hjF t htF], by rw [h.num j hjF t htF, k.num j hjF t htF], ⟨by rw [h.an j hjF t htF, k.an j hjF t htF], fun i hi => ?_⟩, ⟨by rw [h.jn j hjF t htF, k.jn j hjF t htF], fun i hi => ?_⟩⟩
    · rw [h.an j hjF t htF] at hi
      rw [ha1 i hi, ha2 i hi, u.1 i hi]
    · rw [h.jn j hjF t htF] at hi
      exact u.2 i hi

theorem neats_light {F G : FV} (h : Neats F G) (l : Light F) : Light G := by
  refine ⟨?_, by rw [h.name]; exact l.name, by rw [h.par]; exact l.par, by rw [h.blk]; exact l.blk, fun j hj => ?_, fun j hj k hk => ?_, fun j hj k hk => ?_⟩
  · rw [h.blk, cnt_congr (fun t ht => h.B t ht)]; exact l.all
  all_goals rw [h.blk] at hj
  · rw [h.B j hj]; exact l.ins j hj
  all_goals rw [h.B j hj] at hk
  · rw [h.an j hj k hk]; exact l.args j hj k hk
  · rw [h.jn j hj k hk]; exact l.into j hj k hk

theorem typesL_le {F : FV} (hl : Light F) : (typesL F).length ≤ 1000 := by
  rw [typesL_length]; have := NeatLaw.total_le hl; omega

theorem uses_le {F : FV} (hl : Light F) : F.par.n + cnt (fun j => giv (F.I j) (F.B j).n) F.blk.n + 1 ≤ 1000 := by
  have := NeatLaw.total_le hl; omega

structure MAt (w : World) (b : Nat) (M : MV) : Prop where
  c0 : w.cell? ⟨b, 0, none⟩ = some (.slice M.ext.a M.ext.n M.ext.c)
  c1 : w.cell? ⟨b, 1, none⟩ = some (.slice M.glo.a M.glo.n M.glo.c)
  c2 : w.cell? ⟨b, 2, none⟩ = some (.slice M.tab.a M.tab.n M.tab.c)
  c3 : w.cell? ⟨b, 3, none⟩ = some (.slice M.fns.a M.fns.n M.fns.c)

theorem MAt.on {w w' : World} {b : Nat} {M : MV} (hb : Below w.heap.size w w') (h : MAt w b M) : MAt w' b M := ⟨cell_on hb h.c0, cell_on hb h.c1, cell_on hb h.c2, cell_on hb h.c3⟩

set_option maxRecDepth 10000 in
set_option maxHeartbeats 4000000 in
theorem irTells_any (M O : MV) (w : World) (hM : InM w M) (hO : InM w O) (fM : FitsM M) :
    Calls Try.prog 3 #[M.val, O.val] w fun e w' => e = .returned (.bool true) ∧ Below w.heap.size w w' := by
  have HM := hid hM
  have HO := hid hO
  have FM := hid fM
  clear hM hO fM
  go_enter Try.func3, Try.ntmps3
  go_wp2_with fail
  refine (first_any _).mono ?_
  rintro e w1 ⟨rfl, hb1⟩
  have m1 : MAt w1 w.heap.size M := MAt.on hb1 (MAt.on (new (same _) _) ⟨by simp, by simp, by simp, by simp⟩)
  have o1 : MAt w1 (w.heap.size + 1) O := MAt.on hb1 ⟨by simp, by simp, by simp, by simp⟩
  have B1 := hid (View.more (new (new (same w) _) _) hb1)
  have M1 := hid m1
  have O1 := hid o1
  obtain ⟨c0, c1, c2, c3⟩ := m1
  clear hb1 o1
  go_wp2_with fail
  refine (small_any M _ (HM.out.on B1.out)).mono ?_
  rintro e w2 ⟨r, rfl, hr, hb2⟩
  have B2 := hid (View.more B1.out hb2)
  have M2 := hid (M1.out.on hb2)
  have O2 := hid (O1.out.on hb2)
  clear c0 c1 c2 c3 hb2 B1 M1 O1
  cases r with
  | false =>
    go_wp2_with fail
    refine (first_any _).mono ?_
    rintro e w3 ⟨rfl, hb3⟩
    go_wp2_with fail
    go_ret
    exact ⟨rfl, View.more B2.out hb3⟩
  | true =>
    have SM := hid (hr rfl)
    clear hr
    obtain ⟨c0, c1, c2, c3⟩ := O2.out
    go_wp2_with fail
    refine (small_any O _ (HO.out.on B2.out)).mono ?_
    rintro e W ⟨r, rfl, hr, hb3⟩
    have B3 := hid (View.more B2.out hb3)
    have M3 := hid (M2.out.on hb3)
    have O3 := hid (O2.out.on hb3)
    clear c0 c1 c2 c3 hb3 B2 M2 O2
    cases r with
    | false =>
      go_wp2_with fail
      refine (first_any _).mono ?_
      rintro e w3 ⟨rfl, hb3⟩
      go_wp2_with fail
      go_ret
      exact ⟨rfl, View.more B3.out hb3⟩
    | true =>
      have SO := hid (hr rfl)
      clear hr
      have IM := hid (HM.out.on B3.out)
      have IO := hid (HO.out.on B3.out)
      have gf := SM.out.fns
      have gfo := SO.out.fns
      go_upto_region 5 with fail
      have st0 : Below W.heap.size W W.drew := Below.drew (same _)
      have A0 : ∀ wx, Below W.heap.size W wx → wx.cell? ⟨w.heap.size, 0, none⟩ = some (.slice M.ext.a M.ext.n M.ext.c) := fun wx h => cell_on h M3.out.c0
      have A1 : ∀ wx, Below W.heap.size W wx → wx.cell? ⟨w.heap.size, 1, none⟩ = some (.slice M.glo.a M.glo.n M.glo.c) := fun wx h => cell_on h M3.out.c1
      have A2 : ∀ wx, Below W.heap.size W wx → wx.cell? ⟨w.heap.size, 2, none⟩ = some (.slice M.tab.a M.tab.n M.tab.c) := fun wx h => cell_on h M3.out.c2
      have A3 : ∀ wx, Below W.heap.size W wx → wx.cell? ⟨w.heap.size, 3, none⟩ = some (.slice M.fns.a M.fns.n M.fns.c) := fun wx h => cell_on h M3.out.c3
      have D0 : ∀ wx, Below W.heap.size W wx → wx.cell? ⟨w.heap.size + 1, 0, none⟩ = some (.slice O.ext.a O.ext.n O.ext.c) := fun wx h => cell_on h O3.out.c0
      have D1 : ∀ wx, Below W.heap.size W wx → wx.cell? ⟨w.heap.size + 1, 1, none⟩ = some (.slice O.glo.a O.glo.n O.glo.c) := fun wx h => cell_on h O3.out.c1
      have D2 : ∀ wx, Below W.heap.size W wx → wx.cell? ⟨w.heap.size + 1, 2, none⟩ = some (.slice O.tab.a O.tab.n O.tab.c) := fun wx h => cell_on h O3.out.c2
      have D3 : ∀ wx, Below W.heap.size W wx → wx.cell? ⟨w.heap.size + 1, 3, none⟩ = some (.slice O.fns.a O.fns.n O.fns.c) := fun wx h => cell_on h O3.out.c3
      refine wp_region_noPanic ?_
      refine wp_region_held_drew (S := fun wx => Below W.heap.size W wx) (by kernel_rfl) st0 (fun hS => ?_)
      refine Srt.takeAt (i := 0) (d := some 19) (v := ?va0) rfl (by rfl) (by kernel_rfl) (by kernel_rfl) (by kernel_rfl) (fun _ _ _ h => h) (Or.inl ⟨by rfl, ?ya0⟩) hS ?_
      case ya0 => intro wx hSw; (go_simp) <;> with_reducible rfl
      simp only [Act.put, List.setIfInBounds_toArray, List.set_cons_zero, List.set_cons_succ]
      refine Srt.takeAt (i := 2) (d := some 21) (v := ?va2) rfl (by rfl) (by kernel_rfl) (by kernel_rfl) (by kernel_rfl) (fun _ _ _ h => h) (Or.inl ⟨by rfl, ?ya2⟩) hS ?_
      case ya2 => intro wx hSw; (go_simp) <;> with_reducible rfl
      simp only [Act.put, List.setIfInBounds_toArray, List.set_cons_zero, List.set_cons_succ]
      refine wpAnyH_ready (rs := [1]) (by kernel_rfl) (by simp) ?_
      refine AllReadyH.cons rfl (fun K hK => ?_) AllReadyH.nil
      go_simp
      refine (whole_ir M _ (IM.out.on st0) SM.out).mono ?_
      rintro e wp1 ⟨rfl, hbp1⟩
      have p1 : Below W.heap.size W wp1 := View.more st0 hbp1
      clear hbp1
      go_wp2_with fail
      refine hK.out _ _ p1 (fun _ => ?_)
      clear hK K
      replace hS := p1
      try simp only [Act.put, List.setIfInBounds_toArray, List.set_cons_zero, List.set_cons_succ]
      refine wpAnyH_ready (rs := [3]) (by kernel_rfl) (by simp) ?_
      refine AllReadyH.cons rfl (fun K hK => ?_) AllReadyH.nil
      go_simp
      refine (whole_ref M _ (IM.out.on p1) SM.out).mono ?_
      rintro e wp2 ⟨rfl, hbp2⟩
      have p2 : Below W.heap.size W wp2 := View.more p1 hbp2
      clear hbp2
      go_wp2_with fail
      refine hK.out _ _ p2 (fun _ => ?_)
      clear hK K
      replace hS := p2
      try simp only [Act.put, List.setIfInBounds_toArray, List.set_cons_zero, List.set_cons_succ]
      refine Srt.takeAt (i := 4) (d := some 23) (v := ?va4) rfl (by rfl) (by kernel_rfl) (by kernel_rfl) (by kernel_rfl) (fun _ _ _ h => h) (Or.inl ⟨by rfl, ?ya4⟩) hS ?_
      case ya4 => intro wx hSw; (go_simp) <;> with_reducible rfl
      simp only [Act.put, List.setIfInBounds_toArray, List.set_cons_zero, List.set_cons_succ]
      refine Srt.takeAt (i := 5) (d := some 24) (v := ?va5) rfl (by rfl) (by kernel_rfl) (by kernel_rfl) (by kernel_rfl) (fun _ _ _ h => h) (Or.inl ⟨by rfl, ?ya5⟩) hS ?_
      case ya5 => intro wx hSw; (go_simp) <;> with_reducible rfl
      simp only [Act.put, List.setIfInBounds_toArray, List.set_cons_zero, List.set_cons_succ]
      refine Srt.takeAt (i := 6) (d := some 25) (v := ?va6) rfl (by rfl) (by kernel_rfl) (by kernel_rfl) (by kernel_rfl) (fun _ _ _ h => h) (Or.inl ⟨by rfl, ?ya6⟩) hS ?_
      case ya6 => intro wx hSw; (go_simp) <;> with_reducible rfl
      simp only [Act.put, List.setIfInBounds_toArray, List.set_cons_zero, List.set_cons_succ]
      refine Srt.takeAt (i := 7) (d := some 26) (v := ?va7) rfl (by rfl) (by kernel_rfl) (by kernel_rfl) (by kernel_rfl) (fun _ _ _ h => h) (Or.inl ⟨by rfl, ?ya7⟩) hS ?_
      case ya7 => intro wx hSw; (go_simp) <;> with_reducible rfl
      simp only [Act.put, List.setIfInBounds_toArray, List.set_cons_zero, List.set_cons_succ]
      refine Srt.takeAt (i := 9) (d := some 28) (v := ?va9) rfl (by rfl) (by kernel_rfl) (by kernel_rfl) (by kernel_rfl) (fun _ _ _ h => h) (Or.inl ⟨by rfl, ?ya9⟩) hS ?_
      case ya9 => intro wx hSw; (go_simp) <;> with_reducible rfl
      simp only [Act.put, List.setIfInBounds_toArray, List.set_cons_zero, List.set_cons_succ]
      refine Srt.takeAt (i := 10) (d := some 29) (v := ?va10) rfl (by rfl) (by kernel_rfl) (by kernel_rfl) (by kernel_rfl) (fun _ _ _ h => h) (Or.inl ⟨by rfl, ?ya10⟩) hS ?_
      case ya10 => intro wx hSw; (go_simp) <;> with_reducible rfl
      simp only [Act.put, List.setIfInBounds_toArray, List.set_cons_zero, List.set_cons_succ]
      refine wpAnyH_ready (rs := [8]) (by kernel_rfl) (by simp) ?_
      refine AllReadyH.cons rfl (fun K hK => ?_) AllReadyH.nil
      go_simp
      refine (same_ir M O _ (IM.out.on p2) (IO.out.on p2) SM.out).mono ?_
      rintro e wp3 ⟨rp3, rfl, hrp3, hbp3⟩
      have p3 : Below W.heap.size W wp3 := View.more p2 hbp3
      have R3 := hid hrp3
      clear hrp3 hbp3
      go_wp2_with fail
      refine hK.out _ _ p3 (fun _ => ?_)
      clear hK K
      replace hS := p3
      try simp only [Act.put, List.setIfInBounds_toArray, List.set_cons_zero, List.set_cons_succ]
      refine wpAnyH_ready (rs := [11]) (by kernel_rfl) (by simp) ?_
      refine AllReadyH.cons rfl (fun K hK => ?_) AllReadyH.nil
      go_simp
      refine (same_ref M O _ (IM.out.on p3) (IO.out.on p3) SM.out).mono ?_
      rintro e wp4 ⟨rp4, rfl, hrp4, hbp4⟩
      have p4 : Below W.heap.size W wp4 := View.more p3 hbp4
      have hcc : rp4 = rp3 := Bool.eq_iff_iff.2 (hrp4.trans R3.out.symm)
      subst hcc
      clear hrp4 hbp4
      go_wp2_with fail
      refine hK.out _ _ p4 (fun _ => ?_)
      clear hK K
      replace hS := p4
      try simp only [Act.put, List.setIfInBounds_toArray, List.set_cons_zero, List.set_cons_succ]
      refine Srt.takeAt (i := 12) (d := some 31) (v := ?va12) rfl (by rfl) (by kernel_rfl) (by kernel_rfl) (by kernel_rfl) (fun _ _ _ h => h) (Or.inl ⟨by rfl, ?ya12⟩) hS ?_
      case ya12 => intro wx hSw; (go_simp) <;> with_reducible rfl
      simp only [Act.put, List.setIfInBounds_toArray, List.set_cons_zero, List.set_cons_succ]
      refine Srt.takeAt (i := 13) (d := some 32) (v := ?va13) rfl (by rfl) (by kernel_rfl) (by kernel_rfl) (by kernel_rfl) (fun _ _ _ h => h) (Or.inl ⟨by rfl, ?ya13⟩) hS ?_
      case ya13 => intro wx hSw; (go_simp) <;> with_reducible rfl
      simp only [Act.put, List.setIfInBounds_toArray, List.set_cons_zero, List.set_cons_succ]
      refine Srt.takeAt (i := 14) (d := some 33) (v := ?va14) rfl (by rfl) (by kernel_rfl) (by kernel_rfl) (by kernel_rfl) (fun _ _ _ h => h) (Or.inl ⟨by rfl, ?ya14⟩) hS ?_
      case ya14 => intro wx hSw; (go_simp) <;> with_reducible rfl
      simp only [Act.put, List.setIfInBounds_toArray, List.set_cons_zero, List.set_cons_succ]
      refine Srt.takeAt (i := 15) (d := some 34) (v := ?va15) rfl (by rfl) (by kernel_rfl) (by kernel_rfl) (by kernel_rfl) (fun _ _ _ h => h) (Or.inl ⟨by rfl, ?ya15⟩) hS ?_
      case ya15 => intro wx hSw; (go_simp) <;> with_reducible rfl
      simp only [Act.put, List.setIfInBounds_toArray, List.set_cons_zero, List.set_cons_succ]
      refine Srt.takeAt (i := 16) (d := some 35) (v := ?va16) rfl (by rfl) (by kernel_rfl) (by kernel_rfl) (by kernel_rfl) (fun _ _ _ h => h) (Or.inl ⟨by rfl, ?ya16⟩) hS ?_
      case ya16 => intro wx hSw; (go_simp) <;> with_reducible rfl
      simp only [Act.put, List.setIfInBounds_toArray, List.set_cons_zero, List.set_cons_succ]
      refine wpAnyH_ready (rs := [17]) (by kernel_rfl) (by simp) ?_
      refine AllReadyH.cons rfl (fun K hK => ?_) AllReadyH.nil
      go_simp
      refine (same_ir M M _ (IM.out.on p4) (IM.out.on p4) SM.out).mono ?_
      rintro e wp5 ⟨rp5, rfl, hrp5, hbp5⟩
      have p5 : Below W.heap.size W wp5 := View.more p4 hbp5
      obtain rfl : rp5 = true := hrp5.2 (eqM_refl M)
      clear hrp5 hbp5
      go_wp2_with fail
      refine hK.out _ _ p5 (fun _ => ?_)
      clear hK K
      replace hS := p5
      try simp only [Act.put, List.setIfInBounds_toArray, List.set_cons_zero, List.set_cons_succ]
      refine Srt.takeAt (i := 18) (d := some 37) (v := ?va18) rfl (by rfl) (by kernel_rfl) (by kernel_rfl) (by kernel_rfl) (fun _ _ _ h => h) (Or.inl ⟨by rfl, ?ya18⟩) hS ?_
      case ya18 => intro wx hSw; (go_simp) <;> with_reducible rfl
      simp only [Act.put, List.setIfInBounds_toArray, List.set_cons_zero, List.set_cons_succ]
      refine Srt.takeAt (i := 19) (d := some 38) (v := ?va19) rfl (by rfl) (by kernel_rfl) (by kernel_rfl) (by kernel_rfl) (fun _ _ _ h => h) (Or.inl ⟨by rfl, ?ya19⟩) hS ?_
      case ya19 => intro wx hSw; (go_simp) <;> with_reducible rfl
      simp only [Act.put, List.setIfInBounds_toArray, List.set_cons_zero, List.set_cons_succ]
      refine Srt.takeAt (i := 20) (d := some 39) (v := ?va20) rfl (by rfl) (by kernel_rfl) (by kernel_rfl) (by kernel_rfl) (fun _ _ _ h => h) (Or.inl ⟨by rfl, ?ya20⟩) hS ?_
      case ya20 => intro wx hSw; (go_simp) <;> with_reducible rfl
      simp only [Act.put, List.setIfInBounds_toArray, List.set_cons_zero, List.set_cons_succ]
      refine Srt.takeAt (i := 21) (d := some 40) (v := ?va21) rfl (by rfl) (by kernel_rfl) (by kernel_rfl) (by kernel_rfl) (fun _ _ _ h => h) (Or.inl ⟨by rfl, ?ya21⟩) hS ?_
      case ya21 => intro wx hSw; (go_simp) <;> with_reducible rfl
      simp only [Act.put, List.setIfInBounds_toArray, List.set_cons_zero, List.set_cons_succ]
      refine Srt.takeAt (i := 23) (d := some 42) (v := ?va23) rfl (by rfl) (by kernel_rfl) (by kernel_rfl) (by kernel_rfl) (fun _ _ _ h => h) (Or.inl ⟨by rfl, ?ya23⟩) hS ?_
      case ya23 => intro wx hSw; (go_simp) <;> with_reducible rfl
      simp only [Act.put, List.setIfInBounds_toArray, List.set_cons_zero, List.set_cons_succ]
      refine wpAnyH_ready (rs := [22]) (by kernel_rfl) (by simp) ?_
      refine AllReadyH.cons rfl (fun K hK => ?_) AllReadyH.nil
      go_simp
      refine (copy_any M _ (IM.out.on p5) SM.out).mono ?_
      rintro e wp6 ⟨N, rfl, hN, hE, hS6, hbp6⟩
      have p6 : Below W.heap.size W wp6 := View.more p5 hbp6
      have NI := hid (And.intro hN (And.intro hE hS6))
      clear hN hE hS6 hbp6
      go_wp2_with fail
      refine hK.out _ _ p6 (fun _ => ?_)
      clear hK K
      replace hS := p6
      try simp only [Act.put, List.setIfInBounds_toArray, List.set_cons_zero, List.set_cons_succ]
      refine wpAnyH_ready (rs := [24]) (by kernel_rfl) (by simp) ?_
      refine AllReadyH.cons rfl (fun K hK => ?_) AllReadyH.nil
      go_simp
      refine (same_ref N M _ NI.out.1 (IM.out.on p6) NI.out.2.2).mono ?_
      rintro e wp7 ⟨rp7, rfl, hrp7, hbp7⟩
      have p7 : Below W.heap.size W wp7 := View.more p6 hbp7
      obtain rfl : rp7 = true := hrp7.2 NI.out.2.1
      clear hrp7 hbp7
      go_wp2_with fail
      refine hK.out _ _ p7 (fun _ => ?_)
      clear hK K
      replace hS := p7
      try simp only [Act.put, List.setIfInBounds_toArray, List.set_cons_zero, List.set_cons_succ]
      refine Srt.takeAt (i := 25) (d := some 44) (v := ?va25) rfl (by rfl) (by kernel_rfl) (by kernel_rfl) (by kernel_rfl) (fun _ _ _ h => h) (Or.inl ⟨by rfl, ?ya25⟩) hS ?_
      case ya25 => intro wx hSw; (go_simp) <;> with_reducible rfl
      simp only [Act.put, List.setIfInBounds_toArray, List.set_cons_zero, List.set_cons_succ]
      refine Srt.takeAt (i := 26) (d := some 45) (v := ?va26) rfl (by rfl) (by kernel_rfl) (by kernel_rfl) (by kernel_rfl) (fun _ _ _ h => h) (Or.inl ⟨by rfl, ?ya26⟩) hS ?_
      case ya26 => intro wx hSw; (go_simp) <;> with_reducible rfl
      simp only [Act.put, List.setIfInBounds_toArray, List.set_cons_zero, List.set_cons_succ]
      refine wpAnyH_done (by kernel_rfl) ?_ _
      refine NoPanic.normal ?_
      have ST := hid p7
      clear hS st0 p1 p2 p3 p4 p5 p6 p7 A0 A1 A2 A3 D0 D1 D2 D3 NI R3
      obtain ⟨W1, hW1⟩ : ∃ W1, wp7 = W1 := ⟨_, rfl⟩
      rw [hW1] at ST ⊢
      clear hW1
      go_wp2_with fail
      go_loopw [5] (fun i wr => ∃ k : Nat, k ≤ M.fns.n ∧ i = .int .i64 k ∧ Below W.heap.size W wr) (fun i _ => M.fns.n - (intOf i).toNat)
      case atStart => exact ⟨0, Nat.zero_le _, rfl, ST.out⟩
      case round =>
        clear ST
        obtain ⟨k, hk, rfl, hb⟩ := hrel
        have hb4 := hid hb
        obtain ⟨c0, c1, c2, c3⟩ := M3.out.on hb
        by_cases hlt : k < M.fns.n
        · obtain ⟨bb, oo, hix, d0, d1, d2, d3, d4⟩ := (IM.out.on hb).fns.at underlying25 size36 hlt
          have LF := hid (SM.out.light k hlt)
          have RF := hid (FM.out.fns k hlt).rng
          go_upto_region 11 with fail
          clear c0 c1 c2 c3 d0 d1 d2 d3 d4
          obtain ⟨W2, hW2⟩ : ∃ W2, wr.alloc (.cells (fcells (M.F k)) 36) = W2 := ⟨_, rfl⟩
          obtain ⟨N6, hN6⟩ : ∃ N6, wr.heap.size = N6 := ⟨_, rfl⟩
          have FW := hid (show FuncAt W2 N6 (M.F k) by rw [← hW2, ← hN6]; exact FuncAt.alloc wr (M.F k))
          have BW := hid (show Below W.heap.size W W2 by rw [← hW2]; exact new hb4.out _)
          rw [hW2, hN6]
          clear hW2 hN6
          have IF := hid ((IM.out.fnI k hlt).on BW.out)
          have TL := hid (typesL_le LF.out)
          have UL := hid (uses_le LF.out)
          have st0 : Below W2.heap.size W2 W2.drew := Below.drew (same _)
          have A0 : ∀ wx, Below W2.heap.size W2 wx → wx.cell? ⟨N6, 0, none⟩ = some (.string (M.F k).name) := fun wx h => cell_on h FW.out.c0
          have A1 : ∀ wx, Below W2.heap.size W2 wx → wx.cell? ⟨N6, 1, none⟩ = some (.bool (M.F k).out) := fun wx h => cell_on h FW.out.c1
          have A2 : ∀ wx, Below W2.heap.size W2 wx → wx.cell? ⟨N6, 2, none⟩ = some (.slice (M.F k).par.a (M.F k).par.n (M.F k).par.c) := fun wx h => cell_on h FW.out.c2
          have A3 : ∀ wx, Below W2.heap.size W2 wx → wx.cell? ⟨N6, 3, none⟩ = some (.int .i64 (M.F k).res) := fun wx h => cell_on h FW.out.c3
          have A4 : ∀ wx, Below W2.heap.size W2 wx → wx.cell? ⟨N6, 4, none⟩ = some (.slice (M.F k).blk.a (M.F k).blk.n (M.F k).blk.c) := fun wx h => cell_on h FW.out.c4
          refine wp_region_noPanic ?_
          refine wp_region_held_drew (S := fun wx => Below W2.heap.size W2 wx) (by kernel_rfl) st0 (fun hS => ?_)
          refine Srt.takeAt (i := 0) (d := some 58) (v := ?vb0) rfl (by rfl) (by kernel_rfl) (by kernel_rfl) (by kernel_rfl) (fun _ _ _ h => h) (Or.inl ⟨by rfl, ?yb0⟩) hS ?_
          case yb0 => intro wx hSw; (go_simp) <;> with_reducible rfl
          simp only [Act.put, List.setIfInBounds_toArray, List.set_cons_zero, List.set_cons_succ]
          refine Srt.takeAt (i := 2) (d := some 60) (v := ?vb2) rfl (by rfl) (by kernel_rfl) (by kernel_rfl) (by kernel_rfl) (fun _ _ _ h => h) (Or.inl ⟨by rfl, ?yb2⟩) hS ?_
          case yb2 => intro wx hSw; (go_simp) <;> with_reducible rfl
          simp only [Act.put, List.setIfInBounds_toArray, List.set_cons_zero, List.set_cons_succ]
          refine wpAnyH_ready (rs := [1]) (by kernel_rfl) (by simp) ?_
          refine AllReadyH.cons rfl (fun K hK => ?_) AllReadyH.nil
          go_simp
          refine (size_ir (M.F k) _ (IF.out.on st0) LF.out).mono ?_
          rintro e wp1 ⟨rfl, hbp1⟩
          have p1 : Below W2.heap.size W2 wp1 := View.more st0 hbp1
          clear hbp1
          go_wp2_with fail
          refine hK.out _ _ p1 (fun _ => ?_)
          clear hK K
          replace hS := p1
          try simp only [Act.put, List.setIfInBounds_toArray, List.set_cons_zero, List.set_cons_succ]
          refine wpAnyH_ready (rs := [3]) (by kernel_rfl) (by simp) ?_
          refine AllReadyH.cons rfl (fun K hK => ?_) AllReadyH.nil
          go_simp
          refine (size_ref (M.F k) _ (IF.out.on p1) LF.out).mono ?_
          rintro e wp2 ⟨rfl, hbp2⟩
          have p2 : Below W2.heap.size W2 wp2 := View.more p1 hbp2
          clear hbp2
          go_wp2_with fail
          refine hK.out _ _ p2 (fun _ => ?_)
          clear hK K
          replace hS := p2
          try simp only [Act.put, List.setIfInBounds_toArray, List.set_cons_zero, List.set_cons_succ]
          refine Srt.takeAt (i := 4) (d := some 62) (v := ?vb4) rfl (by rfl) (by kernel_rfl) (by kernel_rfl) (by kernel_rfl) (fun _ _ _ h => h) (Or.inl ⟨by rfl, ?yb4⟩) hS ?_
          case yb4 => intro wx hSw; (go_simp) <;> with_reducible rfl
          simp only [Act.put, List.setIfInBounds_toArray, List.set_cons_zero, List.set_cons_succ]
          refine Srt.takeAt (i := 5) (d := some 63) (v := ?vb5) rfl (by rfl) (by kernel_rfl) (by kernel_rfl) (by kernel_rfl) (fun _ _ _ h => h) (Or.inl ⟨by rfl, ?yb5⟩) hS ?_
          case yb5 => intro wx hSw; (go_simp) <;> with_reducible rfl
          simp only [Act.put, List.setIfInBounds_toArray, List.set_cons_zero, List.set_cons_succ]
          refine Srt.takeAt (i := 6) (d := some 64) (v := ?vb6) rfl (by rfl) (by kernel_rfl) (by kernel_rfl) (by kernel_rfl) (fun _ _ _ h => h) (Or.inl ⟨by rfl, ?yb6⟩) hS ?_
          case yb6 => intro wx hSw; (go_simp) <;> with_reducible rfl
          simp only [Act.put, List.setIfInBounds_toArray, List.set_cons_zero, List.set_cons_succ]
          refine Srt.takeAt (i := 8) (d := some 66) (v := ?vb8) rfl (by rfl) (by kernel_rfl) (by kernel_rfl) (by kernel_rfl) (fun _ _ _ h => h) (Or.inl ⟨by rfl, ?yb8⟩) hS ?_
          case yb8 => intro wx hSw; (go_simp) <;> with_reducible rfl
          simp only [Act.put, List.setIfInBounds_toArray, List.set_cons_zero, List.set_cons_succ]
          refine wpAnyH_ready (rs := [7]) (by kernel_rfl) (by simp) ?_
          refine AllReadyH.cons rfl (fun K hK => ?_) AllReadyH.nil
          go_simp
          refine (values_ir (M.F k) _ (IF.out.on p2) LF.out).mono ?_
          rintro e wp3 ⟨rfl, hbp3⟩
          have p3 : Below W2.heap.size W2 wp3 := View.more p2 hbp3
          clear hbp3
          go_wp2_with fail
          refine hK.out _ _ p3 (fun _ => ?_)
          clear hK K
          replace hS := p3
          try simp only [Act.put, List.setIfInBounds_toArray, List.set_cons_zero, List.set_cons_succ]
          refine wpAnyH_ready (rs := [9]) (by kernel_rfl) (by simp) ?_
          refine AllReadyH.cons rfl (fun K hK => ?_) AllReadyH.nil
          go_simp
          refine (values_ref (M.F k) _ (IF.out.on p3) LF.out).mono ?_
          rintro e wp4 ⟨rfl, hbp4⟩
          have p4 : Below W2.heap.size W2 wp4 := View.more p3 hbp4
          clear hbp4
          go_wp2_with fail
          refine hK.out _ _ p4 (fun _ => ?_)
          clear hK K
          replace hS := p4
          try simp only [Act.put, List.setIfInBounds_toArray, List.set_cons_zero, List.set_cons_succ]
          refine Srt.takeAt (i := 10) (d := some 68) (v := ?vb10) rfl (by rfl) (by kernel_rfl) (by kernel_rfl) (by kernel_rfl) (fun _ _ _ h => h) (Or.inl ⟨by rfl, ?yb10⟩) hS ?_
          case yb10 => intro wx hSw; (go_simp) <;> with_reducible rfl
          simp only [Act.put, List.setIfInBounds_toArray, List.set_cons_zero, List.set_cons_succ]
          refine Srt.takeAt (i := 11) (d := some 69) (v := ?vb11) rfl (by rfl) (by kernel_rfl) (by kernel_rfl) (by kernel_rfl) (fun _ _ _ h => h) (Or.inl ⟨by rfl, ?yb11⟩) hS ?_
          case yb11 => intro wx hSw; (go_simp) <;> with_reducible rfl
          simp only [Act.put, List.setIfInBounds_toArray, List.set_cons_zero, List.set_cons_succ]
          refine Srt.takeAt (i := 12) (d := some 70) (v := ?vb12) rfl (by rfl) (by kernel_rfl) (by kernel_rfl) (by kernel_rfl) (fun _ _ _ h => h) (Or.inl ⟨by rfl, ?yb12⟩) hS ?_
          case yb12 => intro wx hSw; (go_simp) <;> with_reducible rfl
          simp only [Act.put, List.setIfInBounds_toArray, List.set_cons_zero, List.set_cons_succ]
          refine Srt.takeAt (i := 13) (d := some 71) (v := ?vb13) rfl (by rfl) (by kernel_rfl) (by kernel_rfl) (by kernel_rfl) (fun _ _ _ h => h) (Or.inl ⟨by rfl, ?yb13⟩) hS ?_
          case yb13 => intro wx hSw; (go_simp) <;> with_reducible rfl
          simp only [Act.put, List.setIfInBounds_toArray, List.set_cons_zero, List.set_cons_succ]
          refine Srt.takeAt (i := 15) (d := some 73) (v := ?vb15) rfl (by rfl) (by kernel_rfl) (by kernel_rfl) (by kernel_rfl) (fun _ _ _ h => h) (Or.inl ⟨by rfl, ?yb15⟩) hS ?_
          case yb15 => intro wx hSw; (go_simp) <;> with_reducible rfl
          simp only [Act.put, List.setIfInBounds_toArray, List.set_cons_zero, List.set_cons_succ]
          refine wpAnyH_ready (rs := [14]) (by kernel_rfl) (by simp) ?_
          refine AllReadyH.cons rfl (fun K hK => ?_) AllReadyH.nil
          go_simp
          refine (types_ir (M.F k) _ (IF.out.on p4) LF.out).mono ?_
          rintro e wp5 ⟨sp5, rfl, hnp5, hip5, _, hbp5⟩
          have p5 : Below W2.heap.size W2 wp5 := View.more p4 hbp5
          have Np5 := hid hnp5
          have Ip5 := hid hip5
          have bp5 := hid hbp5
          clear hnp5 hip5 hbp5
          go_wp2_with fail
          refine hK.out _ _ p5 (fun _ => ?_)
          clear hK K
          replace hS := p5
          try simp only [Act.put, List.setIfInBounds_toArray, List.set_cons_zero, List.set_cons_succ]
          refine wpAnyH_ready (rs := [16]) (by kernel_rfl) (by simp) ?_
          refine AllReadyH.cons rfl (fun K hK => ?_) AllReadyH.nil
          go_simp
          refine (types_ref (M.F k) _ (IF.out.on p5) LF.out).mono ?_
          rintro e wp6 ⟨sp6, rfl, hnp6, hip6, _, hbp6⟩
          have p6 : Below W2.heap.size W2 wp6 := View.more p5 hbp6
          have Np6 := hid hnp6
          have Ip6 := hid hip6
          have bp6 := hid hbp6
          clear hnp6 hip6 hbp6
          go_wp2_with fail
          refine hK.out _ _ p6 (fun _ => ?_)
          clear hK K
          replace hS := p6
          try simp only [Act.put, List.setIfInBounds_toArray, List.set_cons_zero, List.set_cons_succ]
          refine wpAnyH_ready (rs := [17]) (by kernel_rfl) (by simp) ?_
          refine AllReadyH.cons rfl (fun K hK => ?_) AllReadyH.nil
          go_simp
          refine (ints_any sp5 sp6 _ _ _ (Ip5.out.on bp6.out) Ip6.out (by rw [Np5.out]; exact TL.out)).mono ?_
          rintro e wp7 ⟨rp7, rfl, hrp7, qp7, rfl⟩
          obtain rfl : rp7 = true := hrp7.2 ⟨by rw [Np5.out, Np6.out], fun i hi => rfl⟩
          have p7 : Below W2.heap.size W2 (wp6.drewN qp7) := below_drewN p6 _
          clear hrp7
          go_wp2_with fail
          refine hK.out _ _ p7 (fun _ => ?_)
          clear hK K
          replace hS := p7
          try simp only [Act.put, List.setIfInBounds_toArray, List.set_cons_zero, List.set_cons_succ]
          refine Srt.takeAt (i := 18) (d := some 76) (v := ?vb18) rfl (by rfl) (by kernel_rfl) (by kernel_rfl) (by kernel_rfl) (fun _ _ _ h => h) (Or.inl ⟨by rfl, ?yb18⟩) hS ?_
          case yb18 => intro wx hSw; (go_simp) <;> with_reducible rfl
          simp only [Act.put, List.setIfInBounds_toArray, List.set_cons_zero, List.set_cons_succ]
          refine Srt.takeAt (i := 19) (d := some 77) (v := ?vb19) rfl (by rfl) (by kernel_rfl) (by kernel_rfl) (by kernel_rfl) (fun _ _ _ h => h) (Or.inl ⟨by rfl, ?yb19⟩) hS ?_
          case yb19 => intro wx hSw; (go_simp) <;> with_reducible rfl
          simp only [Act.put, List.setIfInBounds_toArray, List.set_cons_zero, List.set_cons_succ]
          refine Srt.takeAt (i := 20) (d := some 78) (v := ?vb20) rfl (by rfl) (by kernel_rfl) (by kernel_rfl) (by kernel_rfl) (fun _ _ _ h => h) (Or.inl ⟨by rfl, ?yb20⟩) hS ?_
          case yb20 => intro wx hSw; (go_simp) <;> with_reducible rfl
          simp only [Act.put, List.setIfInBounds_toArray, List.set_cons_zero, List.set_cons_succ]
          refine Srt.takeAt (i := 21) (d := some 79) (v := ?vb21) rfl (by rfl) (by kernel_rfl) (by kernel_rfl) (by kernel_rfl) (fun _ _ _ h => h) (Or.inl ⟨by rfl, ?yb21⟩) hS ?_
          case yb21 => intro wx hSw; (go_simp) <;> with_reducible rfl
          simp only [Act.put, List.setIfInBounds_toArray, List.set_cons_zero, List.set_cons_succ]
          refine Srt.takeAt (i := 23) (d := some 81) (v := ?vb23) rfl (by rfl) (by kernel_rfl) (by kernel_rfl) (by kernel_rfl) (fun _ _ _ h => h) (Or.inl ⟨by rfl, ?yb23⟩) hS ?_
          case yb23 => intro wx hSw; (go_simp) <;> with_reducible rfl
          simp only [Act.put, List.setIfInBounds_toArray, List.set_cons_zero, List.set_cons_succ]
          refine wpAnyH_ready (rs := [22]) (by kernel_rfl) (by simp) ?_
          refine AllReadyH.cons rfl (fun K hK => ?_) AllReadyH.nil
          go_simp
          refine (uses_ir (M.F k) _ (IF.out.on p7) LF.out).mono ?_
          rintro e wp8 ⟨sp8, rfl, hnp8, hip8, hbp8⟩
          have p8 : Below W2.heap.size W2 wp8 := View.more p7 hbp8
          have Np8 := hid hnp8
          have Ip8 := hid hip8
          have bp8 := hid hbp8
          clear hnp8 hip8 hbp8
          go_wp2_with fail
          refine hK.out _ _ p8 (fun _ => ?_)
          clear hK K
          replace hS := p8
          try simp only [Act.put, List.setIfInBounds_toArray, List.set_cons_zero, List.set_cons_succ]
          refine wpAnyH_ready (rs := [24]) (by kernel_rfl) (by simp) ?_
          refine AllReadyH.cons rfl (fun K hK => ?_) AllReadyH.nil
          go_simp
          refine (uses_ref (M.F k) _ (IF.out.on p8) LF.out).mono ?_
          rintro e wp9 ⟨sp9, rfl, hnp9, hip9, hbp9⟩
          have p9 : Below W2.heap.size W2 wp9 := View.more p8 hbp9
          have Np9 := hid hnp9
          have Ip9 := hid hip9
          have bp9 := hid hbp9
          clear hnp9 hip9 hbp9
          go_wp2_with fail
          refine hK.out _ _ p9 (fun _ => ?_)
          clear hK K
          replace hS := p9
          try simp only [Act.put, List.setIfInBounds_toArray, List.set_cons_zero, List.set_cons_succ]
          refine wpAnyH_ready (rs := [25]) (by kernel_rfl) (by simp) ?_
          refine AllReadyH.cons rfl (fun K hK => ?_) AllReadyH.nil
          go_simp
          refine (ints_any sp8 sp9 _ _ _ (Ip8.out.on bp9.out) Ip9.out (by rw [Np8.out]; exact UL.out)).mono ?_
          rintro e wq1 ⟨rq1, rfl, hrq1, qq1, rfl⟩
          obtain rfl : rq1 = true := hrq1.2 ⟨by rw [Np8.out, Np9.out], fun i hi => rfl⟩
          have q1 : Below W2.heap.size W2 (wp9.drewN qq1) := below_drewN p9 _
          clear hrq1
          go_wp2_with fail
          refine hK.out _ _ q1 (fun _ => ?_)
          clear hK K
          replace hS := q1
          try simp only [Act.put, List.setIfInBounds_toArray, List.set_cons_zero, List.set_cons_succ]
          refine Srt.takeAt (i := 26) (d := some 84) (v := ?vb26) rfl (by rfl) (by kernel_rfl) (by kernel_rfl) (by kernel_rfl) (fun _ _ _ h => h) (Or.inl ⟨by rfl, ?yb26⟩) hS ?_
          case yb26 => intro wx hSw; (go_simp) <;> with_reducible rfl
          simp only [Act.put, List.setIfInBounds_toArray, List.set_cons_zero, List.set_cons_succ]
          refine Srt.takeAt (i := 27) (d := some 85) (v := ?vb27) rfl (by rfl) (by kernel_rfl) (by kernel_rfl) (by kernel_rfl) (fun _ _ _ h => h) (Or.inl ⟨by rfl, ?yb27⟩) hS ?_
          case yb27 => intro wx hSw; (go_simp) <;> with_reducible rfl
          simp only [Act.put, List.setIfInBounds_toArray, List.set_cons_zero, List.set_cons_succ]
          refine Srt.takeAt (i := 28) (d := some 86) (v := ?vb28) rfl (by rfl) (by kernel_rfl) (by kernel_rfl) (by kernel_rfl) (fun _ _ _ h => h) (Or.inl ⟨by rfl, ?yb28⟩) hS ?_
          case yb28 => intro wx hSw; (go_simp) <;> with_reducible rfl
          simp only [Act.put, List.setIfInBounds_toArray, List.set_cons_zero, List.set_cons_succ]
          refine Srt.takeAt (i := 29) (d := some 87) (v := ?vb29) rfl (by rfl) (by kernel_rfl) (by kernel_rfl) (by kernel_rfl) (fun _ _ _ h => h) (Or.inl ⟨by rfl, ?yb29⟩) hS ?_
          case yb29 => intro wx hSw; (go_simp) <;> with_reducible rfl
          simp only [Act.put, List.setIfInBounds_toArray, List.set_cons_zero, List.set_cons_succ]
          refine Srt.takeAt (i := 31) (d := some 89) (v := ?vb31) rfl (by rfl) (by kernel_rfl) (by kernel_rfl) (by kernel_rfl) (fun _ _ _ h => h) (Or.inl ⟨by rfl, ?yb31⟩) hS ?_
          case yb31 => intro wx hSw; (go_simp) <;> with_reducible rfl
          simp only [Act.put, List.setIfInBounds_toArray, List.set_cons_zero, List.set_cons_succ]
          refine wpAnyH_ready (rs := [30]) (by kernel_rfl) (by simp) ?_
          refine AllReadyH.cons rfl (fun K hK => ?_) AllReadyH.nil
          go_simp
          refine (neat_any (M.F k) _ (IF.out.on q1) LF.out RF.out).mono ?_
          rintro e wq2 ⟨G, atG, rfl, hoG, hnG, hbq2⟩
          have q2 : Below W2.heap.size W2 wq2 := View.more q1 hbq2
          have GG := hid (And.intro hoG.inn hnG)
          clear hoG hnG hbq2
          go_wp2_with fail
          refine hK.out _ _ q2 (fun _ => ?_)
          clear hK K
          replace hS := q2
          try simp only [Act.put, List.setIfInBounds_toArray, List.set_cons_zero, List.set_cons_succ]
          refine wpAnyH_ready (rs := [32]) (by kernel_rfl) (by simp) ?_
          refine AllReadyH.cons rfl (fun K hK => ?_) AllReadyH.nil
          go_simp
          refine (neat_ref (M.F k) _ (IF.out.on q2) LF.out RF.out).mono ?_
          rintro e wq3 ⟨G2, atG2, rfl, hoG, hnG, hbq3⟩
          have q3 : Below W2.heap.size W2 wq3 := View.more q2 hbq3
          have GH := hid (And.intro hoG.inn (And.intro hnG (GG.out.1.on hbq3)))
          clear hoG hnG hbq3
          go_wp2_with fail
          refine hK.out _ _ q3 (fun _ => ?_)
          clear hK K
          replace hS := q3
          try simp only [Act.put, List.setIfInBounds_toArray, List.set_cons_zero, List.set_cons_succ]
          refine wpAnyH_ready (rs := [33]) (by kernel_rfl) (by simp) ?_
          refine AllReadyH.cons rfl (fun K hK => ?_) AllReadyH.nil
          go_simp
          refine (sameFunc_ref G G2 _ GH.out.2.2 GH.out.1 (neats_light GG.out.2 LF.out)).mono ?_
          rintro e wq4 ⟨rq4, rfl, hrq4, hbq4⟩
          have q4 : Below W2.heap.size W2 wq4 := View.more q3 hbq4
          obtain rfl : rq4 = true := hrq4.2 (neats_same GG.out.2 GH.out.2.1)
          clear hrq4 hbq4
          go_wp2_with fail
          refine hK.out _ _ q4 (fun _ => ?_)
          clear hK K
          replace hS := q4
          try simp only [Act.put, List.setIfInBounds_toArray, List.set_cons_zero, List.set_cons_succ]
          refine Srt.takeAt (i := 34) (d := some 92) (v := ?vb34) rfl (by rfl) (by kernel_rfl) (by kernel_rfl) (by kernel_rfl) (fun _ _ _ h => h) (Or.inl ⟨by rfl, ?yb34⟩) hS ?_
          case yb34 => intro wx hSw; (go_simp) <;> with_reducible rfl
          simp only [Act.put, List.setIfInBounds_toArray, List.set_cons_zero, List.set_cons_succ]
          refine Srt.takeAt (i := 35) (d := some 93) (v := ?vb35) rfl (by rfl) (by kernel_rfl) (by kernel_rfl) (by kernel_rfl) (fun _ _ _ h => h) (Or.inl ⟨by rfl, ?yb35⟩) hS ?_
          case yb35 => intro wx hSw; (go_simp) <;> with_reducible rfl
          simp only [Act.put, List.setIfInBounds_toArray, List.set_cons_zero, List.set_cons_succ]
          refine wpAnyH_done (by kernel_rfl) ?_ _
          refine NoPanic.normal ?_
          have ST := hid q4
          clear hS st0 p1 p2 p3 p4 p5 p6 p7 p8 p9 q1 q2 q3 q4 A0 A1 A2 A3 A4
          obtain ⟨W3, hW3⟩ : ∃ W3, wq4 = W3 := ⟨_, rfl⟩
          rw [hW3] at ST ⊢
          clear hW3
          go_wp2_with fail
          go_loopw [7] (fun i wr => ∃ i' : Nat, i' ≤ O.fns.n ∧ i = .int .i64 i' ∧ Below W2.heap.size W2 wr) (fun i _ => O.fns.n - (intOf i).toNat)
          case atStart => exact ⟨0, Nat.zero_le _, rfl, ST.out⟩
          case round =>
            clear ST
            obtain ⟨i, hi, rfl, hb⟩ := hrel
            have HB := hid hb
            obtain ⟨e0, e1, e2, e3⟩ := O3.out.on (View.more BW.out hb)
            by_cases hil : i < O.fns.n
            · obtain ⟨b2, o2, hix2, hFA⟩ := (IO.out.on (View.more BW.out hb)).fns.at underlying25 size36 hil
              have IX := hid (And.intro (IF.out.on hb) ((IO.out.fnI i hil).on (View.more BW.out hb)))
              have FX := FW.out.on hb
              have OX := O3.out.on (View.more BW.out hb)
              go_upto_region 16 with fail
              have st0 : Below wr.heap.size wr wr.drew := Below.drew (same _)
              have A0 : ∀ wx, Below wr.heap.size wr wx → wx.cell? ⟨N6, 0, none⟩ = some (.string (M.F k).name) := fun wx h => cell_on h FX.c0
              have A1 : ∀ wx, Below wr.heap.size wr wx → wx.cell? ⟨N6, 1, none⟩ = some (.bool (M.F k).out) := fun wx h => cell_on h FX.c1
              have A2 : ∀ wx, Below wr.heap.size wr wx → wx.cell? ⟨N6, 2, none⟩ = some (.slice (M.F k).par.a (M.F k).par.n (M.F k).par.c) := fun wx h => cell_on h FX.c2
              have A3 : ∀ wx, Below wr.heap.size wr wx → wx.cell? ⟨N6, 3, none⟩ = some (.int .i64 (M.F k).res) := fun wx h => cell_on h FX.c3
              have A4 : ∀ wx, Below wr.heap.size wr wx → wx.cell? ⟨N6, 4, none⟩ = some (.slice (M.F k).blk.a (M.F k).blk.n (M.F k).blk.c) := fun wx h => cell_on h FX.c4
              have D3 : ∀ wx, Below wr.heap.size wr wx → wx.cell? ⟨w.heap.size + 1, 3, none⟩ = some (.slice O.fns.a O.fns.n O.fns.c) := fun wx h => cell_on h OX.c3
              have E0 : ∀ wx, Below wr.heap.size wr wx → wx.cell? ⟨b2, o2, none⟩ = some (.string (O.F i).name) := fun wx h => cell_on h hFA.c0
              have E1 : ∀ wx, Below wr.heap.size wr wx → wx.cell? ⟨b2, o2 + 1, none⟩ = some (.bool (O.F i).out) := fun wx h => cell_on h hFA.c1
              have E2 : ∀ wx, Below wr.heap.size wr wx → wx.cell? ⟨b2, o2 + 2, none⟩ = some (.slice (O.F i).par.a (O.F i).par.n (O.F i).par.c) := fun wx h => cell_on h hFA.c2
              have E3 : ∀ wx, Below wr.heap.size wr wx → wx.cell? ⟨b2, o2 + 3, none⟩ = some (.int .i64 (O.F i).res) := fun wx h => cell_on h hFA.c3
              have E4 : ∀ wx, Below wr.heap.size wr wx → wx.cell? ⟨b2, o2 + 4, none⟩ = some (.slice (O.F i).blk.a (O.F i).blk.n (O.F i).blk.c) := fun wx h => cell_on h hFA.c4
              clear e0 e1 e2 e3 hFA FX OX
              refine wp_region_noPanic ?_
              refine wp_region_held_drew (S := fun wx => Below wr.heap.size wr wx) (by kernel_rfl) st0 (fun hS => ?_)
              refine Srt.takeAt (i := 0) (d := some 101) (v := ?vc0) rfl (by rfl) (by kernel_rfl) (by kernel_rfl) (by kernel_rfl) (fun _ _ _ h => h) (Or.inl ⟨by rfl, ?yc0⟩) hS ?_
              case yc0 => intro wx hSw; (go_simp) <;> with_reducible rfl
              simp only [Act.put, List.setIfInBounds_toArray, List.set_cons_zero, List.set_cons_succ]
              refine Srt.takeAt (i := 1) (d := some 102) (v := ?vc1) rfl (by rfl) (by kernel_rfl) (by kernel_rfl) (by kernel_rfl) (fun _ _ _ h => h) (Or.inl ⟨by rfl, ?yc1⟩) hS ?_
              case yc1 => intro wx hSw; (go_simp) <;> with_reducible rfl
              simp only [Act.put, List.setIfInBounds_toArray, List.set_cons_zero, List.set_cons_succ]
              refine Srt.takeAt (i := 2) (d := some 103) (v := ?vc2) rfl (by rfl) (by kernel_rfl) (by kernel_rfl) (by kernel_rfl) (fun _ _ _ h => h) (Or.inl ⟨by rfl, ?yc2⟩) hS ?_
              case yc2 => intro wx hSw; (go_simp) <;> with_reducible rfl
              simp only [Act.put, List.setIfInBounds_toArray, List.set_cons_zero, List.set_cons_succ]
              refine Srt.takeAt (i := 3) (d := some 104) (v := ?vc3) rfl (by rfl) (by kernel_rfl) (by kernel_rfl) (by kernel_rfl) (fun _ _ _ h => h) (Or.inl ⟨by rfl, ?yc3⟩) hS ?_
              case yc3 => intro wx hSw; (go_simp) <;> with_reducible rfl
              simp only [Act.put, List.setIfInBounds_toArray, List.set_cons_zero, List.set_cons_succ]
              refine Srt.takeAt (i := 4) (d := some 105) (v := ?vc4) rfl (by rfl) (by kernel_rfl) (by kernel_rfl) (by kernel_rfl) (fun _ _ _ h => h) (Or.inl ⟨by rfl, ?yc4⟩) hS ?_
              case yc4 => intro wx hSw; (go_simp) <;> with_reducible rfl
              simp only [Act.put, List.setIfInBounds_toArray, List.set_cons_zero, List.set_cons_succ]
              refine Srt.takeAt (i := 5) (d := some 106) (v := ?vc5) rfl (by rfl) (by kernel_rfl) (by kernel_rfl) (by kernel_rfl) (fun _ _ _ h => h) (Or.inl ⟨by rfl, ?yc5⟩) hS ?_
              case yc5 => intro wx hSw; (go_simp) <;> with_reducible rfl
              simp only [Act.put, List.setIfInBounds_toArray, List.set_cons_zero, List.set_cons_succ]
              refine Srt.takeAt (i := 7) (d := some 108) (v := ?vc7) rfl (by rfl) (by kernel_rfl) (by kernel_rfl) (by kernel_rfl) (fun _ _ _ h => h) (Or.inl ⟨by rfl, ?yc7⟩) hS ?_
              case yc7 => intro wx hSw; (go_simp) <;> with_reducible rfl
              simp only [Act.put, List.setIfInBounds_toArray, List.set_cons_zero, List.set_cons_succ]
              refine Srt.takeAt (i := 8) (d := some 109) (v := ?vc8) rfl (by rfl) (by kernel_rfl) (by kernel_rfl) (by kernel_rfl) (fun _ _ _ h => h) (Or.inl ⟨by rfl, ?yc8⟩) hS ?_
              case yc8 => intro wx hSw; (go_simp) <;> with_reducible rfl
              simp only [Act.put, List.setIfInBounds_toArray, List.set_cons_zero, List.set_cons_succ]
              refine Srt.takeAt (i := 9) (d := some 110) (v := ?vc9) rfl (by rfl) (by kernel_rfl) (by kernel_rfl) (by kernel_rfl) (fun _ _ _ h => h) (Or.inl ⟨by rfl, ?yc9⟩) hS ?_
              case yc9 => intro wx hSw; (go_simp) <;> with_reducible rfl
              simp only [Act.put, List.setIfInBounds_toArray, List.set_cons_zero, List.set_cons_succ]
              refine Srt.takeAt (i := 10) (d := some 111) (v := ?vc10) rfl (by rfl) (by kernel_rfl) (by kernel_rfl) (by kernel_rfl) (fun _ _ _ h => h) (Or.inl ⟨by rfl, ?yc10⟩) hS ?_
              case yc10 => intro wx hSw; (go_simp) <;> with_reducible rfl
              simp only [Act.put, List.setIfInBounds_toArray, List.set_cons_zero, List.set_cons_succ]
              refine Srt.takeAt (i := 11) (d := some 112) (v := ?vc11) rfl (by rfl) (by kernel_rfl) (by kernel_rfl) (by kernel_rfl) (fun _ _ _ h => h) (Or.inl ⟨by rfl, ?yc11⟩) hS ?_
              case yc11 => intro wx hSw; (go_simp) <;> with_reducible rfl
              simp only [Act.put, List.setIfInBounds_toArray, List.set_cons_zero, List.set_cons_succ]
              refine Srt.takeAt (i := 12) (d := some 113) (v := ?vc12) rfl (by rfl) (by kernel_rfl) (by kernel_rfl) (by kernel_rfl) (fun _ _ _ h => h) (Or.inl ⟨by rfl, ?yc12⟩) hS ?_
              case yc12 => intro wx hSw; (go_simp) <;> with_reducible rfl
              simp only [Act.put, List.setIfInBounds_toArray, List.set_cons_zero, List.set_cons_succ]
              refine wpAnyH_ready (rs := [6]) (by kernel_rfl) (by simp) ?_
              refine AllReadyH.cons rfl (fun K hK => ?_) AllReadyH.nil
              go_simp
              refine (sameFunc_ir (M.F k) (O.F i) _ (IX.out.1.on st0) (IX.out.2.on st0) LF.out).mono ?_
              rintro e wp1 ⟨rp1, rfl, hrp1, hbp1⟩
              have p1 : Below wr.heap.size wr wp1 := View.more st0 hbp1
              have R1 := hid hrp1
              clear hrp1 hbp1
              go_wp2_with fail
              refine hK.out _ _ p1 (fun _ => ?_)
              clear hK K
              replace hS := p1
              try simp only [Act.put, List.setIfInBounds_toArray, List.set_cons_zero, List.set_cons_succ]
              refine wpAnyH_ready (rs := [13]) (by kernel_rfl) (by simp) ?_
              refine AllReadyH.cons rfl (fun K hK => ?_) AllReadyH.nil
              go_simp
              refine (sameFunc_ref (M.F k) (O.F i) _ (IX.out.1.on p1) (IX.out.2.on p1) LF.out).mono ?_
              rintro e wp2 ⟨rp2, rfl, hrp2, hbp2⟩
              have p2 : Below wr.heap.size wr wp2 := View.more p1 hbp2
              have hcc : rp2 = rp1 := Bool.eq_iff_iff.2 (hrp2.trans R1.out.symm)
              subst hcc
              clear hrp2 hbp2
              go_wp2_with fail
              refine hK.out _ _ p2 (fun _ => ?_)
              clear hK K
              replace hS := p2
              try simp only [Act.put, List.setIfInBounds_toArray, List.set_cons_zero, List.set_cons_succ]
              refine Srt.takeAt (i := 14) (d := some 115) (v := ?vc14) rfl (by rfl) (by kernel_rfl) (by kernel_rfl) (by kernel_rfl) (fun _ _ _ h => h) (Or.inl ⟨by rfl, ?yc14⟩) hS ?_
              case yc14 => intro wx hSw; (go_simp) <;> with_reducible rfl
              simp only [Act.put, List.setIfInBounds_toArray, List.set_cons_zero, List.set_cons_succ]
              refine wpAnyH_done (by kernel_rfl) ?_ _
              refine NoPanic.normal ?_
              have ST := hid p2
              clear hS st0 p1 p2 A0 A1 A2 A3 A4 D3 E0 E1 E2 E3 E4 R1
              go_wp2_with fail
              go_round
              case rel => exact ⟨i + 1, by omega, by go_num, View.more HB.out ST.out⟩
              case measure => simp [intOf]; omega
            · obtain rfl : i = O.fns.n := by omega
              go_wp2_with fail
              go_round
              case rel => exact ⟨k + 1, by omega, by go_num, View.more BW.out HB.out⟩
              case measure => simp [intOf]; omega
        · obtain rfl : k = M.fns.n := by omega
          go_wp2_with fail
          go_ret
          exact ⟨rfl, View.more B3.out hb4.out⟩

end Go.Proofs.Ythaedlnefikigaa.Mod
