/-
  A module copied by the document: plnref3.Copy.
-/
import Derived.Test.YtolipafcoolpgaaGreatJ19
import Derived.Deep.RegionHeld3
import Derived.BigRegion
namespace Go.Proofs.YtolipafcoolpgaaGreat.CpM
open Go.RowKit View Rd Copy Srt Own Go.Proofs.YtolipafcoolpgaaGreat.Mod

set_option linter.unusedVariables false

set_option maxRecDepth 10000 in
set_option maxHeartbeats 8000000 in
theorem copy_both (M : MV) (w : World) (hM : InM w M) (hs : SmallM M) : Calls Tryz.prog 10 #[M.val] w fun e w' => CopiedB M w e w' := by
 have HM := hid hM
 have HS := hid hs
 clear hM hs
 go_enter Tryz.func10, Tryz.ntmps10
 go_wp2_with fail
 obtain ⟨ws0, hws0⟩ : ∃ ws0, ((w.alloc (.cells (mcells M) 27)).alloc (.cells #[.slice none 0 0, .slice none 0 0, .slice none 0 0, .slice none 0 0] 27)).alloc (.cells #[.slice none 0 0, .slice none 0 0, .slice none 0 0, .slice none 0 0] 27) = ws0 := ⟨_, rfl⟩
 have MX0 := hid (show MBox ws0 w.heap.size M by rw [← hws0]; exact ((MBox.alloc w M).on (new (same _) _)).on (new (same _) _))
 have q1 : (w.alloc (.cells (mcells M) 27)).heap.size = w.heap.size + 1 := by simp
 have q2 : ((w.alloc (.cells (mcells M) 27)).alloc (.cells (mcells zeroM) 27)).heap.size = w.heap.size + 2 := by simp
 have ZB0 := hid (show MBox ws0 (w.heap.size + 1) zeroM by rw [← hws0, ← q1]; exact (MBox.alloc (w.alloc (.cells (mcells M) 27)) zeroM).on (new (same _) _))
 have ZF0 := hid (show ∀ i, ws0.frozen? ⟨w.heap.size + 1, i, none⟩ = false by intro i; rw [← hws0, World.frozen?_alloc_old _ _ _ (by show w.heap.size + 1 ≠ _; rw [q2]; omega), ← q1]; exact World.frozen?_alloc_new _ _ _ i)
 have mv : MBox ws0 (w.heap.size + 2) zeroM := by rw [← hws0, ← q2]; exact MBox.alloc _ zeroM
 have CF0 := hid (show (ws0.cell? ⟨w.heap.size + 2, 0, none⟩ = some (.slice none 0 0)) ∧ (ws0.cell? ⟨w.heap.size + 2, 1, none⟩ = some (.slice none 0 0)) ∧ (ws0.cell? ⟨w.heap.size + 2, 2, none⟩ = some (.slice none 0 0)) ∧ (ws0.cell? ⟨w.heap.size + 2, 3, none⟩ = some (.slice none 0 0)) from ⟨mv.c0, mv.c1, mv.c2, mv.c3⟩)
 have FZ0 := hid (show ∀ i, ws0.frozen? ⟨w.heap.size + 2, i, none⟩ = false by intro i; rw [← hws0, ← q2]; exact World.frozen?_alloc_new _ _ _ i)
 have LO0 := hid (show Below w.heap.size w ws0 by rw [← hws0]; exact new (new (new (same w) _) _) _)
 have VL0 := hid (show w.heap.size + 2 < ws0.heap.size by rw [← hws0, World.size_alloc, q2]; omega)
 rw [hws0]
 clear hws0 q1 q2 mv
 have STE := hid (show GSt w ws0 (w.heap.size + 2) 65 3 0 0 (csE M.E) (ElS (fun i => (M.E i).par.n) M.EP) FpS ws0 (slv ⟨none, 0, 0⟩) (fun _ => ⟨none, 0, 0⟩) from GSt.start _ CF0.out.1 FZ0.out LO0.out VL0.out (Nat.le_refl _))
 go_loopw [4] (fun i wr => ∃ k : Nat, k ≤ M.ext.n ∧ i = .int .i64 k ∧ ∃ (vs : Sl) (t : Nat → Sl), GSt w ws0 (w.heap.size + 2) 65 3 k 0 (csE M.E) (ElS (fun i => (M.E i).par.n) M.EP) FpS wr (slv vs) t) (fun i _ => M.ext.n - (intOf i).toNat)
 case atStart => exact ⟨0, Nat.zero_le _, rfl, _, _, STE.out⟩
 case round =>
  clear STE
  obtain ⟨k, hk, rfl, vs, t, hst⟩ := hrel
  have ZS := hst.size
  have bx : wr.heap[w.heap.size]? = ws0.heap[w.heap.size]? := hst.kp _ (by omega) (by have := VL0.out; omega)
  obtain ⟨c0, c1, c2, c3⟩ := MX0.out.at_block bx
  have glim := HS.out.ext
  by_cases hlt : k < M.ext.n
  ·obtain ⟨rb, ro, hix, hr0⟩ := HM.out.ext.at underlying22 size65 hlt
   have hrb : rb < w.heap.size := World.block_lt_of_cell? _ _ hr0.c0
   have hr1 := hr0.on hst.low
   obtain ⟨r0, r1, r2⟩ := hr1
   have gs : (M.E k).par.n ≤ 1000 := by have := (HS.out.extI k hlt).2; omega
   go_upto_region 6 with fail
   obtain ⟨wq, hwq⟩ : ∃ wq, wr.alloc (.cells #[.string (M.E k).name, .slice (M.E k).par.a (M.E k).par.n (M.E k).par.c, .int .i64 (M.E k).res] 65) = wq := ⟨_, rfl⟩
   obtain ⟨xb, hxb⟩ : ∃ xb, wr.heap.size = xb := ⟨_, rfl⟩
   have x0 : wq.cell? ⟨xb, 0, none⟩ = some (.string (M.E k).name) := by rw [← hwq, ← hxb]; simp
   have x1 : wq.cell? ⟨xb, 1, none⟩ = some (.slice (M.E k).par.a (M.E k).par.n (M.E k).par.c) := by rw [← hwq, ← hxb]; simp
   have x2 : wq.cell? ⟨xb, 2, none⟩ = some (.int .i64 (M.E k).res) := by rw [← hwq, ← hxb]; simp
   have hst2 := hst.on (elS_stable _ _ _) (new (same wr) (.cells #[.string (M.E k).name, .slice (M.E k).par.a (M.E k).par.n (M.E k).par.c, .int .i64 (M.E k).res] 65))
   rw [hwq] at hst2
   have xlt : xb < wq.heap.size := by rw [← hwq, ← hxb]; simp
   have xv : ∀ b, (slv vs).ownBlock = some b → xb ≠ b := fun b hb => by have := (hst.g.own.lt b hb).2; omega
   have xge : ws0.heap.size ≤ xb := by rw [← hxb]; exact ZS
   rw [hwq, hxb]
   clear hwq hxb hst c0 c1 c2 c3 r0 r1 r2 bx ZS hix hr0
   obtain ⟨wr, hwr⟩ : ∃ wr, wq = wr := ⟨_, rfl⟩
   rw [hwr] at x0 x1 x2 hst2 xlt ⊢
   clear hwr
   have hst := hst2
   clear hst2
   have ZS := hst.size
   have HIS := hid (show Ints wr.drew (M.E k).par (M.EP k) from ((HM.out.extP k hlt).on hst.low).on (Below.drew (same _)))
   have y0 : ∀ wy, SX wr (w.heap.size + 1) xb wy → wy.cell? ⟨xb, 0, none⟩ = some (.string (M.E k).name) := fun wy h => by rw [World.cell?_of_block (w := wr) h.2]; exact x0
   have y1 : ∀ wy, SX wr (w.heap.size + 1) xb wy → wy.cell? ⟨xb, 1, none⟩ = some (.slice (M.E k).par.a (M.E k).par.n (M.E k).par.c) := fun wy h => by rw [World.cell?_of_block (w := wr) h.2]; exact x1
   have y2 : ∀ wy, SX wr (w.heap.size + 1) xb wy → wy.cell? ⟨xb, 2, none⟩ = some (.int .i64 (M.E k).res) := fun wy h => by rw [World.cell?_of_block (w := wr) h.2]; exact x2
   have HP := hid hst
   have hVL := VL0.out
   have hcV : wr.cell? ⟨w.heap.size + 2, 0, none⟩ = some (.slice vs.a vs.n vs.c) := hst.c
   have s0 : SX wr (w.heap.size + 1) xb wr.drew := ⟨Below.drew (Below.refl _ _), rfl⟩
   have e0 : wr.drew.heap.size = wr.heap.size := rfl
   have xne : xb ≠ w.heap.size + 2 := by omega
   have sec : ∀ {w2 : World}, Below wr.drew.heap.size wr.drew w2 → SX wr (w.heap.size + 1) xb w2 := fun h => ⟨s0.1.trans (h.mono (by show _ ≤ wr.heap.size; omega)), h.block xb xlt⟩
   have sed : ∀ {w2 : World} (h : Below wr.drew.heap.size wr.drew w2) (o : Obj), SX wr (w.heap.size + 1) xb (w2.alloc o) := fun h o => ⟨(sec h).1.alloc (by have := h.size; omega) o, (Below.heap_alloc _ _ _ (by have := h.size; omega)).trans (sec h).2⟩
   have see : ∀ {w2 w4 : World} {o : Obj} (h : Below wr.drew.heap.size wr.drew w2), (w2.alloc o).grownBy w4 (slv vs).ownBlock → SX wr (w.heap.size + 1) xb w4 := fun h g => ⟨(sed h _).1.grown g (by rw [World.size_alloc]; have := h.size; omega) (fun b hb => by have := (HP.out.g.own.lt b hb).1; omega), (g.block xb (by rw [World.size_alloc]; have := h.size; omega) (fun e => xv xb e.symm rfl)).trans (sed h _).2⟩
   have sef : ∀ {w4 : World} (h : SX wr (w.heap.size + 1) xb w4) (u : Value), SX wr (w.heap.size + 1) xb (w4.setCell ⟨w.heap.size + 2, 0, none⟩ u) := fun h u => ⟨h.1.setCell (by show _ ≤ w.heap.size + 2; omega) u, (Below.heap_setCell _ _ _ _ xne).trans h.2⟩
   have cc : ∀ {w2 : World}, Below wr.drew.heap.size wr.drew w2 → w2.cell? ⟨w.heap.size + 2, 0, none⟩ = some (.slice vs.a vs.n vs.c) := fun h => cell_on (w := wr.drew) h HP.out.c
   have cd : ∀ {w2 : World} (h : Below wr.drew.heap.size wr.drew w2) (o : Obj), (w2.alloc o).cell? ⟨w.heap.size + 2, 0, none⟩ = some (.slice vs.a vs.n vs.c) := fun h o => cell_on (new (same _) o) (cc h)
   have nV : ∀ b, (slv vs).ownBlock = some b → w.heap.size + 2 ≠ b := fun b hb => by have := (HP.out.g.own.lt b hb).1; omega
   have ce : ∀ {w2 w4 : World} {o : Obj} (h : Below wr.drew.heap.size wr.drew w2), (w2.alloc o).grownBy w4 (slv vs).ownBlock → w4.cell? ⟨w.heap.size + 2, 0, none⟩ = some (.slice vs.a vs.n vs.c) := fun {w2 w4 o} h g => by
    rw [World.cell?_of_block (w := w2.alloc o) (g.block (w.heap.size + 2) (by rw [World.size_alloc]; have := h.size; omega) (fun e => nV _ e.symm rfl))]
    exact cd h o
   have fzz : ∀ {w2 w4 : World} {o : Obj} (h : Below wr.drew.heap.size wr.drew w2), (w2.alloc o).grownBy w4 (slv vs).ownBlock → w4.frozen? ⟨w.heap.size + 2, 0, none⟩ = false := fun {w2 w4 o} h g => by
    rw [World.frozen?_of_block (w := w2.alloc o) (g.block (w.heap.size + 2) (by rw [World.size_alloc]; have := h.size; omega) (fun e => nV _ e.symm rfl)), World.frozen?_alloc_old _ _ _ (by show w.heap.size + 2 ≠ _; have := h.size; omega), h.frozen (by show w.heap.size + 2 < wr.heap.size; omega)]
    exact HP.out.fz _
   have fin : ∀ {w2 : World} (h : Below wr.drew.heap.size wr.drew w2) (ta : Sl), ∃ v' w4, (Builtin.append_ #[22, 22] 22 #[.slice vs.a vs.n vs.c, .slice (some ⟨w2.heap.size, 0, none⟩) 1 1]).run Tryz.prog (w2.alloc (.cells #[.string (M.E k).name, .slice ta.a ta.n ta.c, .int .i64 (M.E k).res] 65)) = .ok v' w4 ∧ w4.ownsRow ws0.heap.size 65 3 v' (k + 1) (fl (fun i => csE M.E i (t i)) k ++ csE M.E k ta) ∧ (w2.alloc (.cells #[.string (M.E k).name, .slice ta.a ta.n ta.c, .int .i64 (M.E k).res] 65)).grownBy w4 (slv vs).ownBlock ∧ (v'.ownBlock = (slv vs).ownBlock ∨ v'.ownBlock = some (w2.heap.size + 1)) := fun h ta =>
    app_gen underlying22 info55c rfl (by decide) (by decide) (owns_on (more (Below.drew (same wr)) h) HP.out.g.own) (by omega) (by have := h.size; omega) #[.string (M.E k).name, .slice ta.a ta.n ta.c, .int .i64 (M.E k).res] rfl (by intro x hx; simp at hx; rcases hx with rfl | rfl | rfl <;> rfl) _
   clear hst
   clear x0 x1 x2
   refine wp_region_noPanic ?_
   refine wp_region_held_drew (S := fun wy => SX wr (w.heap.size + 1) xb wy) (by kernel_rfl) s0 (fun hS => ?_)
   refine Own.tk (i := 0) (d := some 21) (v := ?vnE0) rfl (by rfl) ?ynE0 hS ?_
   case ynE0 => intro wx hSw; (go_simp) <;> with_reducible rfl
   simp only [Act.put, sP1, sP2, sP3]
   refine Own.tk (i := 2) (d := some 23) (v := ?vnE2) rfl (by rfl) ?ynE2 hS ?_
   case ynE2 => intro wx hSw; (go_simp) <;> with_reducible rfl
   simp only [Act.put, sP1, sP2, sP3]
   refine Own.tk (i := 3) (d := some 24) (v := ?vnE3) rfl (by rfl) ?ynE3 hS ?_
   case ynE3 => intro wx hSw; (go_simp) <;> with_reducible rfl
   simp only [Act.put, sP1, sP2, sP3]
   refine Own.tk (i := 4) (d := some 25) (v := ?vnE4) rfl (by rfl) ?ynE4 hS ?_
   case ynE4 => intro wx hSw; (go_simp) <;> with_reducible rfl
   simp only [Act.put, sP1, sP2, sP3]
   refine Own.tk (i := 5) (d := some 26) (v := ?vnE5) rfl (by rfl) ?ynE5 hS ?_
   case ynE5 => intro wx hSw; (go_simp) <;> with_reducible rfl
   simp only [Act.put, sP1, sP2, sP3]
   refine Own.tk (i := 7) (d := some 28) (v := ?vnE7) rfl (by rfl) ?ynE7 hS ?_
   case ynE7 => intro wx hSw; (go_simp) <;> with_reducible rfl
   simp only [Act.put, sP1, sP2, sP3]
   refine Own.tk (i := 8) (d := some 29) (v := ?vnE8) rfl (by rfl) ?ynE8 hS ?_
   case ynE8 => intro wx hSw; (go_simp) <;> with_reducible rfl
   simp only [Act.put, sP1, sP2, sP3]
   refine wpAnyH_ready (rs := [1, 6]) (by kernel_rfl) (by simp) ?_
   refine AllReadyH.cons rfl (fun K hK => ?_) (AllReadyH.cons rfl (fun K hK => ?_) AllReadyH.nil)
   ·go_simp
    refine hK.out _ _ s0 (fun _ => ?_)
    clear hK K
    replace hS := s0
    try simp only [Act.put, sP1, sP2, sP3]
    refine wpAnyH_ready (rs := [6]) (by kernel_rfl) (by simp) ?_
    refine AllReadyH.cons rfl (fun K hK => ?_) AllReadyH.nil
    obtain ⟨ta, w2, hrun2, hn2, hi2, hm2, hb2⟩ := run_append_copy (M.E k).par (M.EP k) wr.drew 33 HIS.out gs
    have EL := hid (show ElS (fun i => (M.E i).par.n) M.EP ws0.heap.size w2 k ta from ⟨hn2, hi2, hm2.wide (by show _ ≤ wr.heap.size; omega) (Nat.le_refl _)⟩)
    have FE := hid (show ∀ b, FpS ta b → wr.heap.size ≤ b ∧ b < w2.heap.size from fun b hb => by rw [hb.2]; have := mine_blk hm2 hb.1; exact ⟨this.2.1, this.2.2.1⟩)
    clear hn2 hi2 hm2
    rw [if_pos (by rfl)]
    refine wp_app (s := .const (.slice none 0 0)) (x := .tmp 26) (t := 33) (d := some 27) rfl rfl rfl rfl rfl hrun2 ?_
    try simp only [Act.put, sP1, sP2, sP3]
    have s2 := sec hb2
    obtain ⟨v5, w4, hrun, hown4, hgr4, hat4⟩ := fin hb2 ta
    obtain ⟨sv, rfl⟩ := owns_slv hown4
    have hc2 := cc hb2
    have hc3 := cd hb2 (.cells #[.string (M.E k).name, .slice ta.a ta.n ta.c, .int .i64 (M.E k).res] 65)
    have s3 := sed hb2 (.cells #[.string (M.E k).name, .slice ta.a ta.n ta.c, .int .i64 (M.E k).res] 65)
    have s4 := see hb2 hgr4
    have hc4 := ce hb2 hgr4
    have s5 := sef s4 (.slice sv.a sv.n sv.c)
    have fz4 := fzz hb2 hgr4
    refine hK.out _ _ s2 (fun _ => ?_)
    clear hK K
    replace hS := s2
    try simp only [Act.put, sP1, sP2, sP3]
    refine Own.tk (i := 9) (d := some 30) (v := ?vmEa9) rfl (by rfl) ?ymEa9 hS ?_
    case ymEa9 => intro wx hSw; (go_simp) <;> with_reducible rfl
    simp only [Act.put, sP1, sP2, sP3]
    refine wpAnyH_ready (rs := [10]) (by kernel_rfl) (by simp) ?_
    refine AllReadyH.cons rfl (fun K hK => ?_) AllReadyH.nil
    go_simp
    refine hK.out _ _ s3 (fun _ => ?_)
    clear hK K
    replace hS := s3
    try simp only [Act.put, sP1, sP2, sP3]
    refine wpAnyH_ready (rs := [11]) (by kernel_rfl) (by simp) ?_
    refine AllReadyH.cons rfl (fun K hK => ?_) AllReadyH.nil
    rw [if_pos (by rfl)]
    refine wp_app (s := .tmp 22) (x := .tmp 31) (t := 22) (d := some 32) rfl rfl rfl rfl rfl hrun ?_
    try simp only [Act.put, sP1, sP2, sP3]
    refine hK.out _ _ s4 (fun _ => ?_)
    clear hK K
    replace hS := s4
    try simp only [Act.put, sP1, sP2, sP3]
    refine Own.tk (i := 12) (d := some 33) (v := ?vtEa12) rfl (by rfl) ?ytEa12 hS ?_
    case ytEa12 => intro wx hSw; (go_simp) <;> with_reducible rfl
    simp only [Act.put, sP1, sP2, sP3]
    refine wpAnyH_ready (rs := [13]) (by kernel_rfl) (by simp) ?_
    refine AllReadyH.cons rfl (fun K hK => ?_) AllReadyH.nil
    go_simp
    refine hK.out _ _ s5 (fun _ => ?_)
    clear hK K
    replace hS := s5
    try simp only [Act.put, sP1, sP2, sP3]
    refine wpAnyH_done (by kernel_rfl) ?_ _
    refine NoPanic.normal ?_
    obtain ⟨t2, g2⟩ := HP.out.step (elS_stable _ _ _) hb2 EL.out FE.out hown4 hgr4 hat4
    have FF := hid g2
    clear g2
    go_wp2_with fail
    go_round
    case rel => exact ⟨k + 1, by omega, by go_num, sv, _, FF.out⟩
    case measure => simp [intOf]; omega
   ·obtain ⟨ta, w2, hrun2, hn2, hi2, hm2, hb2⟩ := run_append_copy (M.E k).par (M.EP k) wr.drew 33 HIS.out gs
    have EL := hid (show ElS (fun i => (M.E i).par.n) M.EP ws0.heap.size w2 k ta from ⟨hn2, hi2, hm2.wide (by show _ ≤ wr.heap.size; omega) (Nat.le_refl _)⟩)
    have FE := hid (show ∀ b, FpS ta b → wr.heap.size ≤ b ∧ b < w2.heap.size from fun b hb => by rw [hb.2]; have := mine_blk hm2 hb.1; exact ⟨this.2.1, this.2.2.1⟩)
    clear hn2 hi2 hm2
    rw [if_pos (by rfl)]
    refine wp_app (s := .const (.slice none 0 0)) (x := .tmp 26) (t := 33) (d := some 27) rfl rfl rfl rfl rfl hrun2 ?_
    try simp only [Act.put, sP1, sP2, sP3]
    have s2 := sec hb2
    obtain ⟨v5, w4, hrun, hown4, hgr4, hat4⟩ := fin hb2 ta
    obtain ⟨sv, rfl⟩ := owns_slv hown4
    have hc2 := cc hb2
    have hc3 := cd hb2 (.cells #[.string (M.E k).name, .slice ta.a ta.n ta.c, .int .i64 (M.E k).res] 65)
    have s3 := sed hb2 (.cells #[.string (M.E k).name, .slice ta.a ta.n ta.c, .int .i64 (M.E k).res] 65)
    have s4 := see hb2 hgr4
    have hc4 := ce hb2 hgr4
    have s5 := sef s4 (.slice sv.a sv.n sv.c)
    have fz4 := fzz hb2 hgr4
    refine hK.out _ _ s2 (fun _ => ?_)
    clear hK K
    replace hS := s2
    try simp only [Act.put, sP1, sP2, sP3]
    refine Own.tk (i := 9) (d := some 30) (v := ?vmEb9) rfl (by rfl) ?ymEb9 hS ?_
    case ymEb9 => intro wx hSw; (go_simp) <;> with_reducible rfl
    simp only [Act.put, sP1, sP2, sP3]
    refine wpAnyH_ready (rs := [1, 10]) (by kernel_rfl) (by simp) ?_
    refine AllReadyH.cons rfl (fun K hK => ?_) (AllReadyH.cons rfl (fun K hK => ?_) AllReadyH.nil)
    ·go_simp
     refine hK.out _ _ s2 (fun _ => ?_)
     clear hK K
     replace hS := s2
     try simp only [Act.put, sP1, sP2, sP3]
     refine wpAnyH_ready (rs := [10]) (by kernel_rfl) (by simp) ?_
     refine AllReadyH.cons rfl (fun K hK => ?_) AllReadyH.nil
     go_simp
     refine hK.out _ _ s3 (fun _ => ?_)
     clear hK K
     replace hS := s3
     try simp only [Act.put, sP1, sP2, sP3]
     refine wpAnyH_ready (rs := [11]) (by kernel_rfl) (by simp) ?_
     refine AllReadyH.cons rfl (fun K hK => ?_) AllReadyH.nil
     rw [if_pos (by rfl)]
     refine wp_app (s := .tmp 22) (x := .tmp 31) (t := 22) (d := some 32) rfl rfl rfl rfl rfl hrun ?_
     try simp only [Act.put, sP1, sP2, sP3]
     refine hK.out _ _ s4 (fun _ => ?_)
     clear hK K
     replace hS := s4
     try simp only [Act.put, sP1, sP2, sP3]
     refine Own.tk (i := 12) (d := some 33) (v := ?vtEb12) rfl (by rfl) ?ytEb12 hS ?_
     case ytEb12 => intro wx hSw; (go_simp) <;> with_reducible rfl
     simp only [Act.put, sP1, sP2, sP3]
     refine wpAnyH_ready (rs := [13]) (by kernel_rfl) (by simp) ?_
     refine AllReadyH.cons rfl (fun K hK => ?_) AllReadyH.nil
     go_simp
     refine hK.out _ _ s5 (fun _ => ?_)
     clear hK K
     replace hS := s5
     try simp only [Act.put, sP1, sP2, sP3]
     refine wpAnyH_done (by kernel_rfl) ?_ _
     refine NoPanic.normal ?_
     obtain ⟨t2, g2⟩ := HP.out.step (elS_stable _ _ _) hb2 EL.out FE.out hown4 hgr4 hat4
     have FF := hid g2
     clear g2
     go_wp2_with fail
     go_round
     case rel => exact ⟨k + 1, by omega, by go_num, sv, _, FF.out⟩
     case measure => simp [intOf]; omega
    ·go_simp
     refine hK.out _ _ s3 (fun _ => ?_)
     clear hK K
     replace hS := s3
     try simp only [Act.put, sP1, sP2, sP3]
     refine wpAnyH_ready (rs := [1]) (by kernel_rfl) (by simp) ?_
     refine AllReadyH.cons rfl (fun K hK => ?_) AllReadyH.nil
     go_simp
     refine hK.out _ _ s3 (fun _ => ?_)
     clear hK K
     replace hS := s3
     try simp only [Act.put, sP1, sP2, sP3]
     refine wpAnyH_ready (rs := [11]) (by kernel_rfl) (by simp) ?_
     refine AllReadyH.cons rfl (fun K hK => ?_) AllReadyH.nil
     rw [if_pos (by rfl)]
     refine wp_app (s := .tmp 22) (x := .tmp 31) (t := 22) (d := some 32) rfl rfl rfl rfl rfl hrun ?_
     try simp only [Act.put, sP1, sP2, sP3]
     refine hK.out _ _ s4 (fun _ => ?_)
     clear hK K
     replace hS := s4
     try simp only [Act.put, sP1, sP2, sP3]
     refine Own.tk (i := 12) (d := some 33) (v := ?vtEc12) rfl (by rfl) ?ytEc12 hS ?_
     case ytEc12 => intro wx hSw; (go_simp) <;> with_reducible rfl
     simp only [Act.put, sP1, sP2, sP3]
     refine wpAnyH_ready (rs := [13]) (by kernel_rfl) (by simp) ?_
     refine AllReadyH.cons rfl (fun K hK => ?_) AllReadyH.nil
     go_simp
     refine hK.out _ _ s5 (fun _ => ?_)
     clear hK K
     replace hS := s5
     try simp only [Act.put, sP1, sP2, sP3]
     refine wpAnyH_done (by kernel_rfl) ?_ _
     refine NoPanic.normal ?_
     obtain ⟨t2, g2⟩ := HP.out.step (elS_stable _ _ _) hb2 EL.out FE.out hown4 hgr4 hat4
     have FF := hid g2
     clear g2
     go_wp2_with fail
     go_round
     case rel => exact ⟨k + 1, by omega, by go_num, sv, _, FF.out⟩
     case measure => simp [intOf]; omega
  ·obtain rfl : k = M.ext.n := by omega
   have hVL := VL0.out
   have MX1 := hid (show MBox wr w.heap.size M from ⟨c0, c1, c2, c3⟩)
   have ZB1 := hid (ZB0.out.at_block (hst.kp (w.heap.size + 1) (by omega) (by omega)))
   have ZF1 := hid (show ∀ i, wr.frozen? ⟨w.heap.size + 1, i, none⟩ = false from fun i => by rw [World.frozen?_of_block (w := ws0) (hst.kp (w.heap.size + 1) (by omega) (by omega))]; exact ZF0.out i)
   have LO1 := hid hst.low
   have VL1 := hid (show w.heap.size + 2 < wr.heap.size by omega)
   have FZ1 := hid hst.fz
   have SZ1 := hid hst.size
   have DE1 := hid (And.intro hst.g (And.intro hst.c hVL))
   have CF1 := hid (show (True) ∧ (wr.cell? ⟨w.heap.size + 2, 1, none⟩ = some (.slice none 0 0)) ∧ (wr.cell? ⟨w.heap.size + 2, 2, none⟩ = some (.slice none 0 0)) ∧ (wr.cell? ⟨w.heap.size + 2, 3, none⟩ = some (.slice none 0 0)) from ⟨trivial, (hst.o 1 (by decide)).trans CF0.out.2.1, (hst.o 2 (by decide)).trans CF0.out.2.2.1, (hst.o 3 (by decide)).trans CF0.out.2.2.2⟩)
   have CV1 := hst.c
   clear hst
   go_wp2_with fail
   obtain ⟨ws1, hws1⟩ : ∃ ws1, ws1 = wr := ⟨_, rfl⟩
   subst hws1
   obtain ⟨vs0, hvs0⟩ : ∃ vs0, vs0 = vs := ⟨_, rfl⟩
   subst hvs0
   clear c0 c1 c2 c3 CV1 bx ZS
   have STG := hid (show GSt w ws1 (w.heap.size + 2) 47 2 0 1 (csG M.G) (ElS (fun i => (M.G i).cel.n) M.GC) FpS ws1 (slv ⟨none, 0, 0⟩) (fun _ => ⟨none, 0, 0⟩) from GSt.start _ CF1.out.2.1 FZ1.out LO1.out VL1.out (Nat.le_refl _))
   go_loopw [6] (fun i wr => ∃ k : Nat, k ≤ M.glo.n ∧ i = .int .i64 k ∧ ∃ (vs : Sl) (t : Nat → Sl), GSt w ws1 (w.heap.size + 2) 47 2 k 1 (csG M.G) (ElS (fun i => (M.G i).cel.n) M.GC) FpS wr (slv vs) t) (fun i _ => M.glo.n - (intOf i).toNat)
   case atStart => exact ⟨0, Nat.zero_le _, rfl, _, _, STG.out⟩
   case round =>
    clear STG
    obtain ⟨k, hk, rfl, vs, t, hst⟩ := hrel
    have ZS := hst.size
    have bx : wr.heap[w.heap.size]? = ws1.heap[w.heap.size]? := hst.kp _ (by omega) (by have := VL1.out; omega)
    obtain ⟨c0, c1, c2, c3⟩ := MX1.out.at_block bx
    have glim := HS.out.glo
    by_cases hlt : k < M.glo.n
    ·obtain ⟨rb, ro, hix, hr0⟩ := HM.out.glo.at underlying23 size47 hlt
     have hrb : rb < w.heap.size := World.block_lt_of_cell? _ _ hr0.c0
     have hr1 := hr0.on hst.low
     go_upto_region 10 with fail
     obtain ⟨xb, xle⟩ : ∃ xb, xb ≤ w.heap.size := ⟨_, Nat.le_refl _⟩
     have xlt : xb < wr.heap.size := by have := VL1.out; omega
     have xv : ∀ b, (slv vs).ownBlock = some b → xb ≠ b := fun b hb => by have := (hst.g.own.lt b hb).1; have := VL1.out; omega
     have y0 : ∀ wy, SX wr (w.heap.size + 1) xb wy → wy.cell? ⟨w.heap.size, 1, none⟩ = some (.slice M.glo.a M.glo.n M.glo.c) := fun wy h => (h.1.cell (by show w.heap.size < _; omega)).trans c1
     have z0 : ∀ wy, SX wr (w.heap.size + 1) xb wy → wy.cell? ⟨rb, ro, none⟩ = some (.string (M.G k).name) := fun wy h => (h.1.cell (by show rb < _; omega)).trans hr1.c0
     have z1 : ∀ wy, SX wr (w.heap.size + 1) xb wy → wy.cell? ⟨rb, ro + 1, none⟩ = some (.slice (M.G k).cel.a (M.G k).cel.n (M.G k).cel.c) := fun wy h => (h.1.cell (by show rb < _; omega)).trans hr1.c1
     have HIS := hid (show Ints wr.drew (M.G k).cel (M.GC k) from ((HM.out.gloC k hlt).on hst.low).on (Below.drew (same _)))
     have gs : (M.G k).cel.n ≤ 1000 := by have := (HS.out.gloI k hlt).2; omega
     have HP := hid hst
     have hVL := VL1.out
     have hcV : wr.cell? ⟨w.heap.size + 2, 1, none⟩ = some (.slice vs.a vs.n vs.c) := hst.c
     have s0 : SX wr (w.heap.size + 1) xb wr.drew := ⟨Below.drew (Below.refl _ _), rfl⟩
     have e0 : wr.drew.heap.size = wr.heap.size := rfl
     have xne : xb ≠ w.heap.size + 2 := by omega
     have sec : ∀ {w2 : World}, Below wr.drew.heap.size wr.drew w2 → SX wr (w.heap.size + 1) xb w2 := fun h => ⟨s0.1.trans (h.mono (by show _ ≤ wr.heap.size; omega)), h.block xb xlt⟩
     have sed : ∀ {w2 : World} (h : Below wr.drew.heap.size wr.drew w2) (o : Obj), SX wr (w.heap.size + 1) xb (w2.alloc o) := fun h o => ⟨(sec h).1.alloc (by have := h.size; omega) o, (Below.heap_alloc _ _ _ (by have := h.size; omega)).trans (sec h).2⟩
     have see : ∀ {w2 w4 : World} {o : Obj} (h : Below wr.drew.heap.size wr.drew w2), (w2.alloc o).grownBy w4 (slv vs).ownBlock → SX wr (w.heap.size + 1) xb w4 := fun h g => ⟨(sed h _).1.grown g (by rw [World.size_alloc]; have := h.size; omega) (fun b hb => by have := (HP.out.g.own.lt b hb).1; omega), (g.block xb (by rw [World.size_alloc]; have := h.size; omega) (fun e => xv xb e.symm rfl)).trans (sed h _).2⟩
     have sef : ∀ {w4 : World} (h : SX wr (w.heap.size + 1) xb w4) (u : Value), SX wr (w.heap.size + 1) xb (w4.setCell ⟨w.heap.size + 2, 1, none⟩ u) := fun h u => ⟨h.1.setCell (by show _ ≤ w.heap.size + 2; omega) u, (Below.heap_setCell _ _ _ _ xne).trans h.2⟩
     have cc : ∀ {w2 : World}, Below wr.drew.heap.size wr.drew w2 → w2.cell? ⟨w.heap.size + 2, 1, none⟩ = some (.slice vs.a vs.n vs.c) := fun h => cell_on (w := wr.drew) h HP.out.c
     have cd : ∀ {w2 : World} (h : Below wr.drew.heap.size wr.drew w2) (o : Obj), (w2.alloc o).cell? ⟨w.heap.size + 2, 1, none⟩ = some (.slice vs.a vs.n vs.c) := fun h o => cell_on (new (same _) o) (cc h)
     have nV : ∀ b, (slv vs).ownBlock = some b → w.heap.size + 2 ≠ b := fun b hb => by have := (HP.out.g.own.lt b hb).1; omega
     have ce : ∀ {w2 w4 : World} {o : Obj} (h : Below wr.drew.heap.size wr.drew w2), (w2.alloc o).grownBy w4 (slv vs).ownBlock → w4.cell? ⟨w.heap.size + 2, 1, none⟩ = some (.slice vs.a vs.n vs.c) := fun {w2 w4 o} h g => by
      rw [World.cell?_of_block (w := w2.alloc o) (g.block (w.heap.size + 2) (by rw [World.size_alloc]; have := h.size; omega) (fun e => nV _ e.symm rfl))]
      exact cd h o
     have fzz : ∀ {w2 w4 : World} {o : Obj} (h : Below wr.drew.heap.size wr.drew w2), (w2.alloc o).grownBy w4 (slv vs).ownBlock → w4.frozen? ⟨w.heap.size + 2, 1, none⟩ = false := fun {w2 w4 o} h g => by
      rw [World.frozen?_of_block (w := w2.alloc o) (g.block (w.heap.size + 2) (by rw [World.size_alloc]; have := h.size; omega) (fun e => nV _ e.symm rfl)), World.frozen?_alloc_old _ _ _ (by show w.heap.size + 2 ≠ _; have := h.size; omega), h.frozen (by show w.heap.size + 2 < wr.heap.size; omega)]
      exact HP.out.fz _
     have fin : ∀ {w2 : World} (h : Below wr.drew.heap.size wr.drew w2) (ta : Sl), ∃ v' w4, (Builtin.append_ #[23, 23] 23 #[.slice vs.a vs.n vs.c, .slice (some ⟨w2.heap.size, 0, none⟩) 1 1]).run Tryz.prog (w2.alloc (.cells #[.string (M.G k).name, .slice ta.a ta.n ta.c] 47)) = .ok v' w4 ∧ w4.ownsRow ws1.heap.size 47 2 v' (k + 1) (fl (fun i => csG M.G i (t i)) k ++ csG M.G k ta) ∧ (w2.alloc (.cells #[.string (M.G k).name, .slice ta.a ta.n ta.c] 47)).grownBy w4 (slv vs).ownBlock ∧ (v'.ownBlock = (slv vs).ownBlock ∨ v'.ownBlock = some (w2.heap.size + 1)) := fun h ta =>
      app_gen underlying23 info58c rfl (by decide) (by decide) (owns_on (more (Below.drew (same wr)) h) HP.out.g.own) (by omega) (by have := h.size; omega) #[.string (M.G k).name, .slice ta.a ta.n ta.c] rfl (by intro x hx; simp at hx; rcases hx with rfl | rfl <;> rfl) _
     clear hst
     clear c0 c1 c2 c3 bx hr0 hr1
     refine wp_region_noPanic ?_
     refine wp_region_held_drew (S := fun wy => SX wr (w.heap.size + 1) xb wy) (by kernel_rfl) s0 (fun hS => ?_)
     refine Own.tk (i := 0) (d := some 41) (v := ?vnG0) rfl (by rfl) ?ynG0 hS ?_
     case ynG0 => intro wx hSw; (go_simp) <;> with_reducible rfl
     simp only [Act.put, sP1, sP2, sP3]
     refine Own.tk (i := 2) (d := some 43) (v := ?vnG2) rfl (by rfl) ?ynG2 hS ?_
     case ynG2 => intro wx hSw; (go_simp) <;> with_reducible rfl
     simp only [Act.put, sP1, sP2, sP3]
     refine Own.tk (i := 3) (d := some 44) (v := ?vnG3) rfl (by rfl) ?ynG3 hS ?_
     case ynG3 => intro wx hSw; (go_simp) <;> with_reducible rfl
     simp only [Act.put, sP1, sP2, sP3]
     refine Own.tk (i := 4) (d := some 45) (v := ?vnG4) rfl (by rfl) ?ynG4 hS ?_
     case ynG4 => intro wx hSw; (go_simp) <;> with_reducible rfl
     simp only [Act.put, sP1, sP2, sP3]
     refine Own.tk (i := 5) (d := some 46) (v := ?vnG5) rfl (by rfl) ?ynG5 hS ?_
     case ynG5 => intro wx hSw; (go_simp) <;> with_reducible rfl
     simp only [Act.put, sP1, sP2, sP3]
     refine Own.tk (i := 6) (d := some 47) (v := ?vnG6) rfl (by rfl) ?ynG6 hS ?_
     case ynG6 => intro wx hSw; (go_simp) <;> with_reducible rfl
     simp only [Act.put, sP1, sP2, sP3]
     refine Own.tk (i := 7) (d := some 48) (v := ?vnG7) rfl (by rfl) ?ynG7 hS ?_
     case ynG7 => intro wx hSw; (go_simp) <;> with_reducible rfl
     simp only [Act.put, sP1, sP2, sP3]
     refine Own.tk (i := 8) (d := some 49) (v := ?vnG8) rfl (by rfl) ?ynG8 hS ?_
     case ynG8 => intro wx hSw; (go_simp) <;> with_reducible rfl
     simp only [Act.put, sP1, sP2, sP3]
     refine Own.tk (i := 9) (d := some 50) (v := ?vnG9) rfl (by rfl) ?ynG9 hS ?_
     case ynG9 => intro wx hSw; (go_simp) <;> with_reducible rfl
     simp only [Act.put, sP1, sP2, sP3]
     refine Own.tk (i := 10) (d := some 51) (v := ?vnG10) rfl (by rfl) ?ynG10 hS ?_
     case ynG10 => intro wx hSw; (go_simp) <;> with_reducible rfl
     simp only [Act.put, sP1, sP2, sP3]
     refine Own.tk (i := 11) (d := some 52) (v := ?vnG11) rfl (by rfl) ?ynG11 hS ?_
     case ynG11 => intro wx hSw; (go_simp) <;> with_reducible rfl
     simp only [Act.put, sP1, sP2, sP3]
     refine Own.tk (i := 12) (d := some 53) (v := ?vnG12) rfl (by rfl) ?ynG12 hS ?_
     case ynG12 => intro wx hSw; (go_simp) <;> with_reducible rfl
     simp only [Act.put, sP1, sP2, sP3]
     refine Own.tk (i := 13) (d := some 54) (v := ?vnG13) rfl (by rfl) ?ynG13 hS ?_
     case ynG13 => intro wx hSw; (go_simp) <;> with_reducible rfl
     simp only [Act.put, sP1, sP2, sP3]
     refine wpAnyH_ready (rs := [1, 14]) (by kernel_rfl) (by simp) ?_
     refine AllReadyH.cons rfl (fun K hK => ?_) (AllReadyH.cons rfl (fun K hK => ?_) AllReadyH.nil)
     ·go_simp
      refine hK.out _ _ s0 (fun _ => ?_)
      clear hK K
      replace hS := s0
      try simp only [Act.put, sP1, sP2, sP3]
      refine wpAnyH_ready (rs := [14]) (by kernel_rfl) (by simp) ?_
      refine AllReadyH.cons rfl (fun K hK => ?_) AllReadyH.nil
      obtain ⟨ta, w2, hrun2, hn2, hi2, hm2, hb2⟩ := run_append_copy64 (M.G k).cel (M.GC k) wr.drew 45 HIS.out gs
      have EL := hid (show ElS (fun i => (M.G i).cel.n) M.GC ws1.heap.size w2 k ta from ⟨hn2, hi2, hm2.wide (by show _ ≤ wr.heap.size; omega) (Nat.le_refl _)⟩)
      have FE := hid (show ∀ b, FpS ta b → wr.heap.size ≤ b ∧ b < w2.heap.size from fun b hb => by rw [hb.2]; have := mine_blk hm2 hb.1; exact ⟨this.2.1, this.2.2.1⟩)
      clear hn2 hi2 hm2
      rw [if_pos (by rfl)]
      refine wp_app (s := .const (.slice none 0 0)) (x := .tmp 54) (t := 45) (d := some 55) rfl rfl rfl rfl rfl hrun2 ?_
      try simp only [Act.put, sP1, sP2, sP3]
      have s2 := sec hb2
      obtain ⟨v5, w4, hrun, hown4, hgr4, hat4⟩ := fin hb2 ta
      obtain ⟨sv, rfl⟩ := owns_slv hown4
      have hc2 := cc hb2
      have hc3 := cd hb2 (.cells #[.string (M.G k).name, .slice ta.a ta.n ta.c] 47)
      have s3 := sed hb2 (.cells #[.string (M.G k).name, .slice ta.a ta.n ta.c] 47)
      have s4 := see hb2 hgr4
      have hc4 := ce hb2 hgr4
      have s5 := sef s4 (.slice sv.a sv.n sv.c)
      have fz4 := fzz hb2 hgr4
      refine hK.out _ _ s2 (fun _ => ?_)
      clear hK K
      replace hS := s2
      try simp only [Act.put, sP1, sP2, sP3]
      refine Own.tk (i := 15) (d := some 56) (v := ?vmGa15) rfl (by rfl) ?ymGa15 hS ?_
      case ymGa15 => intro wx hSw; (go_simp) <;> with_reducible rfl
      simp only [Act.put, sP1, sP2, sP3]
      refine wpAnyH_ready (rs := [16]) (by kernel_rfl) (by simp) ?_
      refine AllReadyH.cons rfl (fun K hK => ?_) AllReadyH.nil
      go_simp
      refine hK.out _ _ s3 (fun _ => ?_)
      clear hK K
      replace hS := s3
      try simp only [Act.put, sP1, sP2, sP3]
      refine wpAnyH_ready (rs := [17]) (by kernel_rfl) (by simp) ?_
      refine AllReadyH.cons rfl (fun K hK => ?_) AllReadyH.nil
      rw [if_pos (by rfl)]
      refine wp_app (s := .tmp 42) (x := .tmp 57) (t := 23) (d := some 58) rfl rfl rfl rfl rfl hrun ?_
      try simp only [Act.put, sP1, sP2, sP3]
      refine hK.out _ _ s4 (fun _ => ?_)
      clear hK K
      replace hS := s4
      try simp only [Act.put, sP1, sP2, sP3]
      refine Own.tk (i := 18) (d := some 59) (v := ?vtGa18) rfl (by rfl) ?ytGa18 hS ?_
      case ytGa18 => intro wx hSw; (go_simp) <;> with_reducible rfl
      simp only [Act.put, sP1, sP2, sP3]
      refine wpAnyH_ready (rs := [19]) (by kernel_rfl) (by simp) ?_
      refine AllReadyH.cons rfl (fun K hK => ?_) AllReadyH.nil
      go_simp
      refine hK.out _ _ s5 (fun _ => ?_)
      clear hK K
      replace hS := s5
      try simp only [Act.put, sP1, sP2, sP3]
      refine wpAnyH_done (by kernel_rfl) ?_ _
      refine NoPanic.normal ?_
      obtain ⟨t2, g2⟩ := HP.out.step (elS_stable _ _ _) hb2 EL.out FE.out hown4 hgr4 hat4
      have FF := hid g2
      clear g2
      go_wp2_with fail
      go_round
      case rel => exact ⟨k + 1, by omega, by go_num, sv, _, FF.out⟩
      case measure => simp [intOf]; omega
     ·obtain ⟨ta, w2, hrun2, hn2, hi2, hm2, hb2⟩ := run_append_copy64 (M.G k).cel (M.GC k) wr.drew 45 HIS.out gs
      have EL := hid (show ElS (fun i => (M.G i).cel.n) M.GC ws1.heap.size w2 k ta from ⟨hn2, hi2, hm2.wide (by show _ ≤ wr.heap.size; omega) (Nat.le_refl _)⟩)
      have FE := hid (show ∀ b, FpS ta b → wr.heap.size ≤ b ∧ b < w2.heap.size from fun b hb => by rw [hb.2]; have := mine_blk hm2 hb.1; exact ⟨this.2.1, this.2.2.1⟩)
      clear hn2 hi2 hm2
      rw [if_pos (by rfl)]
      refine wp_app (s := .const (.slice none 0 0)) (x := .tmp 54) (t := 45) (d := some 55) rfl rfl rfl rfl rfl hrun2 ?_
      try simp only [Act.put, sP1, sP2, sP3]
      have s2 := sec hb2
      obtain ⟨v5, w4, hrun, hown4, hgr4, hat4⟩ := fin hb2 ta
      obtain ⟨sv, rfl⟩ := owns_slv hown4
      have hc2 := cc hb2
      have hc3 := cd hb2 (.cells #[.string (M.G k).name, .slice ta.a ta.n ta.c] 47)
      have s3 := sed hb2 (.cells #[.string (M.G k).name, .slice ta.a ta.n ta.c] 47)
      have s4 := see hb2 hgr4
      have hc4 := ce hb2 hgr4
      have s5 := sef s4 (.slice sv.a sv.n sv.c)
      have fz4 := fzz hb2 hgr4
      refine hK.out _ _ s2 (fun _ => ?_)
      clear hK K
      replace hS := s2
      try simp only [Act.put, sP1, sP2, sP3]
      refine Own.tk (i := 15) (d := some 56) (v := ?vmGb15) rfl (by rfl) ?ymGb15 hS ?_
      case ymGb15 => intro wx hSw; (go_simp) <;> with_reducible rfl
      simp only [Act.put, sP1, sP2, sP3]
      refine wpAnyH_ready (rs := [1, 16]) (by kernel_rfl) (by simp) ?_
      refine AllReadyH.cons rfl (fun K hK => ?_) (AllReadyH.cons rfl (fun K hK => ?_) AllReadyH.nil)
      ·go_simp
       refine hK.out _ _ s2 (fun _ => ?_)
       clear hK K
       replace hS := s2
       try simp only [Act.put, sP1, sP2, sP3]
       refine wpAnyH_ready (rs := [16]) (by kernel_rfl) (by simp) ?_
       refine AllReadyH.cons rfl (fun K hK => ?_) AllReadyH.nil
       go_simp
       refine hK.out _ _ s3 (fun _ => ?_)
       clear hK K
       replace hS := s3
       try simp only [Act.put, sP1, sP2, sP3]
       refine wpAnyH_ready (rs := [17]) (by kernel_rfl) (by simp) ?_
       refine AllReadyH.cons rfl (fun K hK => ?_) AllReadyH.nil
       rw [if_pos (by rfl)]
       refine wp_app (s := .tmp 42) (x := .tmp 57) (t := 23) (d := some 58) rfl rfl rfl rfl rfl hrun ?_
       try simp only [Act.put, sP1, sP2, sP3]
       refine hK.out _ _ s4 (fun _ => ?_)
       clear hK K
       replace hS := s4
       try simp only [Act.put, sP1, sP2, sP3]
       refine Own.tk (i := 18) (d := some 59) (v := ?vtGb18) rfl (by rfl) ?ytGb18 hS ?_
       case ytGb18 => intro wx hSw; (go_simp) <;> with_reducible rfl
       simp only [Act.put, sP1, sP2, sP3]
       refine wpAnyH_ready (rs := [19]) (by kernel_rfl) (by simp) ?_
       refine AllReadyH.cons rfl (fun K hK => ?_) AllReadyH.nil
       go_simp
       refine hK.out _ _ s5 (fun _ => ?_)
       clear hK K
       replace hS := s5
       try simp only [Act.put, sP1, sP2, sP3]
       refine wpAnyH_done (by kernel_rfl) ?_ _
       refine NoPanic.normal ?_
       obtain ⟨t2, g2⟩ := HP.out.step (elS_stable _ _ _) hb2 EL.out FE.out hown4 hgr4 hat4
       have FF := hid g2
       clear g2
       go_wp2_with fail
       go_round
       case rel => exact ⟨k + 1, by omega, by go_num, sv, _, FF.out⟩
       case measure => simp [intOf]; omega
      ·go_simp
       refine hK.out _ _ s3 (fun _ => ?_)
       clear hK K
       replace hS := s3
       try simp only [Act.put, sP1, sP2, sP3]
       refine wpAnyH_ready (rs := [1]) (by kernel_rfl) (by simp) ?_
       refine AllReadyH.cons rfl (fun K hK => ?_) AllReadyH.nil
       go_simp
       refine hK.out _ _ s3 (fun _ => ?_)
       clear hK K
       replace hS := s3
       try simp only [Act.put, sP1, sP2, sP3]
       refine wpAnyH_ready (rs := [17]) (by kernel_rfl) (by simp) ?_
       refine AllReadyH.cons rfl (fun K hK => ?_) AllReadyH.nil
       rw [if_pos (by rfl)]
       refine wp_app (s := .tmp 42) (x := .tmp 57) (t := 23) (d := some 58) rfl rfl rfl rfl rfl hrun ?_
       try simp only [Act.put, sP1, sP2, sP3]
       refine hK.out _ _ s4 (fun _ => ?_)
       clear hK K
       replace hS := s4
       try simp only [Act.put, sP1, sP2, sP3]
       refine Own.tk (i := 18) (d := some 59) (v := ?vtGc18) rfl (by rfl) ?ytGc18 hS ?_
       case ytGc18 => intro wx hSw; (go_simp) <;> with_reducible rfl
       simp only [Act.put, sP1, sP2, sP3]
       refine wpAnyH_ready (rs := [19]) (by kernel_rfl) (by simp) ?_
       refine AllReadyH.cons rfl (fun K hK => ?_) AllReadyH.nil
       go_simp
       refine hK.out _ _ s5 (fun _ => ?_)
       clear hK K
       replace hS := s5
       try simp only [Act.put, sP1, sP2, sP3]
       refine wpAnyH_done (by kernel_rfl) ?_ _
       refine NoPanic.normal ?_
       obtain ⟨t2, g2⟩ := HP.out.step (elS_stable _ _ _) hb2 EL.out FE.out hown4 hgr4 hat4
       have FF := hid g2
       clear g2
       go_wp2_with fail
       go_round
       case rel => exact ⟨k + 1, by omega, by go_num, sv, _, FF.out⟩
       case measure => simp [intOf]; omega
    ·obtain rfl : k = M.glo.n := by omega
     have hVL := VL1.out
     have MX2 := hid (show MBox wr w.heap.size M from ⟨c0, c1, c2, c3⟩)
     have ZB2 := hid (ZB1.out.at_block (hst.kp (w.heap.size + 1) (by omega) (by omega)))
     have ZF2 := hid (show ∀ i, wr.frozen? ⟨w.heap.size + 1, i, none⟩ = false from fun i => by rw [World.frozen?_of_block (w := ws1) (hst.kp (w.heap.size + 1) (by omega) (by omega))]; exact ZF1.out i)
     have LO2 := hid hst.low
     have VL2 := hid (show w.heap.size + 2 < wr.heap.size by omega)
     have FZ2 := hid hst.fz
     have SZ2 := hid hst.size
     have DG2 := hid (And.intro hst.g (And.intro hst.c hVL))
     have DE2 := hid (And.intro (DE1.out.1.keep (elS_stable _ _ _) hst.size (fun b h1 h2 => hst.kp b (by have := DE1.out.2.2; omega) h2)) (And.intro ((hst.o 0 (by decide)).trans DE1.out.2.1) DE1.out.2.2))
     have CF2 := hid (show (True) ∧ (True) ∧ (wr.cell? ⟨w.heap.size + 2, 2, none⟩ = some (.slice none 0 0)) ∧ (wr.cell? ⟨w.heap.size + 2, 3, none⟩ = some (.slice none 0 0)) from ⟨trivial, trivial, (hst.o 2 (by decide)).trans CF1.out.2.2.1, (hst.o 3 (by decide)).trans CF1.out.2.2.2⟩)
     have CV2 := hst.c
     clear hst
     go_wp2_with fail
     obtain ⟨ws2, hws2⟩ : ∃ ws2, ws2 = wr := ⟨_, rfl⟩
     subst hws2
     obtain ⟨vs1, hvs1⟩ : ∃ vs1, vs1 = vs := ⟨_, rfl⟩
     subst hvs1
     clear c0 c1 c2 c3 CV2 bx ZS
     have STT := hid (show GSt w ws2 (w.heap.size + 2) 49 2 0 2 (csG M.T) (ElS (fun i => (M.T i).cel.n) M.TF) FpS ws2 (slv ⟨none, 0, 0⟩) (fun _ => ⟨none, 0, 0⟩) from GSt.start _ CF2.out.2.2.1 FZ2.out LO2.out VL2.out (Nat.le_refl _))
     go_loopw [7] (fun i wr => ∃ k : Nat, k ≤ M.tab.n ∧ i = .int .i64 k ∧ ∃ (vs : Sl) (t : Nat → Sl), GSt w ws2 (w.heap.size + 2) 49 2 k 2 (csG M.T) (ElS (fun i => (M.T i).cel.n) M.TF) FpS wr (slv vs) t) (fun i _ => M.tab.n - (intOf i).toNat)
     case atStart => exact ⟨0, Nat.zero_le _, rfl, _, _, STT.out⟩
     case round =>
      clear STT
      obtain ⟨k, hk, rfl, vs, t, hst⟩ := hrel
      have ZS := hst.size
      have bx : wr.heap[w.heap.size]? = ws2.heap[w.heap.size]? := hst.kp _ (by omega) (by have := VL2.out; omega)
      obtain ⟨c0, c1, c2, c3⟩ := MX2.out.at_block bx
      have glim := HS.out.tab
      by_cases hlt : k < M.tab.n
      ·obtain ⟨rb, ro, hix, hr0⟩ := HM.out.tab.at underlying24 size49 hlt
       have hrb : rb < w.heap.size := World.block_lt_of_cell? _ _ hr0.c0
       have hr1 := hr0.on hst.low
       go_upto_region 14 with fail
       obtain ⟨xb, xle⟩ : ∃ xb, xb ≤ w.heap.size := ⟨_, Nat.le_refl _⟩
       have xlt : xb < wr.heap.size := by have := VL2.out; omega
       have xv : ∀ b, (slv vs).ownBlock = some b → xb ≠ b := fun b hb => by have := (hst.g.own.lt b hb).1; have := VL2.out; omega
       have y0 : ∀ wy, SX wr (w.heap.size + 1) xb wy → wy.cell? ⟨w.heap.size, 2, none⟩ = some (.slice M.tab.a M.tab.n M.tab.c) := fun wy h => (h.1.cell (by show w.heap.size < _; omega)).trans c2
       have z0 : ∀ wy, SX wr (w.heap.size + 1) xb wy → wy.cell? ⟨rb, ro, none⟩ = some (.string (M.T k).name) := fun wy h => (h.1.cell (by show rb < _; omega)).trans hr1.c0
       have z1 : ∀ wy, SX wr (w.heap.size + 1) xb wy → wy.cell? ⟨rb, ro + 1, none⟩ = some (.slice (M.T k).cel.a (M.T k).cel.n (M.T k).cel.c) := fun wy h => (h.1.cell (by show rb < _; omega)).trans hr1.c1
       have HIS := hid (show Ints wr.drew (M.T k).cel (M.TF k) from ((HM.out.tabF k hlt).on hst.low).on (Below.drew (same _)))
       have gs : (M.T k).cel.n ≤ 1000 := by have := (HS.out.tabI k hlt).2; omega
       have HP := hid hst
       have hVL := VL2.out
       have hcV : wr.cell? ⟨w.heap.size + 2, 2, none⟩ = some (.slice vs.a vs.n vs.c) := hst.c
       have s0 : SX wr (w.heap.size + 1) xb wr.drew := ⟨Below.drew (Below.refl _ _), rfl⟩
       have e0 : wr.drew.heap.size = wr.heap.size := rfl
       have xne : xb ≠ w.heap.size + 2 := by omega
       have sec : ∀ {w2 : World}, Below wr.drew.heap.size wr.drew w2 → SX wr (w.heap.size + 1) xb w2 := fun h => ⟨s0.1.trans (h.mono (by show _ ≤ wr.heap.size; omega)), h.block xb xlt⟩
       have sed : ∀ {w2 : World} (h : Below wr.drew.heap.size wr.drew w2) (o : Obj), SX wr (w.heap.size + 1) xb (w2.alloc o) := fun h o => ⟨(sec h).1.alloc (by have := h.size; omega) o, (Below.heap_alloc _ _ _ (by have := h.size; omega)).trans (sec h).2⟩
       have see : ∀ {w2 w4 : World} {o : Obj} (h : Below wr.drew.heap.size wr.drew w2), (w2.alloc o).grownBy w4 (slv vs).ownBlock → SX wr (w.heap.size + 1) xb w4 := fun h g => ⟨(sed h _).1.grown g (by rw [World.size_alloc]; have := h.size; omega) (fun b hb => by have := (HP.out.g.own.lt b hb).1; omega), (g.block xb (by rw [World.size_alloc]; have := h.size; omega) (fun e => xv xb e.symm rfl)).trans (sed h _).2⟩
       have sef : ∀ {w4 : World} (h : SX wr (w.heap.size + 1) xb w4) (u : Value), SX wr (w.heap.size + 1) xb (w4.setCell ⟨w.heap.size + 2, 2, none⟩ u) := fun h u => ⟨h.1.setCell (by show _ ≤ w.heap.size + 2; omega) u, (Below.heap_setCell _ _ _ _ xne).trans h.2⟩
       have cc : ∀ {w2 : World}, Below wr.drew.heap.size wr.drew w2 → w2.cell? ⟨w.heap.size + 2, 2, none⟩ = some (.slice vs.a vs.n vs.c) := fun h => cell_on (w := wr.drew) h HP.out.c
       have cd : ∀ {w2 : World} (h : Below wr.drew.heap.size wr.drew w2) (o : Obj), (w2.alloc o).cell? ⟨w.heap.size + 2, 2, none⟩ = some (.slice vs.a vs.n vs.c) := fun h o => cell_on (new (same _) o) (cc h)
       have nV : ∀ b, (slv vs).ownBlock = some b → w.heap.size + 2 ≠ b := fun b hb => by have := (HP.out.g.own.lt b hb).1; omega
       have ce : ∀ {w2 w4 : World} {o : Obj} (h : Below wr.drew.heap.size wr.drew w2), (w2.alloc o).grownBy w4 (slv vs).ownBlock → w4.cell? ⟨w.heap.size + 2, 2, none⟩ = some (.slice vs.a vs.n vs.c) := fun {w2 w4 o} h g => by
        rw [World.cell?_of_block (w := w2.alloc o) (g.block (w.heap.size + 2) (by rw [World.size_alloc]; have := h.size; omega) (fun e => nV _ e.symm rfl))]
        exact cd h o
       have fzz : ∀ {w2 w4 : World} {o : Obj} (h : Below wr.drew.heap.size wr.drew w2), (w2.alloc o).grownBy w4 (slv vs).ownBlock → w4.frozen? ⟨w.heap.size + 2, 2, none⟩ = false := fun {w2 w4 o} h g => by
        rw [World.frozen?_of_block (w := w2.alloc o) (g.block (w.heap.size + 2) (by rw [World.size_alloc]; have := h.size; omega) (fun e => nV _ e.symm rfl)), World.frozen?_alloc_old _ _ _ (by show w.heap.size + 2 ≠ _; have := h.size; omega), h.frozen (by show w.heap.size + 2 < wr.heap.size; omega)]
        exact HP.out.fz _
       have fin : ∀ {w2 : World} (h : Below wr.drew.heap.size wr.drew w2) (ta : Sl), ∃ v' w4, (Builtin.append_ #[24, 24] 24 #[.slice vs.a vs.n vs.c, .slice (some ⟨w2.heap.size, 0, none⟩) 1 1]).run Tryz.prog (w2.alloc (.cells #[.string (M.T k).name, .slice ta.a ta.n ta.c] 49)) = .ok v' w4 ∧ w4.ownsRow ws2.heap.size 49 2 v' (k + 1) (fl (fun i => csG M.T i (t i)) k ++ csG M.T k ta) ∧ (w2.alloc (.cells #[.string (M.T k).name, .slice ta.a ta.n ta.c] 49)).grownBy w4 (slv vs).ownBlock ∧ (v'.ownBlock = (slv vs).ownBlock ∨ v'.ownBlock = some (w2.heap.size + 1)) := fun h ta =>
        app_gen underlying24 info60c rfl (by decide) (by decide) (owns_on (more (Below.drew (same wr)) h) HP.out.g.own) (by omega) (by have := h.size; omega) #[.string (M.T k).name, .slice ta.a ta.n ta.c] rfl (by intro x hx; simp at hx; rcases hx with rfl | rfl <;> rfl) _
       clear hst
       clear c0 c1 c2 c3 bx hr0 hr1
       refine wp_region_noPanic ?_
       refine wp_region_held_drew (S := fun wy => SX wr (w.heap.size + 1) xb wy) (by kernel_rfl) s0 (fun hS => ?_)
       refine Own.tk (i := 0) (d := some 67) (v := ?vnT0) rfl (by rfl) ?ynT0 hS ?_
       case ynT0 => intro wx hSw; (go_simp) <;> with_reducible rfl
       simp only [Act.put, sP1, sP2, sP3]
       refine Own.tk (i := 2) (d := some 69) (v := ?vnT2) rfl (by rfl) ?ynT2 hS ?_
       case ynT2 => intro wx hSw; (go_simp) <;> with_reducible rfl
       simp only [Act.put, sP1, sP2, sP3]
       refine Own.tk (i := 3) (d := some 70) (v := ?vnT3) rfl (by rfl) ?ynT3 hS ?_
       case ynT3 => intro wx hSw; (go_simp) <;> with_reducible rfl
       simp only [Act.put, sP1, sP2, sP3]
       refine Own.tk (i := 4) (d := some 71) (v := ?vnT4) rfl (by rfl) ?ynT4 hS ?_
       case ynT4 => intro wx hSw; (go_simp) <;> with_reducible rfl
       simp only [Act.put, sP1, sP2, sP3]
       refine Own.tk (i := 5) (d := some 72) (v := ?vnT5) rfl (by rfl) ?ynT5 hS ?_
       case ynT5 => intro wx hSw; (go_simp) <;> with_reducible rfl
       simp only [Act.put, sP1, sP2, sP3]
       refine Own.tk (i := 6) (d := some 73) (v := ?vnT6) rfl (by rfl) ?ynT6 hS ?_
       case ynT6 => intro wx hSw; (go_simp) <;> with_reducible rfl
       simp only [Act.put, sP1, sP2, sP3]
       refine Own.tk (i := 7) (d := some 74) (v := ?vnT7) rfl (by rfl) ?ynT7 hS ?_
       case ynT7 => intro wx hSw; (go_simp) <;> with_reducible rfl
       simp only [Act.put, sP1, sP2, sP3]
       refine Own.tk (i := 8) (d := some 75) (v := ?vnT8) rfl (by rfl) ?ynT8 hS ?_
       case ynT8 => intro wx hSw; (go_simp) <;> with_reducible rfl
       simp only [Act.put, sP1, sP2, sP3]
       refine Own.tk (i := 9) (d := some 76) (v := ?vnT9) rfl (by rfl) ?ynT9 hS ?_
       case ynT9 => intro wx hSw; (go_simp) <;> with_reducible rfl
       simp only [Act.put, sP1, sP2, sP3]
       refine Own.tk (i := 10) (d := some 77) (v := ?vnT10) rfl (by rfl) ?ynT10 hS ?_
       case ynT10 => intro wx hSw; (go_simp) <;> with_reducible rfl
       simp only [Act.put, sP1, sP2, sP3]
       refine Own.tk (i := 11) (d := some 78) (v := ?vnT11) rfl (by rfl) ?ynT11 hS ?_
       case ynT11 => intro wx hSw; (go_simp) <;> with_reducible rfl
       simp only [Act.put, sP1, sP2, sP3]
       refine Own.tk (i := 12) (d := some 79) (v := ?vnT12) rfl (by rfl) ?ynT12 hS ?_
       case ynT12 => intro wx hSw; (go_simp) <;> with_reducible rfl
       simp only [Act.put, sP1, sP2, sP3]
       refine Own.tk (i := 13) (d := some 80) (v := ?vnT13) rfl (by rfl) ?ynT13 hS ?_
       case ynT13 => intro wx hSw; (go_simp) <;> with_reducible rfl
       simp only [Act.put, sP1, sP2, sP3]
       refine wpAnyH_ready (rs := [1, 14]) (by kernel_rfl) (by simp) ?_
       refine AllReadyH.cons rfl (fun K hK => ?_) (AllReadyH.cons rfl (fun K hK => ?_) AllReadyH.nil)
       ·go_simp
        refine hK.out _ _ s0 (fun _ => ?_)
        clear hK K
        replace hS := s0
        try simp only [Act.put, sP1, sP2, sP3]
        refine wpAnyH_ready (rs := [14]) (by kernel_rfl) (by simp) ?_
        refine AllReadyH.cons rfl (fun K hK => ?_) AllReadyH.nil
        obtain ⟨ta, w2, hrun2, hn2, hi2, hm2, hb2⟩ := run_append_copy (M.T k).cel (M.TF k) wr.drew 33 HIS.out gs
        have EL := hid (show ElS (fun i => (M.T i).cel.n) M.TF ws2.heap.size w2 k ta from ⟨hn2, hi2, hm2.wide (by show _ ≤ wr.heap.size; omega) (Nat.le_refl _)⟩)
        have FE := hid (show ∀ b, FpS ta b → wr.heap.size ≤ b ∧ b < w2.heap.size from fun b hb => by rw [hb.2]; have := mine_blk hm2 hb.1; exact ⟨this.2.1, this.2.2.1⟩)
        clear hn2 hi2 hm2
        rw [if_pos (by rfl)]
        refine wp_app (s := .const (.slice none 0 0)) (x := .tmp 80) (t := 33) (d := some 81) rfl rfl rfl rfl rfl hrun2 ?_
        try simp only [Act.put, sP1, sP2, sP3]
        have s2 := sec hb2
        obtain ⟨v5, w4, hrun, hown4, hgr4, hat4⟩ := fin hb2 ta
        obtain ⟨sv, rfl⟩ := owns_slv hown4
        have hc2 := cc hb2
        have hc3 := cd hb2 (.cells #[.string (M.T k).name, .slice ta.a ta.n ta.c] 49)
        have s3 := sed hb2 (.cells #[.string (M.T k).name, .slice ta.a ta.n ta.c] 49)
        have s4 := see hb2 hgr4
        have hc4 := ce hb2 hgr4
        have s5 := sef s4 (.slice sv.a sv.n sv.c)
        have fz4 := fzz hb2 hgr4
        refine hK.out _ _ s2 (fun _ => ?_)
        clear hK K
        replace hS := s2
        try simp only [Act.put, sP1, sP2, sP3]
        refine Own.tk (i := 15) (d := some 82) (v := ?vmTa15) rfl (by rfl) ?ymTa15 hS ?_
        case ymTa15 => intro wx hSw; (go_simp) <;> with_reducible rfl
        simp only [Act.put, sP1, sP2, sP3]
        refine wpAnyH_ready (rs := [16]) (by kernel_rfl) (by simp) ?_
        refine AllReadyH.cons rfl (fun K hK => ?_) AllReadyH.nil
        go_simp
        refine hK.out _ _ s3 (fun _ => ?_)
        clear hK K
        replace hS := s3
        try simp only [Act.put, sP1, sP2, sP3]
        refine wpAnyH_ready (rs := [17]) (by kernel_rfl) (by simp) ?_
        refine AllReadyH.cons rfl (fun K hK => ?_) AllReadyH.nil
        rw [if_pos (by rfl)]
        refine wp_app (s := .tmp 68) (x := .tmp 83) (t := 24) (d := some 84) rfl rfl rfl rfl rfl hrun ?_
        try simp only [Act.put, sP1, sP2, sP3]
        refine hK.out _ _ s4 (fun _ => ?_)
        clear hK K
        replace hS := s4
        try simp only [Act.put, sP1, sP2, sP3]
        refine Own.tk (i := 18) (d := some 85) (v := ?vtTa18) rfl (by rfl) ?ytTa18 hS ?_
        case ytTa18 => intro wx hSw; (go_simp) <;> with_reducible rfl
        simp only [Act.put, sP1, sP2, sP3]
        refine wpAnyH_ready (rs := [19]) (by kernel_rfl) (by simp) ?_
        refine AllReadyH.cons rfl (fun K hK => ?_) AllReadyH.nil
        go_simp
        refine hK.out _ _ s5 (fun _ => ?_)
        clear hK K
        replace hS := s5
        try simp only [Act.put, sP1, sP2, sP3]
        refine wpAnyH_done (by kernel_rfl) ?_ _
        refine NoPanic.normal ?_
        obtain ⟨t2, g2⟩ := HP.out.step (elS_stable _ _ _) hb2 EL.out FE.out hown4 hgr4 hat4
        have FF := hid g2
        clear g2
        go_wp2_with fail
        go_round
        case rel => exact ⟨k + 1, by omega, by go_num, sv, _, FF.out⟩
        case measure => simp [intOf]; omega
       ·obtain ⟨ta, w2, hrun2, hn2, hi2, hm2, hb2⟩ := run_append_copy (M.T k).cel (M.TF k) wr.drew 33 HIS.out gs
        have EL := hid (show ElS (fun i => (M.T i).cel.n) M.TF ws2.heap.size w2 k ta from ⟨hn2, hi2, hm2.wide (by show _ ≤ wr.heap.size; omega) (Nat.le_refl _)⟩)
        have FE := hid (show ∀ b, FpS ta b → wr.heap.size ≤ b ∧ b < w2.heap.size from fun b hb => by rw [hb.2]; have := mine_blk hm2 hb.1; exact ⟨this.2.1, this.2.2.1⟩)
        clear hn2 hi2 hm2
        rw [if_pos (by rfl)]
        refine wp_app (s := .const (.slice none 0 0)) (x := .tmp 80) (t := 33) (d := some 81) rfl rfl rfl rfl rfl hrun2 ?_
        try simp only [Act.put, sP1, sP2, sP3]
        have s2 := sec hb2
        obtain ⟨v5, w4, hrun, hown4, hgr4, hat4⟩ := fin hb2 ta
        obtain ⟨sv, rfl⟩ := owns_slv hown4
        have hc2 := cc hb2
        have hc3 := cd hb2 (.cells #[.string (M.T k).name, .slice ta.a ta.n ta.c] 49)
        have s3 := sed hb2 (.cells #[.string (M.T k).name, .slice ta.a ta.n ta.c] 49)
        have s4 := see hb2 hgr4
        have hc4 := ce hb2 hgr4
        have s5 := sef s4 (.slice sv.a sv.n sv.c)
        have fz4 := fzz hb2 hgr4
        refine hK.out _ _ s2 (fun _ => ?_)
        clear hK K
        replace hS := s2
        try simp only [Act.put, sP1, sP2, sP3]
        refine Own.tk (i := 15) (d := some 82) (v := ?vmTb15) rfl (by rfl) ?ymTb15 hS ?_
        case ymTb15 => intro wx hSw; (go_simp) <;> with_reducible rfl
        simp only [Act.put, sP1, sP2, sP3]
        refine wpAnyH_ready (rs := [1, 16]) (by kernel_rfl) (by simp) ?_
        refine AllReadyH.cons rfl (fun K hK => ?_) (AllReadyH.cons rfl (fun K hK => ?_) AllReadyH.nil)
        ·go_simp
         refine hK.out _ _ s2 (fun _ => ?_)
         clear hK K
         replace hS := s2
         try simp only [Act.put, sP1, sP2, sP3]
         refine wpAnyH_ready (rs := [16]) (by kernel_rfl) (by simp) ?_
         refine AllReadyH.cons rfl (fun K hK => ?_) AllReadyH.nil
         go_simp
         refine hK.out _ _ s3 (fun _ => ?_)
         clear hK K
         replace hS := s3
         try simp only [Act.put, sP1, sP2, sP3]
         refine wpAnyH_ready (rs := [17]) (by kernel_rfl) (by simp) ?_
         refine AllReadyH.cons rfl (fun K hK => ?_) AllReadyH.nil
         rw [if_pos (by rfl)]
         refine wp_app (s := .tmp 68) (x := .tmp 83) (t := 24) (d := some 84) rfl rfl rfl rfl rfl hrun ?_
         try simp only [Act.put, sP1, sP2, sP3]
         refine hK.out _ _ s4 (fun _ => ?_)
         clear hK K
         replace hS := s4
         try simp only [Act.put, sP1, sP2, sP3]
         refine Own.tk (i := 18) (d := some 85) (v := ?vtTb18) rfl (by rfl) ?ytTb18 hS ?_
         case ytTb18 => intro wx hSw; (go_simp) <;> with_reducible rfl
         simp only [Act.put, sP1, sP2, sP3]
         refine wpAnyH_ready (rs := [19]) (by kernel_rfl) (by simp) ?_
         refine AllReadyH.cons rfl (fun K hK => ?_) AllReadyH.nil
         go_simp
         refine hK.out _ _ s5 (fun _ => ?_)
         clear hK K
         replace hS := s5
         try simp only [Act.put, sP1, sP2, sP3]
         refine wpAnyH_done (by kernel_rfl) ?_ _
         refine NoPanic.normal ?_
         obtain ⟨t2, g2⟩ := HP.out.step (elS_stable _ _ _) hb2 EL.out FE.out hown4 hgr4 hat4
         have FF := hid g2
         clear g2
         go_wp2_with fail
         go_round
         case rel => exact ⟨k + 1, by omega, by go_num, sv, _, FF.out⟩
         case measure => simp [intOf]; omega
        ·go_simp
         refine hK.out _ _ s3 (fun _ => ?_)
         clear hK K
         replace hS := s3
         try simp only [Act.put, sP1, sP2, sP3]
         refine wpAnyH_ready (rs := [1]) (by kernel_rfl) (by simp) ?_
         refine AllReadyH.cons rfl (fun K hK => ?_) AllReadyH.nil
         go_simp
         refine hK.out _ _ s3 (fun _ => ?_)
         clear hK K
         replace hS := s3
         try simp only [Act.put, sP1, sP2, sP3]
         refine wpAnyH_ready (rs := [17]) (by kernel_rfl) (by simp) ?_
         refine AllReadyH.cons rfl (fun K hK => ?_) AllReadyH.nil
         rw [if_pos (by rfl)]
         refine wp_app (s := .tmp 68) (x := .tmp 83) (t := 24) (d := some 84) rfl rfl rfl rfl rfl hrun ?_
         try simp only [Act.put, sP1, sP2, sP3]
         refine hK.out _ _ s4 (fun _ => ?_)
         clear hK K
         replace hS := s4
         try simp only [Act.put, sP1, sP2, sP3]
         refine Own.tk (i := 18) (d := some 85) (v := ?vtTc18) rfl (by rfl) ?ytTc18 hS ?_
         case ytTc18 => intro wx hSw; (go_simp) <;> with_reducible rfl
         simp only [Act.put, sP1, sP2, sP3]
         refine wpAnyH_ready (rs := [19]) (by kernel_rfl) (by simp) ?_
         refine AllReadyH.cons rfl (fun K hK => ?_) AllReadyH.nil
         go_simp
         refine hK.out _ _ s5 (fun _ => ?_)
         clear hK K
         replace hS := s5
         try simp only [Act.put, sP1, sP2, sP3]
         refine wpAnyH_done (by kernel_rfl) ?_ _
         refine NoPanic.normal ?_
         obtain ⟨t2, g2⟩ := HP.out.step (elS_stable _ _ _) hb2 EL.out FE.out hown4 hgr4 hat4
         have FF := hid g2
         clear g2
         go_wp2_with fail
         go_round
         case rel => exact ⟨k + 1, by omega, by go_num, sv, _, FF.out⟩
         case measure => simp [intOf]; omega
      ·obtain rfl : k = M.tab.n := by omega
       have hVL := VL2.out
       have MX3 := hid (show MBox wr w.heap.size M from ⟨c0, c1, c2, c3⟩)
       have ZB3 := hid (ZB2.out.at_block (hst.kp (w.heap.size + 1) (by omega) (by omega)))
       have ZF3 := hid (show ∀ i, wr.frozen? ⟨w.heap.size + 1, i, none⟩ = false from fun i => by rw [World.frozen?_of_block (w := ws2) (hst.kp (w.heap.size + 1) (by omega) (by omega))]; exact ZF2.out i)
       have LO3 := hid hst.low
       have VL3 := hid (show w.heap.size + 2 < wr.heap.size by omega)
       have FZ3 := hid hst.fz
       have SZ3 := hid hst.size
       have DT3 := hid (And.intro hst.g (And.intro hst.c hVL))
       have DE3 := hid (And.intro (DE2.out.1.keep (elS_stable _ _ _) hst.size (fun b h1 h2 => hst.kp b (by have := DE2.out.2.2; omega) h2)) (And.intro ((hst.o 0 (by decide)).trans DE2.out.2.1) DE2.out.2.2))
       have DG3 := hid (And.intro (DG2.out.1.keep (elS_stable _ _ _) hst.size (fun b h1 h2 => hst.kp b (by have := DG2.out.2.2; omega) h2)) (And.intro ((hst.o 1 (by decide)).trans DG2.out.2.1) DG2.out.2.2))
       have CF3 := hid (show (True) ∧ (True) ∧ (True) ∧ (wr.cell? ⟨w.heap.size + 2, 3, none⟩ = some (.slice none 0 0)) from ⟨trivial, trivial, trivial, (hst.o 3 (by decide)).trans CF2.out.2.2.2⟩)
       have CV3 := hst.c
       clear hst
       go_wp2_with fail
       obtain ⟨ws3, hws3⟩ : ∃ ws3, ws3 = wr := ⟨_, rfl⟩
       subst hws3
       obtain ⟨vs2, hvs2⟩ : ∃ vs2, vs2 = vs := ⟨_, rfl⟩
       subst hvs2
       clear c0 c1 c2 c3 CV3 bx ZS
       have STF := hid (show GSt w ws3 (w.heap.size + 2) 36 5 0 3 (csF) (ElR M.F) FpF ws3 (slv ⟨none, 0, 0⟩) (fun _ => default) from GSt.start _ CF3.out.2.2.2 FZ3.out LO3.out VL3.out (Nat.le_refl _))
       go_loopw [8] (fun i wr => ∃ k : Nat, k ≤ M.fns.n ∧ i = .int .i64 k ∧ ∃ (vs : Sl) (t : Nat → FV), GSt w ws3 (w.heap.size + 2) 36 5 k 3 (csF) (ElR M.F) FpF wr (slv vs) t) (fun i _ => M.fns.n - (intOf i).toNat)
       case atStart => exact ⟨0, Nat.zero_le _, rfl, _, _, STF.out⟩
       case round =>
        clear STF
        obtain ⟨k, hk, rfl, vs, t, hst⟩ := hrel
        have ZS := hst.size
        have bx : wr.heap[w.heap.size]? = ws3.heap[w.heap.size]? := hst.kp _ (by omega) (by have := VL3.out; omega)
        obtain ⟨c0, c1, c2, c3⟩ := MX3.out.at_block bx
        have glim := HS.out.fns
        by_cases hlt : k < M.fns.n
        ·obtain ⟨rb, ro, hix, hr0⟩ := HM.out.fns.at underlying25 size36 hlt
         have hrb : rb < w.heap.size := World.block_lt_of_cell? _ _ hr0.c0
         have hr1 := hr0.on hst.low
         go_upto_region 18 with fail
         obtain ⟨xb, xle⟩ : ∃ xb, xb ≤ w.heap.size := ⟨_, Nat.le_refl _⟩
         have xlt : xb < wr.heap.size := by have := VL3.out; omega
         have xv : ∀ b, (slv vs).ownBlock = some b → xb ≠ b := fun b hb => by have := (hst.g.own.lt b hb).1; have := VL3.out; omega
         have y0 : ∀ wy, SX wr (w.heap.size + 1) xb wy → wy.cell? ⟨w.heap.size, 3, none⟩ = some (.slice M.fns.a M.fns.n M.fns.c) := fun wy h => (h.1.cell (by show w.heap.size < _; omega)).trans c3
         have z0 : ∀ wy, SX wr (w.heap.size + 1) xb wy → wy.cell? ⟨rb, ro, none⟩ = some (.string (M.F k).name) := fun wy h => (h.1.cell (by show rb < _; omega)).trans hr1.c0
         have z1 : ∀ wy, SX wr (w.heap.size + 1) xb wy → wy.cell? ⟨rb, ro + 1, none⟩ = some (.bool (M.F k).out) := fun wy h => (h.1.cell (by show rb < _; omega)).trans hr1.c1
         have z2 : ∀ wy, SX wr (w.heap.size + 1) xb wy → wy.cell? ⟨rb, ro + 2, none⟩ = some (.slice (M.F k).par.a (M.F k).par.n (M.F k).par.c) := fun wy h => (h.1.cell (by show rb < _; omega)).trans hr1.c2
         have z3 : ∀ wy, SX wr (w.heap.size + 1) xb wy → wy.cell? ⟨rb, ro + 3, none⟩ = some (.int .i64 (M.F k).res) := fun wy h => (h.1.cell (by show rb < _; omega)).trans hr1.c3
         have z4 : ∀ wy, SX wr (w.heap.size + 1) xb wy → wy.cell? ⟨rb, ro + 4, none⟩ = some (.slice (M.F k).blk.a (M.F k).blk.n (M.F k).blk.c) := fun wy h => (h.1.cell (by show rb < _; omega)).trans hr1.c4
         have HIF := hid (show In wr.drew (M.F k) from ((HM.out.fnI k hlt).on hst.low).on (Below.drew (same _)))
         have LF := hid (HS.out.light k hlt)
         have HP := hid hst
         have hVL := VL3.out
         have hcV : wr.cell? ⟨w.heap.size + 2, 3, none⟩ = some (.slice vs.a vs.n vs.c) := hst.c
         have s0 : SX wr (w.heap.size + 1) xb wr.drew := ⟨Below.drew (Below.refl _ _), rfl⟩
         have e0 : wr.drew.heap.size = wr.heap.size := rfl
         have xne : xb ≠ w.heap.size + 2 := by omega
         have sec : ∀ {w2 : World}, Below wr.drew.heap.size wr.drew w2 → SX wr (w.heap.size + 1) xb w2 := fun h => ⟨s0.1.trans (h.mono (by show _ ≤ wr.heap.size; omega)), h.block xb xlt⟩
         have sed : ∀ {w2 : World} (h : Below wr.drew.heap.size wr.drew w2) (o : Obj), SX wr (w.heap.size + 1) xb (w2.alloc o) := fun h o => ⟨(sec h).1.alloc (by have := h.size; omega) o, (Below.heap_alloc _ _ _ (by have := h.size; omega)).trans (sec h).2⟩
         have see : ∀ {w2 w4 : World} {o : Obj} (h : Below wr.drew.heap.size wr.drew w2), (w2.alloc o).grownBy w4 (slv vs).ownBlock → SX wr (w.heap.size + 1) xb w4 := fun h g => ⟨(sed h _).1.grown g (by rw [World.size_alloc]; have := h.size; omega) (fun b hb => by have := (HP.out.g.own.lt b hb).1; omega), (g.block xb (by rw [World.size_alloc]; have := h.size; omega) (fun e => xv xb e.symm rfl)).trans (sed h _).2⟩
         have sef : ∀ {w4 : World} (h : SX wr (w.heap.size + 1) xb w4) (u : Value), SX wr (w.heap.size + 1) xb (w4.setCell ⟨w.heap.size + 2, 3, none⟩ u) := fun h u => ⟨h.1.setCell (by show _ ≤ w.heap.size + 2; omega) u, (Below.heap_setCell _ _ _ _ xne).trans h.2⟩
         have cc : ∀ {w2 : World}, Below wr.drew.heap.size wr.drew w2 → w2.cell? ⟨w.heap.size + 2, 3, none⟩ = some (.slice vs.a vs.n vs.c) := fun h => cell_on (w := wr.drew) h HP.out.c
         have cd : ∀ {w2 : World} (h : Below wr.drew.heap.size wr.drew w2) (o : Obj), (w2.alloc o).cell? ⟨w.heap.size + 2, 3, none⟩ = some (.slice vs.a vs.n vs.c) := fun h o => cell_on (new (same _) o) (cc h)
         have nV : ∀ b, (slv vs).ownBlock = some b → w.heap.size + 2 ≠ b := fun b hb => by have := (HP.out.g.own.lt b hb).1; omega
         have ce : ∀ {w2 w4 : World} {o : Obj} (h : Below wr.drew.heap.size wr.drew w2), (w2.alloc o).grownBy w4 (slv vs).ownBlock → w4.cell? ⟨w.heap.size + 2, 3, none⟩ = some (.slice vs.a vs.n vs.c) := fun {w2 w4 o} h g => by
          rw [World.cell?_of_block (w := w2.alloc o) (g.block (w.heap.size + 2) (by rw [World.size_alloc]; have := h.size; omega) (fun e => nV _ e.symm rfl))]
          exact cd h o
         have fzz : ∀ {w2 w4 : World} {o : Obj} (h : Below wr.drew.heap.size wr.drew w2), (w2.alloc o).grownBy w4 (slv vs).ownBlock → w4.frozen? ⟨w.heap.size + 2, 3, none⟩ = false := fun {w2 w4 o} h g => by
          rw [World.frozen?_of_block (w := w2.alloc o) (g.block (w.heap.size + 2) (by rw [World.size_alloc]; have := h.size; omega) (fun e => nV _ e.symm rfl)), World.frozen?_alloc_old _ _ _ (by show w.heap.size + 2 ≠ _; have := h.size; omega), h.frozen (by show w.heap.size + 2 < wr.heap.size; omega)]
          exact HP.out.fz _
         have fin : ∀ {w2 : World} (h : Below wr.drew.heap.size wr.drew w2) (ta : FV), ∃ v' w4, (Builtin.append_ #[25, 25] 25 #[.slice vs.a vs.n vs.c, .slice (some ⟨w2.heap.size, 0, none⟩) 1 1]).run Tryz.prog (w2.alloc (.cells #[.string ta.name, .bool ta.out, .slice ta.par.a ta.par.n ta.par.c, .int .i64 ta.res, .slice ta.blk.a ta.blk.n ta.blk.c] 36)) = .ok v' w4 ∧ w4.ownsRow ws3.heap.size 36 5 v' (k + 1) (fl (fun i => csF i (t i)) k ++ csF k ta) ∧ (w2.alloc (.cells #[.string ta.name, .bool ta.out, .slice ta.par.a ta.par.n ta.par.c, .int .i64 ta.res, .slice ta.blk.a ta.blk.n ta.blk.c] 36)).grownBy w4 (slv vs).ownBlock ∧ (v'.ownBlock = (slv vs).ownBlock ∨ v'.ownBlock = some (w2.heap.size + 1)) := fun h ta =>
          app_gen underlying25 info36c rfl (by decide) (by decide) (owns_on (more (Below.drew (same wr)) h) HP.out.g.own) (by omega) (by have := h.size; omega) #[.string ta.name, .bool ta.out, .slice ta.par.a ta.par.n ta.par.c, .int .i64 ta.res, .slice ta.blk.a ta.blk.n ta.blk.c] rfl (by intro x hx; simp at hx; rcases hx with rfl | rfl | rfl | rfl | rfl <;> rfl) _
         clear hst
         clear c0 c1 c2 c3 bx hr0 hr1
         refine wp_region_noPanic ?_
         refine wp_region_held_drew (S := fun wy => SX wr (w.heap.size + 1) xb wy) (by kernel_rfl) s0 (fun hS => ?_)
         refine Own.tk (i := 0) (d := some 93) (v := ?vnF0) rfl (by rfl) ?ynF0 hS ?_
         case ynF0 => intro wx hSw; (go_simp) <;> with_reducible rfl
         simp only [Act.put, sP1, sP2, sP3]
         refine Own.tk (i := 2) (d := some 95) (v := ?vnF2) rfl (by rfl) ?ynF2 hS ?_
         case ynF2 => intro wx hSw; (go_simp) <;> with_reducible rfl
         simp only [Act.put, sP1, sP2, sP3]
         refine Own.tk (i := 3) (d := some 96) (v := ?vnF3) rfl (by rfl) ?ynF3 hS ?_
         case ynF3 => intro wx hSw; (go_simp) <;> with_reducible rfl
         simp only [Act.put, sP1, sP2, sP3]
         refine Own.tk (i := 4) (d := some 97) (v := ?vnF4) rfl (by rfl) ?ynF4 hS ?_
         case ynF4 => intro wx hSw; (go_simp) <;> with_reducible rfl
         simp only [Act.put, sP1, sP2, sP3]
         refine Own.tk (i := 5) (d := some 98) (v := ?vnF5) rfl (by rfl) ?ynF5 hS ?_
         case ynF5 => intro wx hSw; (go_simp) <;> with_reducible rfl
         simp only [Act.put, sP1, sP2, sP3]
         refine Own.tk (i := 6) (d := some 99) (v := ?vnF6) rfl (by rfl) ?ynF6 hS ?_
         case ynF6 => intro wx hSw; (go_simp) <;> with_reducible rfl
         simp only [Act.put, sP1, sP2, sP3]
         refine wpAnyH_ready (rs := [1, 7]) (by kernel_rfl) (by simp) ?_
         refine AllReadyH.cons rfl (fun K hK => ?_) (AllReadyH.cons rfl (fun K hK => ?_) AllReadyH.nil)
         ·go_simp
          refine hK.out _ _ s0 (fun _ => ?_)
          clear hK K
          replace hS := s0
          try simp only [Act.put, sP1, sP2, sP3]
          refine wpAnyH_ready (rs := [7]) (by kernel_rfl) (by simp) ?_
          refine AllReadyH.cons rfl (fun K hK => ?_) AllReadyH.nil
          go_simp
          refine (copyFunc_refR (M.F k) _ HIF.out LF.out).mono ?_
          rintro e w2 ⟨ta, atT, rfl, hoT, hlT, htT, hb2, hcT⟩
          go_wp2_with fail
          have EL := hid (show ElR M.F ws3.heap.size w2 k ta from ⟨⟨atT, hoT.less (by show _ ≤ wr.heap.size; omega), hlT, htT⟩, hcT⟩)
          have FE := hid (fpF_in hoT)
          clear hoT hlT htT hcT
          have s2 := sec hb2
          obtain ⟨v5, w4, hrun, hown4, hgr4, hat4⟩ := fin hb2 ta
          obtain ⟨sv, rfl⟩ := owns_slv hown4
          have hc2 := cc hb2
          have hc3 := cd hb2 (.cells #[.string ta.name, .bool ta.out, .slice ta.par.a ta.par.n ta.par.c, .int .i64 ta.res, .slice ta.blk.a ta.blk.n ta.blk.c] 36)
          have s3 := sed hb2 (.cells #[.string ta.name, .bool ta.out, .slice ta.par.a ta.par.n ta.par.c, .int .i64 ta.res, .slice ta.blk.a ta.blk.n ta.blk.c] 36)
          have s4 := see hb2 hgr4
          have hc4 := ce hb2 hgr4
          have s5 := sef s4 (.slice sv.a sv.n sv.c)
          have fz4 := fzz hb2 hgr4
          refine hK.out _ _ s2 (fun _ => ?_)
          clear hK K
          replace hS := s2
          try simp only [Act.put, sP1, sP2, sP3]
          refine wpAnyH_ready (rs := [8]) (by kernel_rfl) (by simp) ?_
          refine AllReadyH.cons rfl (fun K hK => ?_) AllReadyH.nil
          go_simp
          refine hK.out _ _ s3 (fun _ => ?_)
          clear hK K
          replace hS := s3
          try simp only [Act.put, sP1, sP2, sP3]
          refine wpAnyH_ready (rs := [9]) (by kernel_rfl) (by simp) ?_
          refine AllReadyH.cons rfl (fun K hK => ?_) AllReadyH.nil
          rw [if_pos (by rfl)]
          refine wp_app (s := .tmp 94) (x := .tmp 101) (t := 25) (d := some 102) rfl rfl rfl rfl rfl hrun ?_
          try simp only [Act.put, sP1, sP2, sP3]
          refine hK.out _ _ s4 (fun _ => ?_)
          clear hK K
          replace hS := s4
          try simp only [Act.put, sP1, sP2, sP3]
          refine Own.tk (i := 10) (d := some 103) (v := ?vtFa10) rfl (by rfl) ?ytFa10 hS ?_
          case ytFa10 => intro wx hSw; (go_simp) <;> with_reducible rfl
          simp only [Act.put, sP1, sP2, sP3]
          refine wpAnyH_ready (rs := [11]) (by kernel_rfl) (by simp) ?_
          refine AllReadyH.cons rfl (fun K hK => ?_) AllReadyH.nil
          go_simp
          refine hK.out _ _ s5 (fun _ => ?_)
          clear hK K
          replace hS := s5
          try simp only [Act.put, sP1, sP2, sP3]
          refine wpAnyH_done (by kernel_rfl) ?_ _
          refine NoPanic.normal ?_
          obtain ⟨t2, g2⟩ := HP.out.step (elR_stable _ _) hb2 EL.out FE.out hown4 hgr4 hat4
          have FF := hid g2
          clear g2
          go_wp2_with fail
          go_round
          case rel => exact ⟨k + 1, by omega, by go_num, sv, _, FF.out⟩
          case measure => simp [intOf]; omega
         ·go_simp
          refine (copyFunc_refR (M.F k) _ HIF.out LF.out).mono ?_
          rintro e w2 ⟨ta, atT, rfl, hoT, hlT, htT, hb2, hcT⟩
          go_wp2_with fail
          have EL := hid (show ElR M.F ws3.heap.size w2 k ta from ⟨⟨atT, hoT.less (by show _ ≤ wr.heap.size; omega), hlT, htT⟩, hcT⟩)
          have FE := hid (fpF_in hoT)
          clear hoT hlT htT hcT
          have s2 := sec hb2
          obtain ⟨v5, w4, hrun, hown4, hgr4, hat4⟩ := fin hb2 ta
          obtain ⟨sv, rfl⟩ := owns_slv hown4
          have hc2 := cc hb2
          have hc3 := cd hb2 (.cells #[.string ta.name, .bool ta.out, .slice ta.par.a ta.par.n ta.par.c, .int .i64 ta.res, .slice ta.blk.a ta.blk.n ta.blk.c] 36)
          have s3 := sed hb2 (.cells #[.string ta.name, .bool ta.out, .slice ta.par.a ta.par.n ta.par.c, .int .i64 ta.res, .slice ta.blk.a ta.blk.n ta.blk.c] 36)
          have s4 := see hb2 hgr4
          have hc4 := ce hb2 hgr4
          have s5 := sef s4 (.slice sv.a sv.n sv.c)
          have fz4 := fzz hb2 hgr4
          refine hK.out _ _ s2 (fun _ => ?_)
          clear hK K
          replace hS := s2
          try simp only [Act.put, sP1, sP2, sP3]
          refine wpAnyH_ready (rs := [1, 8]) (by kernel_rfl) (by simp) ?_
          refine AllReadyH.cons rfl (fun K hK => ?_) (AllReadyH.cons rfl (fun K hK => ?_) AllReadyH.nil)
          ·go_simp
           refine hK.out _ _ s2 (fun _ => ?_)
           clear hK K
           replace hS := s2
           try simp only [Act.put, sP1, sP2, sP3]
           refine wpAnyH_ready (rs := [8]) (by kernel_rfl) (by simp) ?_
           refine AllReadyH.cons rfl (fun K hK => ?_) AllReadyH.nil
           go_simp
           refine hK.out _ _ s3 (fun _ => ?_)
           clear hK K
           replace hS := s3
           try simp only [Act.put, sP1, sP2, sP3]
           refine wpAnyH_ready (rs := [9]) (by kernel_rfl) (by simp) ?_
           refine AllReadyH.cons rfl (fun K hK => ?_) AllReadyH.nil
           rw [if_pos (by rfl)]
           refine wp_app (s := .tmp 94) (x := .tmp 101) (t := 25) (d := some 102) rfl rfl rfl rfl rfl hrun ?_
           try simp only [Act.put, sP1, sP2, sP3]
           refine hK.out _ _ s4 (fun _ => ?_)
           clear hK K
           replace hS := s4
           try simp only [Act.put, sP1, sP2, sP3]
           refine Own.tk (i := 10) (d := some 103) (v := ?vtFb10) rfl (by rfl) ?ytFb10 hS ?_
           case ytFb10 => intro wx hSw; (go_simp) <;> with_reducible rfl
           simp only [Act.put, sP1, sP2, sP3]
           refine wpAnyH_ready (rs := [11]) (by kernel_rfl) (by simp) ?_
           refine AllReadyH.cons rfl (fun K hK => ?_) AllReadyH.nil
           go_simp
           refine hK.out _ _ s5 (fun _ => ?_)
           clear hK K
           replace hS := s5
           try simp only [Act.put, sP1, sP2, sP3]
           refine wpAnyH_done (by kernel_rfl) ?_ _
           refine NoPanic.normal ?_
           obtain ⟨t2, g2⟩ := HP.out.step (elR_stable _ _) hb2 EL.out FE.out hown4 hgr4 hat4
           have FF := hid g2
           clear g2
           go_wp2_with fail
           go_round
           case rel => exact ⟨k + 1, by omega, by go_num, sv, _, FF.out⟩
           case measure => simp [intOf]; omega
          ·go_simp
           refine hK.out _ _ s3 (fun _ => ?_)
           clear hK K
           replace hS := s3
           try simp only [Act.put, sP1, sP2, sP3]
           refine wpAnyH_ready (rs := [1]) (by kernel_rfl) (by simp) ?_
           refine AllReadyH.cons rfl (fun K hK => ?_) AllReadyH.nil
           go_simp
           refine hK.out _ _ s3 (fun _ => ?_)
           clear hK K
           replace hS := s3
           try simp only [Act.put, sP1, sP2, sP3]
           refine wpAnyH_ready (rs := [9]) (by kernel_rfl) (by simp) ?_
           refine AllReadyH.cons rfl (fun K hK => ?_) AllReadyH.nil
           rw [if_pos (by rfl)]
           refine wp_app (s := .tmp 94) (x := .tmp 101) (t := 25) (d := some 102) rfl rfl rfl rfl rfl hrun ?_
           try simp only [Act.put, sP1, sP2, sP3]
           refine hK.out _ _ s4 (fun _ => ?_)
           clear hK K
           replace hS := s4
           try simp only [Act.put, sP1, sP2, sP3]
           refine Own.tk (i := 10) (d := some 103) (v := ?vtFc10) rfl (by rfl) ?ytFc10 hS ?_
           case ytFc10 => intro wx hSw; (go_simp) <;> with_reducible rfl
           simp only [Act.put, sP1, sP2, sP3]
           refine wpAnyH_ready (rs := [11]) (by kernel_rfl) (by simp) ?_
           refine AllReadyH.cons rfl (fun K hK => ?_) AllReadyH.nil
           go_simp
           refine hK.out _ _ s5 (fun _ => ?_)
           clear hK K
           replace hS := s5
           try simp only [Act.put, sP1, sP2, sP3]
           refine wpAnyH_done (by kernel_rfl) ?_ _
           refine NoPanic.normal ?_
           obtain ⟨t2, g2⟩ := HP.out.step (elR_stable _ _) hb2 EL.out FE.out hown4 hgr4 hat4
           have FF := hid g2
           clear g2
           go_wp2_with fail
           go_round
           case rel => exact ⟨k + 1, by omega, by go_num, sv, _, FF.out⟩
           case measure => simp [intOf]; omega
        ·obtain rfl : k = M.fns.n := by omega
         have hVL := VL3.out
         have KP4 := hid (And.intro hst.kp hst.size)
         have MX4 := hid (show MBox wr w.heap.size M from ⟨c0, c1, c2, c3⟩)
         have ZB4 := hid (ZB3.out.at_block (hst.kp (w.heap.size + 1) (by omega) (by omega)))
         have ZF4 := hid (show ∀ i, wr.frozen? ⟨w.heap.size + 1, i, none⟩ = false from fun i => by rw [World.frozen?_of_block (w := ws3) (hst.kp (w.heap.size + 1) (by omega) (by omega))]; exact ZF3.out i)
         have LO4 := hid hst.low
         have VL4 := hid (show w.heap.size + 2 < wr.heap.size by omega)
         have FZ4 := hid hst.fz
         have DF4 := hid (And.intro hst.g (And.intro hst.c hVL))
         have DE4 := hid (And.intro (DE3.out.1.keep (elS_stable _ _ _) hst.size (fun b h1 h2 => hst.kp b (by have := DE3.out.2.2; omega) h2)) (And.intro ((hst.o 0 (by decide)).trans DE3.out.2.1) DE3.out.2.2))
         have DG4 := hid (And.intro (DG3.out.1.keep (elS_stable _ _ _) hst.size (fun b h1 h2 => hst.kp b (by have := DG3.out.2.2; omega) h2)) (And.intro ((hst.o 1 (by decide)).trans DG3.out.2.1) DG3.out.2.2))
         have DT4 := hid (And.intro (DT3.out.1.keep (elS_stable _ _ _) hst.size (fun b h1 h2 => hst.kp b (by have := DT3.out.2.2; omega) h2)) (And.intro ((hst.o 2 (by decide)).trans DT3.out.2.1) DT3.out.2.2))
         have CF4 := hid (show (True) ∧ (True) ∧ (True) ∧ (True) from ⟨trivial, trivial, trivial, trivial⟩)
         have CV4 := hst.c
         clear hst
         have v0 := DE4.out.2.1
         have v1 := DG4.out.2.1
         have v2 := DT4.out.2.1
         have v3 := DF4.out.2.1
         obtain ⟨z0, z1, z2, z3⟩ := ZB4.out
         have zf := ZF4.out
         go_wp2_with fail
         refine bodyPost_ret (v := .agg #[.slice vs0.a vs0.n vs0.c, .slice vs1.a vs1.n vs1.c, .slice vs2.a vs2.n vs2.c, .slice vs.a vs.n vs.c]) (by rw [results_cell rfl]; go_simp) rfl ?_
         have KPF := hid (show ∀ wz : World, (∀ b, b ≠ w.heap.size + 1 → wz.heap[b]? = wr.heap[b]?) → ∀ b, w.heap.size + 2 < b → b < ws3.heap.size → wz.heap[b]? = ws3.heap[b]? from fun wz h b h1 h2 => by rw [h b (by omega)]; exact KP4.out.1 b (by omega) h2)
         refine copied_both HS.out DE3.out.1 DG3.out.1 DT3.out.1 (DF4.out.1.keep (elR_stable _ _) ?_ ?_) ?_ ?_ (KPF.out _ ?_) DE3.out.2.2 DG3.out.2.2 DT3.out.2.2 VL3.out (up_of DE1.out.1) (up_of DG2.out.1) (up_of DT3.out.1) SZ1.out SZ2.out SZ3.out
         rotate_right 1
         ·intro b hb0
          repeat rw [Below.heap_setCell _ _ _ _ (by show b ≠ w.heap.size + 1; exact hb0)]
         any_goals (first | (simp; done) | (simp; have := KP4.out.2; omega; done) | (intro b h1 h2; repeat rw [Below.heap_setCell _ _ _ _ (by show b ≠ w.heap.size + 1; have := DF4.out.2.2; omega)]))
         all_goals (repeat (refine Below.setCell ?_ (by simp) _))
         all_goals exact LO4.out

end Go.Proofs.YtolipafcoolpgaaGreat.CpM
