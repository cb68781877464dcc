/-
  dom.findHeads: the head of each place.
-/
import Derived.Test.YtolipafcoolpgaaGreatDme
import Derived.Test.YtolipafcoolpgaaGreatJ12
import Derived.Test.YtolipafcoolpgaaGreatJ11
import Derived.Deep.RegionHeld3
import Derived.Deep.CutRange
namespace Go.Proofs.YtolipafcoolpgaaGreat.Dm
open Go.RowKit View Rd Copy Num Ty Srt Flo Go.Proofs.YtolipafcoolpgaaGreat.Lt

set_option linter.unusedVariables false

theorem least_mono {m : Nat} {e : Nat → Nat → Prop} {par H : Nat → Nat} {w l : Nat} {P P' : Nat → Prop} (h : Least m e par H w P l) (hp : ∀ v, v < m → P' v → P v) : Least m e par H w P' l :=
 ⟨h.le, h.way, fun v hv he hm => h.low v (hp v hm hv) he hm, fun v hv he hm => h.least v (hp v hm hv) he hm⟩

theorem least_next {F : FV} {L : List Nat} {par Hh u5 l5 : Nat → Nat} {m k t hv v bb b p : Nat} {Q : List Nat} (hgr : Gro (su F) L par []) (hm : L.length = m) (hkm : k < m) (hhd : ∀ x, k < x → x < m → Head m (ePl (su F) L) x (Hh x)) (hls : Least m (ePl (su F) L) par Hh k (fun y => ∃ i, i < t ∧ Q.getD i 0 = L.getD y 0) hv) (hkn : Kn par Hh m k u5 l5) (hvl : v < m) (hvp : L.getD v 0 = p) (hbk : L.getD k 0 = b) (hpe : b ∈ su F p) (hpt : Q.getD t 0 = p)
  (hres : if v ≤ k then bb = v else bb = l5 v ∧ u5 v ≤ k) : Least m (ePl (su F) L) par Hh k (fun y => ∃ i, i < t + 1 ∧ Q.getD i 0 = L.getD y 0) (min hv bb) := by
 have D : Dfs m (ePl (su F) L) par := by rw [← hm]; exact hgr.dfs
 have he : ePl (su F) L v k := ⟨by omega, by omega, by rw [hbk, hvp]; exact hpe⟩
 have key : Least m (ePl (su F) L) par Hh k (fun x => (∃ i, i < t ∧ Q.getD i 0 = L.getD x 0) ∨ x = v) (min hv bb) := by
  by_cases hvk : v ≤ k
  ·rw [if_pos hvk] at hres
   rw [hres]
   exact hls.near D hvk hkm he
  ·rw [if_neg hvk] at hres
   rw [hres.1]
   exact hls.far D (by omega) hvl he hhd (hkn v (by omega) hvl) hres.2
 refine least_mono key (fun y hy h => ?_)
 obtain ⟨i, hi, e⟩ := h
 by_cases ei : i = t
 ·subst ei
  rw [hpt, ← hvp] at e
  exact .inr (getD_inj hgr.nodup (by omega) (by omega) e).symm
 ·exact .inl ⟨i, by omega, e⟩

theorem CM.apart {cb gu cu gl cl m B0 : Nat} {wr : World} {wv : Value} {W : List Nat} {u l : Nat → Nat} (h : CM cb gu cu gl cl m B0 wr wv W u l) {g i : Nat} (h1 : g ≠ cb) (h2 : g ≠ gu) (h3 : g ≠ gl) (h4 : g < B0) (v : Value) : CM cb gu cu gl cl m B0 (wr.setCell ⟨g, i, none⟩ v) wv W u l := by
 have b2 : ∀ k, k ≠ g → (wr.setCell ⟨g, i, none⟩ v).heap[k]? = wr.heap[k]? := fun k hk => Below.heap_setCell _ _ _ _ hk
 have cc : ∀ j {x : Value}, wr.cell? ⟨cb, j, none⟩ = some x → (wr.setCell ⟨g, i, none⟩ v).cell? ⟨cb, j, none⟩ = some x := fun j x hx => by rw [World.cell?_of_block (w := wr) (b2 cb (fun e => h1 e.symm))]; exact hx
 exact ⟨cc 0 h.c0, cc 1 h.c1, cc 2 h.c2, fun j => by rw [World.frozen?_setCell]; exact h.cz j, h.up.at_block (b2 _ (fun e => h2 e.symm)), h.le.at_block (b2 _ (fun e => h3 e.symm)), own_keep h.wo (fun k q1 _ => b2 k (by omega)), h.low, by simp; exact h.sz⟩

theorem zero3 (i : Nat) (hi : i < 3) : (#[.slice none 0 0, .slice none 0 0, .slice none 0 0] : Array Value)[i]? = some (.slice none 0 0) := by
 have h3 : i = 0 ∨ i = 1 ∨ i = 2 := by omega
 rcases h3 with rfl | rfl | rfl <;> rfl

theorem cm_start {X : World} {cb gu cu gl cl m : Nat} {par : Nat → Nat} (ru : Ro X gu m (fun p => if p = 0 then -1 else (par p : Int))) (rl : Ro X gl m (fun i => (i : Int))) (bc : ∀ i, i < 3 → X.cell? ⟨cb, i, none⟩ = some (.slice none 0 0)) (bz : ∀ i, X.frozen? ⟨cb, i, none⟩ = false) (n1 : cb ≠ gu) (n2 : cb ≠ gl) (n3 : gu ≠ gl) (hcb : cb < X.heap.size) :
  CM cb gu cu gl cl m (((X.setCell ⟨cb, 0, none⟩ (.slice (some ⟨gu, 0, none⟩) m cu)).setCell ⟨cb, 1, none⟩ (.slice (some ⟨gl, 0, none⟩) m cl)).setCell ⟨cb, 2, none⟩ (.slice none 0 0)).heap.size (((X.setCell ⟨cb, 0, none⟩ (.slice (some ⟨gu, 0, none⟩) m cu)).setCell ⟨cb, 1, none⟩ (.slice (some ⟨gl, 0, none⟩) m cl)).setCell ⟨cb, 2, none⟩ (.slice none 0 0)) (.slice none 0 0) [] par (fun x => x) := by
 have b2 : ∀ k, k ≠ cb → (((X.setCell ⟨cb, 0, none⟩ (.slice (some ⟨gu, 0, none⟩) m cu)).setCell ⟨cb, 1, none⟩ (.slice (some ⟨gl, 0, none⟩) m cl)).setCell ⟨cb, 2, none⟩ (.slice none 0 0)).heap[k]? = X.heap[k]? := fun k hk => by
  rw [Below.heap_setCell _ _ _ _ hk, Below.heap_setCell _ _ _ _ hk, Below.heap_setCell _ _ _ _ hk]
 refine ⟨cell_other (ne_off (by omega)) (cell_other (ne_off (by omega)) (cell_same (bc 0 (by omega)))), cell_other (ne_off (by omega)) (cell_same (cell_other (ne_off (by omega)) (bc 1 (by omega)))), cell_same (cell_other (ne_off (by omega)) (cell_other (ne_off (by omega)) (bc 2 (by omega)))), fun i => by rw [World.frozen?_setCell, World.frozen?_setCell, World.frozen?_setCell]; exact bz i, ru.at_block (b2 _ (fun e => n1 e.symm)), rl.at_block (b2 _ (fun e => n2 e.symm)), World.ownsRow_nil _ _ _ _, ⟨by simp; exact hcb, by simp; exact ru.lt, by simp; exact rl.lt, n1, n2, n3⟩, Nat.le_refl _⟩

set_option maxRecDepth 10000 in
set_option maxHeartbeats 4000000 in
theorem findHeads_any (F : FV) (hl : Light F) (L : List Nat) (par : Nat → Nat) (hgr : Gro (su F) L par []) (g1 c1 g2 c2 g3 M : Nat) (R : Nat → Sl) (w : World) (r1 : Ro w g1 L.length (fun i => ((L.getD i 0 : Nat) : Int))) (r2 : Ro w g2 L.length (fun p => if p = 0 then -1 else (par p : Int))) (r3 : Ro w g3 F.blk.n (plc L)) (hc2 : L.length ≤ c2) (hpv : Pv w M F.blk.n R (pvL F F.blk.n)) (hm16 : L.length ≤ 48) (hlt : ∀ x ∈ L, x < F.blk.n) :
  Calls Tryz.prog 168 #[.agg #[.slice (some ⟨g1, 0, none⟩) L.length c1, .slice (some ⟨g2, 0, none⟩) L.length c2, .slice (some ⟨g3, 0, none⟩) F.blk.n F.blk.n], .slice (some ⟨M, 0, none⟩) F.blk.n F.blk.n] w fun e' w' => ∃ H : Nat → Nat, (∀ x, 0 < x → x < L.length → Head L.length (ePl (su F) L) x (H x)) ∧ H 0 = 0 ∧ RowIs L.length (fun p => (H p : Int)) w e' w' := by
 have D := hgr.dfs
 have mp := hgr.pos
 have HL := hid hl
 have HGR := hid hgr
 have R1 := hid r1
 have R2 := hid r2
 have R3 := hid r3
 have PV := hid hpv
 obtain ⟨m, hm⟩ : ∃ m, L.length = m := ⟨_, rfl⟩
 rw [hm] at R1 R2 D mp hc2 hm16 ⊢
 have HM := hid hm
 clear hl hgr r1 r2 r3 hpv hm
 go_enter Tryz.func168, Tryz.ntmps168
 go_wp2_with fail
 refine (count_any m (by omega) _).mono ?_
 rintro e1 w1 ⟨gh, ch, rfl, rh, hgh, hb1⟩
 have hgh1 : w.heap.size < gh := by simp at hgh; omega
 have B1 := hid (View.more (new (same w) _) hb1)
 have RH := hid rh
 have T1 := hid (show ∀ i v, (#[.slice (some ⟨g1, 0, none⟩) m c1, .slice (some ⟨g2, 0, none⟩) m c2, .slice (some ⟨g3, 0, none⟩) F.blk.n F.blk.n] : Array Value)[i]? = some v → w1.cell? ⟨w.heap.size, i, none⟩ = some v from fun i v h => cell_on hb1 (new_cell w _ _ i v h))
 have t0 := T1.out 0 _ rfl
 have t1 := T1.out 1 _ rfl
 have t2 := T1.out 2 _ rfl
 have k0 : ∀ wx, Below w1.heap.size w1 wx → wx.cell? ⟨w.heap.size, 0, none⟩ = some (.slice (some ⟨g1, 0, none⟩) m c1) := fun wx h => cell_on h t0
 have k1 : ∀ wx, Below w1.heap.size w1 wx → wx.cell? ⟨w.heap.size, 1, none⟩ = some (.slice (some ⟨g2, 0, none⟩) m c2) := fun wx h => cell_on h t1
 have st0 : Below w1.heap.size w1 w1.drew := Below.drew (same _)
 clear rh hgh hb1 t0 t1 t2
 go_wp2_with fail
 go_cut [6] from 15 to 22 (fun c wx => ∃ cb gu cu gl cl, c = .pointer (some ⟨cb, 0, none⟩) ∧ CM cb gu cu gl cl m wx.heap.size wx (.slice none 0 0) [] par (fun x => x) ∧ Below w1.heap.size w1 wx ∧ w1.heap.size ≤ cb ∧ w1.heap.size ≤ gu ∧ w1.heap.size ≤ gl)
 case first =>
  refine wp_region_noPanic ?_
  refine wp_region_held_drew (S := fun wy => Below w1.heap.size w1 wy) (by kernel_rfl) st0 (fun hS => ?_)
  refine Flo.tk (i := 0) (d := some 15) (v := ?vc0) rfl (by rfl) ?yc0 hS ?_
  case yc0 => intro wx hSw; (go_simp) <;> with_reducible rfl
  simp only [Act.put, sP1, sP2, sP3]
  refine Flo.tk (i := 1) (d := some 16) (v := ?vc1) rfl (by rfl) ?yc1 hS ?_
  case yc1 => intro wx hSw; (go_simp) <;> with_reducible rfl
  simp only [Act.put, sP1, sP2, sP3]
  refine Flo.tk (i := 3) (d := some 18) (v := ?vc3) rfl (by rfl) ?yc3 hS ?_
  case yc3 => intro wx hSw; (go_simp) <;> with_reducible rfl
  simp only [Act.put, sP1, sP2, sP3]
  refine Flo.tk (i := 4) (d := some 19) (v := ?vc4) rfl (by rfl) ?yc4 hS ?_
  case yc4 => intro wx hSw; (go_simp) <;> with_reducible rfl
  simp only [Act.put, sP1, sP2, sP3]
  refine Flo.tk (i := 5) (d := some 20) (v := ?vc5) rfl (by rfl) ?yc5 hS ?_
  case yc5 => intro wx hSw; (go_simp) <;> with_reducible rfl
  simp only [Act.put, sP1, sP2, sP3]
  obtain ⟨x0, hx0⟩ : ∃ x0, w1.drew = x0 := ⟨_, rfl⟩
  have q0 : Below w1.heap.size w1 x0 := by rw [← hx0]; exact st0
  have hq0 : w1.heap.size ≤ x0.heap.size := q0.size
  rw [hx0] at hS ⊢
  clear hx0 st0
  refine wpAnyH_ready (rs := [2, 8]) (by kernel_rfl) (by simp) ?_
  refine AllReadyH.cons rfl (fun K hK => ?_) (AllReadyH.cons rfl (fun K hK => ?_) AllReadyH.nil)
  ·go_simp
   refine (clone_any g2 m c2 _ _ (R2.out.on (View.more B1.out q0)) mp (by omega) hc2).mono ?_
   rintro e2 x1 ⟨gu, cu, rfl, ru, hgu, hb1⟩
   have q1 : Below w1.heap.size w1 x1 := View.more q0 hb1
   have RU := hid ru
   have rul := ru.lt
   clear ru
   have hq1 := hb1.size
   refine hK.out _ _ q1 (fun _ => ?_)
   clear hK K
   replace hS := q1
   try simp only [Act.put, sP1, sP2, sP3]
   refine wpAnyH_ready (rs := [6, 8]) (by kernel_rfl) (by simp) ?_
   refine AllReadyH.cons rfl (fun K hK => ?_) (AllReadyH.cons rfl (fun K hK => ?_) AllReadyH.nil)
   ·go_simp
    refine (count_any m (by omega) _).mono ?_
    rintro e3 x2 ⟨gl, cl, rfl, rl, hgl, hb2⟩
    have q2 : Below w1.heap.size w1 x2 := View.more q1 hb2
    have RL := hid rl
    have rll := rl.lt
    clear rl
    have hq2 := hb2.size
    refine hK.out _ _ q2 (fun _ => ?_)
    clear hK K
    replace hS := q2
    try simp only [Act.put, sP1, sP2, sP3]
    refine Flo.tk (i := 7) (d := some 22) (v := ?vc1x7) rfl (by rfl) ?yc1x7 hS ?_
    case yc1x7 => intro wx hSw; (go_simp) <;> with_reducible rfl
    simp only [Act.put, sP1, sP2, sP3]
    refine wpAnyH_ready (rs := [8]) (by kernel_rfl) (by simp) ?_
    refine AllReadyH.cons rfl (fun K hK => ?_) AllReadyH.nil
    go_simp
    have hb3 : Below x2.heap.size x2 (x2.alloc (.cells #[.slice none 0 0, .slice none 0 0, .slice none 0 0] 233)) := new (same _) _
    have BX := hid (show (∀ i, i < 3 → (x2.alloc (.cells #[.slice none 0 0, .slice none 0 0, .slice none 0 0] 233)).cell? ⟨x2.heap.size, i, none⟩ = some (.slice none 0 0)) ∧ ∀ i, (x2.alloc (.cells #[.slice none 0 0, .slice none 0 0, .slice none 0 0] 233)).frozen? ⟨x2.heap.size, i, none⟩ = false from ⟨fun i hi => new_cell x2 _ _ i _ (zero3 i hi), fun i => new_froz x2 _ _ i⟩)
    obtain ⟨x3, hx3⟩ : ∃ x, x2.alloc (.cells #[.slice none 0 0, .slice none 0 0, .slice none 0 0] 233) = x := ⟨_, rfl⟩
    have cbz : x3.heap.size = x2.heap.size + 1 := by rw [← hx3]; simp
    obtain ⟨cb, hcb⟩ : ∃ cb, x2.heap.size = cb := ⟨_, rfl⟩
    rw [hx3] at hb3 BX ⊢
    rw [hcb] at BX cbz ⊢
    have q3 : Below w1.heap.size w1 x3 := View.more q2 (by rw [hcb] at hb3; rw [hcb]; exact hb3)
    clear hx3
    have hq3 := hb3.size
    refine hK.out _ _ q3 (fun _ => ?_)
    clear hK K
    replace hS := q3
    try simp only [Act.put, sP1, sP2, sP3]
    have fru := ((RU.out.on hb2).on hb3)
    have frl := (RL.out.on hb3)
    have fbc : ∀ i, i < 3 → x3.cell? ⟨cb, i, none⟩ = some (.slice none 0 0) := fun i hi => BX.out.1 i hi
    have fbz : ∀ i, x3.frozen? ⟨cb, i, none⟩ = false := fun i => by exact BX.out.2 i
    have f0 := fbc 0 (by omega)
    have f1 := fbc 1 (by omega)
    have f2 := fbc 2 (by omega)
    have s9 : Below w1.heap.size w1 (((x3.setCell ⟨cb, 0, none⟩ (.slice (some ⟨gu, 0, none⟩) m cu)).setCell ⟨cb, 1, none⟩ (.slice (some ⟨gl, 0, none⟩) m cl)).setCell ⟨cb, 2, none⟩ (.slice none 0 0)) := ((q3.setCell (by show _ ≤ cb; omega) _).setCell (by show _ ≤ cb; omega) _).setCell (by show _ ≤ cb; omega) _
    have FIN := hid (cm_start (cu := cu) (cl := cl) fru frl fbc fbz (by omega) (by omega) (by omega) (by omega))
    refine wpAnyH_ready (rs := [9]) (by kernel_rfl) (by simp) ?_
    refine AllReadyH.cons rfl (fun K hK => ?_) AllReadyH.nil
    go_simp
    refine hK.out _ _ s9 (fun _ => ?_)
    clear hK K
    replace hS := s9
    try simp only [Act.put, sP1, sP2, sP3]
    refine wpAnyH_done (by kernel_rfl) ?_ _
    refine NoPanic.normal ?_
    go_wp2_with fail
    go_meet
    case rel => exact ⟨cb, gu, cu, gl, cl, rfl, FIN.out, s9, by omega, by omega, by omega⟩
   ·go_simp
    have hb2 : Below x1.heap.size x1 (x1.alloc (.cells #[.slice none 0 0, .slice none 0 0, .slice none 0 0] 233)) := new (same _) _
    have BX := hid (show (∀ i, i < 3 → (x1.alloc (.cells #[.slice none 0 0, .slice none 0 0, .slice none 0 0] 233)).cell? ⟨x1.heap.size, i, none⟩ = some (.slice none 0 0)) ∧ ∀ i, (x1.alloc (.cells #[.slice none 0 0, .slice none 0 0, .slice none 0 0] 233)).frozen? ⟨x1.heap.size, i, none⟩ = false from ⟨fun i hi => new_cell x1 _ _ i _ (zero3 i hi), fun i => new_froz x1 _ _ i⟩)
    obtain ⟨x2, hx2⟩ : ∃ x, x1.alloc (.cells #[.slice none 0 0, .slice none 0 0, .slice none 0 0] 233) = x := ⟨_, rfl⟩
    have cbz : x2.heap.size = x1.heap.size + 1 := by rw [← hx2]; simp
    obtain ⟨cb, hcb⟩ : ∃ cb, x1.heap.size = cb := ⟨_, rfl⟩
    rw [hx2] at hb2 BX ⊢
    rw [hcb] at BX cbz ⊢
    have q2 : Below w1.heap.size w1 x2 := View.more q1 (by rw [hcb] at hb2; rw [hcb]; exact hb2)
    clear hx2
    have hq2 := hb2.size
    refine hK.out _ _ q2 (fun _ => ?_)
    clear hK K
    replace hS := q2
    try simp only [Act.put, sP1, sP2, sP3]
    refine wpAnyH_ready (rs := [6]) (by kernel_rfl) (by simp) ?_
    refine AllReadyH.cons rfl (fun K hK => ?_) AllReadyH.nil
    go_simp
    refine (count_any m (by omega) _).mono ?_
    rintro e3 x3 ⟨gl, cl, rfl, rl, hgl, hb3⟩
    have q3 : Below w1.heap.size w1 x3 := View.more q2 hb3
    have RL := hid rl
    have rll := rl.lt
    clear rl
    have hq3 := hb3.size
    refine hK.out _ _ q3 (fun _ => ?_)
    clear hK K
    replace hS := q3
    try simp only [Act.put, sP1, sP2, sP3]
    refine Flo.tk (i := 7) (d := some 22) (v := ?vc2x7) rfl (by rfl) ?yc2x7 hS ?_
    case yc2x7 => intro wx hSw; (go_simp) <;> with_reducible rfl
    simp only [Act.put, sP1, sP2, sP3]
    have fru := ((RU.out.on hb2).on hb3)
    have frl := RL.out
    have fbc : ∀ i, i < 3 → x3.cell? ⟨cb, i, none⟩ = some (.slice none 0 0) := fun i hi => (cell_on hb3 (BX.out.1 i hi))
    have fbz : ∀ i, x3.frozen? ⟨cb, i, none⟩ = false := fun i => by rw [hb3.frozen (show cb < _ by omega)]; exact BX.out.2 i
    have f0 := fbc 0 (by omega)
    have f1 := fbc 1 (by omega)
    have f2 := fbc 2 (by omega)
    have s9 : Below w1.heap.size w1 (((x3.setCell ⟨cb, 0, none⟩ (.slice (some ⟨gu, 0, none⟩) m cu)).setCell ⟨cb, 1, none⟩ (.slice (some ⟨gl, 0, none⟩) m cl)).setCell ⟨cb, 2, none⟩ (.slice none 0 0)) := ((q3.setCell (by show _ ≤ cb; omega) _).setCell (by show _ ≤ cb; omega) _).setCell (by show _ ≤ cb; omega) _
    have FIN := hid (cm_start (cu := cu) (cl := cl) fru frl fbc fbz (by omega) (by omega) (by omega) (by omega))
    refine wpAnyH_ready (rs := [9]) (by kernel_rfl) (by simp) ?_
    refine AllReadyH.cons rfl (fun K hK => ?_) AllReadyH.nil
    go_simp
    refine hK.out _ _ s9 (fun _ => ?_)
    clear hK K
    replace hS := s9
    try simp only [Act.put, sP1, sP2, sP3]
    refine wpAnyH_done (by kernel_rfl) ?_ _
    refine NoPanic.normal ?_
    go_wp2_with fail
    go_meet
    case rel => exact ⟨cb, gu, cu, gl, cl, rfl, FIN.out, s9, by omega, by omega, by omega⟩
  ·go_simp
   have hb1 : Below x0.heap.size x0 (x0.alloc (.cells #[.slice none 0 0, .slice none 0 0, .slice none 0 0] 233)) := new (same _) _
   have BX := hid (show (∀ i, i < 3 → (x0.alloc (.cells #[.slice none 0 0, .slice none 0 0, .slice none 0 0] 233)).cell? ⟨x0.heap.size, i, none⟩ = some (.slice none 0 0)) ∧ ∀ i, (x0.alloc (.cells #[.slice none 0 0, .slice none 0 0, .slice none 0 0] 233)).frozen? ⟨x0.heap.size, i, none⟩ = false from ⟨fun i hi => new_cell x0 _ _ i _ (zero3 i hi), fun i => new_froz x0 _ _ i⟩)
   obtain ⟨x1, hx1⟩ : ∃ x, x0.alloc (.cells #[.slice none 0 0, .slice none 0 0, .slice none 0 0] 233) = x := ⟨_, rfl⟩
   have cbz : x1.heap.size = x0.heap.size + 1 := by rw [← hx1]; simp
   obtain ⟨cb, hcb⟩ : ∃ cb, x0.heap.size = cb := ⟨_, rfl⟩
   rw [hx1] at hb1 BX ⊢
   rw [hcb] at BX cbz ⊢
   have q1 : Below w1.heap.size w1 x1 := View.more q0 (by rw [hcb] at hb1; rw [hcb]; exact hb1)
   clear hx1
   have hq1 := hb1.size
   refine hK.out _ _ q1 (fun _ => ?_)
   clear hK K
   replace hS := q1
   try simp only [Act.put, sP1, sP2, sP3]
   refine wpAnyH_ready (rs := [2]) (by kernel_rfl) (by simp) ?_
   refine AllReadyH.cons rfl (fun K hK => ?_) AllReadyH.nil
   go_simp
   refine (clone_any g2 m c2 _ _ (R2.out.on (View.more B1.out q1)) mp (by omega) hc2).mono ?_
   rintro e2 x2 ⟨gu, cu, rfl, ru, hgu, hb2⟩
   have q2 : Below w1.heap.size w1 x2 := View.more q1 hb2
   have RU := hid ru
   have rul := ru.lt
   clear ru
   have hq2 := hb2.size
   refine hK.out _ _ q2 (fun _ => ?_)
   clear hK K
   replace hS := q2
   try simp only [Act.put, sP1, sP2, sP3]
   refine wpAnyH_ready (rs := [6]) (by kernel_rfl) (by simp) ?_
   refine AllReadyH.cons rfl (fun K hK => ?_) AllReadyH.nil
   go_simp
   refine (count_any m (by omega) _).mono ?_
   rintro e3 x3 ⟨gl, cl, rfl, rl, hgl, hb3⟩
   have q3 : Below w1.heap.size w1 x3 := View.more q2 hb3
   have RL := hid rl
   have rll := rl.lt
   clear rl
   have hq3 := hb3.size
   refine hK.out _ _ q3 (fun _ => ?_)
   clear hK K
   replace hS := q3
   try simp only [Act.put, sP1, sP2, sP3]
   refine Flo.tk (i := 7) (d := some 22) (v := ?vc3x7) rfl (by rfl) ?yc3x7 hS ?_
   case yc3x7 => intro wx hSw; (go_simp) <;> with_reducible rfl
   simp only [Act.put, sP1, sP2, sP3]
   have fru := (RU.out.on hb3)
   have frl := RL.out
   have fbc : ∀ i, i < 3 → x3.cell? ⟨cb, i, none⟩ = some (.slice none 0 0) := fun i hi => (cell_on hb3 ((cell_on hb2 (BX.out.1 i hi))))
   have fbz : ∀ i, x3.frozen? ⟨cb, i, none⟩ = false := fun i => by rw [hb3.frozen (show cb < _ by omega), hb2.frozen (show cb < _ by omega)]; exact BX.out.2 i
   have f0 := fbc 0 (by omega)
   have f1 := fbc 1 (by omega)
   have f2 := fbc 2 (by omega)
   have s9 : Below w1.heap.size w1 (((x3.setCell ⟨cb, 0, none⟩ (.slice (some ⟨gu, 0, none⟩) m cu)).setCell ⟨cb, 1, none⟩ (.slice (some ⟨gl, 0, none⟩) m cl)).setCell ⟨cb, 2, none⟩ (.slice none 0 0)) := ((q3.setCell (by show _ ≤ cb; omega) _).setCell (by show _ ≤ cb; omega) _).setCell (by show _ ≤ cb; omega) _
   have FIN := hid (cm_start (cu := cu) (cl := cl) fru frl fbc fbz (by omega) (by omega) (by omega) (by omega))
   refine wpAnyH_ready (rs := [9]) (by kernel_rfl) (by simp) ?_
   refine AllReadyH.cons rfl (fun K hK => ?_) AllReadyH.nil
   go_simp
   refine hK.out _ _ s9 (fun _ => ?_)
   clear hK K
   replace hS := s9
   try simp only [Act.put, sP1, sP2, sP3]
   refine wpAnyH_done (by kernel_rfl) ?_ _
   refine NoPanic.normal ?_
   go_wp2_with fail
   go_meet
   case rel => exact ⟨cb, gu, cu, gl, cl, rfl, FIN.out, s9, by omega, by omega, by omega⟩
 case rest =>
  obtain ⟨cb, gu, cu, gl, cl, rfl, hcm, hbl, hc1, hc2', hc3⟩ := hcut
  have CM0 := hid hcm
  have BLC := hid hbl
  have hz0 := hbl.size
  obtain ⟨WB, hWB⟩ : ∃ WB, WB = wc := ⟨_, rfl⟩
  subst hWB
  obtain ⟨B0, hB0⟩ : ∃ B0, WB.heap.size = B0 := ⟨_, rfl⟩
  rw [hB0] at CM0
  have TB := hid (show ∀ i v, (#[.slice (some ⟨g1, 0, none⟩) m c1, .slice (some ⟨g2, 0, none⟩) m c2, .slice (some ⟨g3, 0, none⟩) F.blk.n F.blk.n] : Array Value)[i]? = some v → WB.cell? ⟨w.heap.size, i, none⟩ = some v from fun i v h => cell_on hbl (T1.out i v h))
  have R1B := hid (R1.out.on (View.more B1.out hbl))
  have R3B := hid (R3.out.on (View.more B1.out hbl))
  have PVB := hid (PV.out.on (View.more B1.out hbl))
  have RHB := hid (RH.out.on hbl)
  have ghl := RH.out.lt
  have BWB := hid (View.more B1.out hbl)
  have t0 := TB.out 0 _ rfl
  have HB0 := hid hB0
  have wl : w.heap.size < w1.heap.size := by omega
  clear hcm hbl k0 k1 st0
  have e0 : (m : Int) - 1 = ((m - 1 : Nat) : Int) := by omega
  go_wp2_with fail
  have ghn : gh ≠ cb ∧ gh ≠ gu ∧ gh ≠ gl ∧ gh < B0 := ⟨by omega, by omega, by omega, by omega⟩
  clear t0
  go_loopw [7] (fun iv wr => ∃ (k : Nat) (Hh u l : Nat → Nat) (wv : Value) (W : List Nat), iv = .int .i64 k ∧ k < m ∧ Ro wr gh m (fun x => (Hh x : Int)) ∧ CM cb gu cu gl cl m B0 wr wv W u l ∧ (∀ x, k < x → x < m → Head m (ePl (su F) L) x (Hh x)) ∧ (∀ x, x ≤ k → Hh x = x ∧ l x = x ∧ u x = par x) ∧ Kn par Hh m k u l ∧ (∀ q, q < B0 → q ≠ cb → q ≠ gu → q ≠ gl → q ≠ gh → wr.heap[q]? = WB.heap[q]?) ∧ Below w.heap.size w wr) (fun iv _ => (intOf iv).toNat)
  case atStart => exact ⟨m - 1, fun x => x, par, fun x => x, _, _, by rw [← e0], by omega, RHB.out, CM0.out, fun x h1 h2 => by omega, fun x _ => ⟨rfl, rfl, rfl⟩, fun x h1 h2 => by omega, fun _ _ _ _ _ _ => rfl, BWB.out⟩
  case round =>
   obtain ⟨k, Hh, u, l, wv, W, rfl, hkm, hrh, hcm, hhd, hst, hkn, hfr, hb⟩ := hrel
   have HS := hid (And.intro hrh (And.intro hcm (And.intro hhd (And.intro hst (And.intro hkn (And.intro hfr hb))))))
   have rd : ∀ q, q < B0 → q ≠ cb → q ≠ gu → q ≠ gl → q ≠ gh → wr.heap[q]? = WB.heap[q]? := hfr
   by_cases hk0 : 0 < k
   ·have t1 : decide ((0 : Int) < (k : Int)) = true := by simpa using hk0
    have hLk : L.getD k 0 ∈ L := getD_in (by rw [HM.out]; exact hkm)
    obtain ⟨b, hb'⟩ : ∃ b, L.getD k 0 = b := ⟨_, rfl⟩
    rw [hb'] at hLk
    have hbn := hlt b hLk
    have HBB := hid hb'
    have tw0 : wr.cell? ⟨w.heap.size, 0, none⟩ = some (.slice (some ⟨g1, 0, none⟩) m c1) := by rw [World.cell?_of_block (w := WB) (rd w.heap.size (by omega) (by omega) (by omega) (by omega) (by omega))]; exact TB.out 0 _ rfl
    have g1l := R1.out.lt
    have g3l := R3.out.lt
    have Ml := PV.out.row.lt
    have p1 : wr.cell? ⟨g1, k, none⟩ = some (.int .i64 b) := by
     rw [World.cell?_of_block (w := WB) (rd g1 (by omega) (by omega) (by omega) (by omega) (by omega))]
     have := R1B.out.cell k hkm
     rw [hb'] at this
     exact this
    have i1 := int_at (g := g1) (c := c1) hkm
    have i2 := row_at (M := M) hbn
    have p2 : wr.cell? ⟨M, b, none⟩ = some (Sl.val (R b)) := by
     rw [World.cell?_of_block (w := WB) (rd M (by omega) (by omega) (by omega) (by omega) (by omega))]
     exact PVB.out.row.cell hbn
    have RI := hid (show Ints w (R b) (fun i => (((pvL F F.blk.n b).getD i 0 : Nat) : Int)) ∧ (R b).n = (pvL F F.blk.n b).length by
     obtain ⟨s, hs, hn, hI, hmi⟩ := ints_of_owns (PV.out.own b hbn) (by simp; have := pvL_le F F.blk.n b; have := HL.out.blk; omega)
     have e : R b = s := by
      have h1 : (R b).a = s.a ∧ (R b).n = s.n ∧ (R b).c = s.c := by simpa [Sl.val] using hs
      cases hR : R b; cases s; rw [hR] at h1; simp at h1; simp [h1]
     rw [e]
     exact ⟨hI.congr (fun i hi => getD_ints _ _ (by rw [hn] at hi; simpa using hi)), by simpa using hn⟩)
    have rn20 : (R b).n ≤ 48 := by rw [RI.out.2]; have := pvL_le F F.blk.n b; have := HL.out.blk; omega
    have LST := hid (show Least m (ePl (su F) L) par Hh k (fun y => ∃ i, i < 0 ∧ (pvL F F.blk.n b).getD i 0 = L.getD y 0) k from least_mono (Least.start Hh k) (fun v _ h => by obtain ⟨i, hi, _⟩ := h; omega))
    clear hrh hcm hhd hst hkn hfr hb rd hb'
    go_wp2_with fail
    clear tw0 p1 p2
    go_loopw [40] (fun iv wx => ∃ (t hv : Nat) (u l : Nat → Nat) (wv : Value) (W : List Nat), iv = .int .i64 t ∧ t ≤ (R b).n ∧ Ro wx gh m (fun x => if x = k then (hv : Int) else (Hh x : Int)) ∧ CM cb gu cu gl cl m B0 wx wv W u l ∧ (∀ x, x ≤ k → l x = x ∧ u x = par x) ∧ Kn par Hh m k u l ∧ Least m (ePl (su F) L) par Hh k (fun y => ∃ i, i < t ∧ (pvL F F.blk.n b).getD i 0 = L.getD y 0) hv ∧ (∀ q, q < B0 → q ≠ cb → q ≠ gu → q ≠ gl → q ≠ gh → wx.heap[q]? = WB.heap[q]?) ∧ Below w.heap.size w wx) (fun iv _ => (R b).n - (intOf iv).toNat)
    case atStart =>
     refine ⟨0, k, u, l, wv, W, rfl, Nat.zero_le _, HS.out.1.congr (fun i hi => ?_), HS.out.2.1, fun x hx => (HS.out.2.2.2.1 x hx).2, HS.out.2.2.2.2.1, LST.out, HS.out.2.2.2.2.2.1, HS.out.2.2.2.2.2.2⟩
     by_cases e : i = k
     ·subst e; rw [if_pos rfl, (HS.out.2.2.2.1 i (Nat.le_refl _)).1]
     ·rw [if_neg e]
    case round =>
     clear LST
     obtain ⟨t, hv, u, l, wv, W, rfl, htn, hrh, hcm, hst, hkn, hls, hfr, hb⟩ := hrel
     have IS := hid (And.intro hrh (And.intro hcm (And.intro hst (And.intro hkn (And.intro hls (And.intro hfr hb))))))
     by_cases ltn : t < (R b).n
     ·obtain ⟨ib, io, hix, hci⟩ := (RI.out.1.on hb).at ltn
      obtain ⟨p, hp⟩ : ∃ p, (pvL F F.blk.n b).getD t 0 = p := ⟨_, rfl⟩
      rw [hp] at hci
      have htl : t < (pvL F F.blk.n b).length := by rw [← RI.out.2]; exact ltn
      have hpm : p ∈ pvL F F.blk.n b := by rw [← hp]; exact Flo.getD_mem htl
      have hpn : p < F.blk.n := pvL_lt p hpm
      have hpe : b ∈ su F p := (mem_pvL.1 hpm).2
      have HP := hid (And.intro hp hpe)
      have tw2 : wr.cell? ⟨w.heap.size, 2, none⟩ = some (.slice (some ⟨g3, 0, none⟩) F.blk.n F.blk.n) := by rw [World.cell?_of_block (w := WB) (hfr w.heap.size (by omega) (by omega) (by omega) (by omega) (by omega))]; exact TB.out 2 _ rfl
      have p3 : wr.cell? ⟨g3, p, none⟩ = some (.int .i64 (plc L p)) := by rw [World.cell?_of_block (w := WB) (hfr g3 (by omega) (by omega) (by omega) (by omega) (by omega))]; exact R3B.out.cell p hpn
      have i3 := int_at (g := g3) (c := F.blk.n) hpn
      clear hrh hcm hst hkn hls hfr hb hp hpm
      by_cases hpL : p ∈ L
      ·have e3 : plc L p = (L.idxOf p : Int) := by unfold plc; rw [if_pos hpL]
       rw [e3] at p3
       have hvl : L.idxOf p < m := by rw [← HM.out]; exact List.idxOf_lt_length_of_mem hpL
       have hvg : L.getD (L.idxOf p) 0 = p := by
        have : L.idxOf p < L.length := List.idxOf_lt_length_of_mem hpL
        simp [List.getD, this]
       obtain ⟨v, hv'⟩ : ∃ v, L.idxOf p = v := ⟨_, rfl⟩
       rw [hv'] at p3 hvl hvg
       have HV := hid hvg
       clear hv' e3 hvg
       have st0 : Below w.heap.size w wr.drew := Below.drew IS.out.2.2.2.2.2.2
       have c5 : wr.drew.cell? ⟨gh, k, none⟩ = some (.int .i64 hv) := by
        have := IS.out.1.cell k hkm
        rw [if_pos rfl] at this
        exact this
       have LO := hid (leastOf_any D v k wr.drew (IS.out.2.1.on (Below.drew (same _))) IS.out.2.2.2.1 hvl hm16 hkm)
       have i5 := int_at (g := gh) (c := ch) hkm
       go_wp2_with fail
       clear tw2 p3 i3 hci hix
       refine wp_region_noPanic ?_
       refine wp_region_held_drew (S := fun wy => Below w.heap.size w wy) (by kernel_rfl) st0 (fun hS => ?_)
       refine Flo.tk (i := 0) (d := some 51) (v := ?vd4x0) rfl (by rfl) ?yd4x0 hS ?_
       case yd4x0 => intro wx hSw; (go_simp) <;> with_reducible rfl
       simp only [Act.put, sP1, sP2, sP3]
       refine Flo.tk (i := 1) (d := some 52) (v := ?vd5x1) rfl (by rfl) ?yd5x1 hS ?_
       case yd5x1 => intro wx hSw; (go_simp) <;> with_reducible rfl
       simp only [Act.put, sP1, sP2, sP3]
       refine Flo.tk (i := 2) (d := some 53) (v := ?vd6x2) rfl (by rfl) ?yd6x2 hS ?_
       case yd6x2 => intro wx hSw; (go_simp) <;> with_reducible rfl
       simp only [Act.put, sP1, sP2, sP3]
       refine Flo.tk (i := 3) (d := some 54) (v := ?vd7x3) rfl (by rfl) ?yd7x3 hS ?_
       case yd7x3 => intro wx hSw; (go_simp) <;> with_reducible rfl
       simp only [Act.put, sP1, sP2, sP3]
       refine Flo.tk (i := 4) (d := some 55) (v := ?vd8x4) rfl (by rfl) ?yd8x4 hS ?_
       case yd8x4 => intro wx hSw; (go_simp) <;> with_reducible rfl
       simp only [Act.put, sP1, sP2, sP3]
       refine Flo.tk (i := 6) (d := some 57) (v := ?vd9x6) rfl (by rfl) ?yd9x6 hS ?_
       case yd9x6 => intro wx hSw; (go_simp) <;> with_reducible rfl
       simp only [Act.put, sP1, sP2, sP3]
       refine Flo.tk (i := 7) (d := some 58) (v := ?vd10x7) rfl (by rfl) ?yd10x7 hS ?_
       case yd10x7 => intro wx hSw; (go_simp) <;> with_reducible rfl
       simp only [Act.put, sP1, sP2, sP3]
       obtain ⟨x0, hx0⟩ : ∃ x0, wr.drew = x0 := ⟨_, rfl⟩
       have D0 := hid (show Below wr.heap.size wr x0 by rw [← hx0]; exact Below.drew (same _))
       have DH := hid (show ∀ g : Nat, x0.heap[g]? = wr.heap[g]? from fun g => by rw [← hx0]; rfl)
       rw [hx0] at st0 c5 LO hS ⊢
       clear hx0
       refine wpAnyH_ready (rs := [5, 8]) (by kernel_rfl) (by simp) ?_
       refine AllReadyH.cons rfl (fun K hK => ?_) (AllReadyH.cons rfl (fun K hK => ?_) AllReadyH.nil)
       ·go_simp
        refine hK.out _ _ st0 (fun _ => ?_)
        clear hK K
        replace hS := st0
        try simp only [Act.put, sP1, sP2, sP3]
        refine wpAnyH_ready (rs := [8]) (by kernel_rfl) (by simp) ?_
        refine AllReadyH.cons rfl (fun K hK => ?_) AllReadyH.nil
        go_simp
        refine LO.out.mono ?_
        rintro e5 x5 ⟨bb, wv5, W5, u5, l5, rfl, hcm5, hkn5, hst5, hres5, hz5, hfr5, hbl5⟩
        have c6 : x5.cell? ⟨gh, k, none⟩ = some (.int .i64 hv) := by rw [World.cell?_of_block (w := x0) (hfr5 gh ghn.2.2.2 ghn.1 ghn.2.1 ghn.2.2.1)]; exact c5
        have z6 : x5.frozen? ⟨gh, k, none⟩ = false := by rw [World.frozen?_of_block (w := x0) (hfr5 gh ghn.2.2.2 ghn.1 ghn.2.1 ghn.2.2.1), World.frozen?_of_block (w := wr) (DH.out gh)]; exact IS.out.1.fz k
        have q5 : Below w.heap.size w x5 := st0.trans (hbl5 w.heap.size (by omega) (by omega) (by omega) (by omega))
        have H5 := hid (And.intro hcm5 (And.intro hkn5 (And.intro hst5 (And.intro hres5 (And.intro hz5 hfr5)))))
        clear hcm5 hkn5 hst5 hres5 hz5 hfr5 hbl5
        refine hK.out _ _ q5 (fun _ => ?_)
        clear hK K
        replace hS := q5
        try simp only [Act.put, sP1, sP2, sP3]
        refine Flo.tk (i := 9) (d := some 60) (v := ?vd11x9) rfl (by rfl) ?yd11x9 hS ?_
        case yd11x9 => intro wx hSw; (go_simp) <;> with_reducible rfl
        simp only [Act.put, sP1, sP2, sP3]
        refine Flo.tk (i := 10) (d := some 61) (v := ?vd12x10) rfl (by rfl) ?yd12x10 hS ?_
        case yd12x10 => intro wx hSw; (go_simp) <;> with_reducible rfl
        simp only [Act.put, sP1, sP2, sP3]
        have hmin : (if bb < hv then (bb : Int) else (hv : Int)) = ((min hv bb : Nat) : Int) := by split <;> omega
        have s7 : Below w.heap.size w (x5.setCell ⟨gh, k, none⟩ (.int .i64 ((min hv bb : Nat) : Int))) := q5.setCell (by show _ ≤ gh; omega) _
        refine wpAnyH_ready (rs := [11]) (by kernel_rfl) (by simp) ?_
        refine AllReadyH.cons rfl (fun K hK => ?_) AllReadyH.nil
        go_simp
        refine hK.out _ _ s7 (fun _ => ?_)
        clear hK K
        replace hS := s7
        try simp only [Act.put, sP1, sP2, sP3]
        refine wpAnyH_done (by kernel_rfl) ?_ _
        refine NoPanic.normal ?_
        go_wp2_with fail
        go_round
        case rel =>
         obtain ⟨a1, a2, a3, a4, a5, a6⟩ := H5.out
         refine ⟨t + 1, min hv bb, u5, l5, wv5, W5, by go_num, by omega, ?_, a1.apart ghn.1 ghn.2.1 ghn.2.2.1 ghn.2.2.2 _, fun x hx => ?_, a2, least_next HGR.out HM.out hkm HS.out.2.2.1 IS.out.2.2.2.2.1 a2 hvl HV.out HBB.out HP.out.2 HP.out.1 a4, fun r h1 h2 h3 h4 h5 => ?_, s7⟩
         ·refine ((IS.out.1.at_block ((a6 gh ghn.2.2.2 ghn.1 ghn.2.1 ghn.2.2.1).trans (DH.out gh))).set hkm ((min hv bb : Nat) : Int)).congr (fun i hi => ?_)
          by_cases e : i = k <;> simp [e]
         ·have := IS.out.2.2.1 x hx
          rw [(a3 x hx).1, (a3 x hx).2]; exact this
         ·rw [Below.heap_setCell _ _ _ _ h5, a6 r h1 h2 h3 h4, DH.out r]; exact IS.out.2.2.2.2.2.1 r h1 h2 h3 h4 h5
        case measure => simp [intOf]; omega
       ·go_simp
        refine LO.out.mono ?_
        rintro e5 x5 ⟨bb, wv5, W5, u5, l5, rfl, hcm5, hkn5, hst5, hres5, hz5, hfr5, hbl5⟩
        have c6 : x5.cell? ⟨gh, k, none⟩ = some (.int .i64 hv) := by rw [World.cell?_of_block (w := x0) (hfr5 gh ghn.2.2.2 ghn.1 ghn.2.1 ghn.2.2.1)]; exact c5
        have z6 : x5.frozen? ⟨gh, k, none⟩ = false := by rw [World.frozen?_of_block (w := x0) (hfr5 gh ghn.2.2.2 ghn.1 ghn.2.1 ghn.2.2.1), World.frozen?_of_block (w := wr) (DH.out gh)]; exact IS.out.1.fz k
        have q5 : Below w.heap.size w x5 := st0.trans (hbl5 w.heap.size (by omega) (by omega) (by omega) (by omega))
        have H5 := hid (And.intro hcm5 (And.intro hkn5 (And.intro hst5 (And.intro hres5 (And.intro hz5 hfr5)))))
        clear hcm5 hkn5 hst5 hres5 hz5 hfr5 hbl5
        refine hK.out _ _ q5 (fun _ => ?_)
        clear hK K
        replace hS := q5
        try simp only [Act.put, sP1, sP2, sP3]
        refine wpAnyH_ready (rs := [5]) (by kernel_rfl) (by simp) ?_
        refine AllReadyH.cons rfl (fun K hK => ?_) AllReadyH.nil
        go_simp
        refine hK.out _ _ q5 (fun _ => ?_)
        clear hK K
        replace hS := q5
        try simp only [Act.put, sP1, sP2, sP3]
        refine Flo.tk (i := 9) (d := some 60) (v := ?vd13x9) rfl (by rfl) ?yd13x9 hS ?_
        case yd13x9 => intro wx hSw; (go_simp) <;> with_reducible rfl
        simp only [Act.put, sP1, sP2, sP3]
        refine Flo.tk (i := 10) (d := some 61) (v := ?vd14x10) rfl (by rfl) ?yd14x10 hS ?_
        case yd14x10 => intro wx hSw; (go_simp) <;> with_reducible rfl
        simp only [Act.put, sP1, sP2, sP3]
        have hmin : (if bb < hv then (bb : Int) else (hv : Int)) = ((min hv bb : Nat) : Int) := by split <;> omega
        have s7 : Below w.heap.size w (x5.setCell ⟨gh, k, none⟩ (.int .i64 ((min hv bb : Nat) : Int))) := q5.setCell (by show _ ≤ gh; omega) _
        refine wpAnyH_ready (rs := [11]) (by kernel_rfl) (by simp) ?_
        refine AllReadyH.cons rfl (fun K hK => ?_) AllReadyH.nil
        go_simp
        refine hK.out _ _ s7 (fun _ => ?_)
        clear hK K
        replace hS := s7
        try simp only [Act.put, sP1, sP2, sP3]
        refine wpAnyH_done (by kernel_rfl) ?_ _
        refine NoPanic.normal ?_
        go_wp2_with fail
        go_round
        case rel =>
         obtain ⟨a1, a2, a3, a4, a5, a6⟩ := H5.out
         refine ⟨t + 1, min hv bb, u5, l5, wv5, W5, by go_num, by omega, ?_, a1.apart ghn.1 ghn.2.1 ghn.2.2.1 ghn.2.2.2 _, fun x hx => ?_, a2, least_next HGR.out HM.out hkm HS.out.2.2.1 IS.out.2.2.2.2.1 a2 hvl HV.out HBB.out HP.out.2 HP.out.1 a4, fun r h1 h2 h3 h4 h5 => ?_, s7⟩
         ·refine ((IS.out.1.at_block ((a6 gh ghn.2.2.2 ghn.1 ghn.2.1 ghn.2.2.1).trans (DH.out gh))).set hkm ((min hv bb : Nat) : Int)).congr (fun i hi => ?_)
          by_cases e : i = k <;> simp [e]
         ·have := IS.out.2.2.1 x hx
          rw [(a3 x hx).1, (a3 x hx).2]; exact this
         ·rw [Below.heap_setCell _ _ _ _ h5, a6 r h1 h2 h3 h4, DH.out r]; exact IS.out.2.2.2.2.2.1 r h1 h2 h3 h4 h5
        case measure => simp [intOf]; omega
      ·have e3 : plc L p = -1 := by unfold plc; rw [if_neg hpL]
       rw [e3] at p3
       have HPL := hid hpL
       clear hpL
       go_wp2_with fail
       go_round
       case rel =>
        refine ⟨t + 1, hv, u, l, wv, W, by go_num, by omega, IS.out.1, IS.out.2.1, IS.out.2.2.1, IS.out.2.2.2.1, least_mono IS.out.2.2.2.2.1 (fun y hy h => ?_), IS.out.2.2.2.2.2.1, IS.out.2.2.2.2.2.2⟩
        obtain ⟨i, hi, e⟩ := h
        by_cases ei : i = t
        ·subst ei
         rw [HP.out.1] at e
         exact absurd (by rw [e]; exact getD_in (by rw [HM.out]; exact hy)) HPL.out
        ·exact ⟨i, by omega, e⟩
       case measure => simp [intOf]; omega
     ·obtain rfl : t = (R b).n := by omega
      have c5 := hrh.cell k hkm
      rw [if_pos rfl] at c5
      have d1 := hcm.c1
      have p5 := hcm.le.cell k hkm
      have z5 := hcm.le.fz k
      have i5 := int_at (g := gh) (c := ch) hkm
      have i6 := int_at (g := gl) (c := cl) hkm
      have glb := hcm.low.2.2.1
      clear hrh hcm hst hkn hls hfr hb
      have HDK := hid (show Head m (ePl (su F) L) k hv from IS.out.2.2.2.2.1.head D (fun v hvm he => by
       have h1 : L.getD v 0 ∈ pvL F F.blk.n b := mem_pvL.2 ⟨hlt _ (getD_in he.1), by rw [← HBB.out]; exact he.2.2⟩
       obtain ⟨i, hi, e⟩ := mem_getD h1
       exact ⟨i, by rw [RI.out.2]; exact hi, e⟩) hk0 hkm HS.out.2.2.1)
      go_wp2_with fail
      go_region
      go_wp2_with fail
      have K1 := hid (show ((k : Int) - 1) = ((k - 1 : Nat) : Int) by omega)
      go_round
      case rel =>
       obtain ⟨a1, a2, a3, a4, a5, a6, a7⟩ := IS.out
       have cm := (a2.short hkm hv).on (Below.drew (same _))
       have hE : ∀ z, k < z → (fun x => if x = k then hv else Hh x) z = Hh z := fun z hz => by simp [show z ≠ k by omega]
       have FIN : ∃ (k' : Nat) (Hh' u' l' : Nat → Nat) (wv' : Value) (W' : List Nat), Value.int .i64 ((k : Int) - 1) = .int .i64 k' ∧ k' < m ∧ Ro ((wr.setCell ⟨gl, k, none⟩ (.int .i64 hv)).drew) gh m (fun x => (Hh' x : Int)) ∧ CM cb gu cu gl cl m B0 ((wr.setCell ⟨gl, k, none⟩ (.int .i64 hv)).drew) wv' W' u' l' ∧ (∀ x, k' < x → x < m → Head m (ePl (su F) L) x (Hh' x)) ∧ (∀ x, x ≤ k' → Hh' x = x ∧ l' x = x ∧ u' x = par x) ∧ Kn par Hh' m k' u' l' ∧ (∀ q, q < B0 → q ≠ cb → q ≠ gu → q ≠ gl → q ≠ gh → ((wr.setCell ⟨gl, k, none⟩ (.int .i64 hv)).drew).heap[q]? = WB.heap[q]?) ∧ Below w.heap.size w ((wr.setCell ⟨gl, k, none⟩ (.int .i64 hv)).drew) := by
        refine ⟨k - 1, fun x => if x = k then hv else Hh x, u, fun x => if x = k then hv else l x, wv, W, by rw [K1.out], by omega, ?_, cm, fun x h1 h2 => ?_, fun x hx => ?_, fun x h1 h2 => ?_, fun q h1 h2 h3 h4 h5 => ?_, Below.drew (a7.setCell (by show _ ≤ gl; omega) _)⟩
        ·refine ((a1.setOther (by show gh ≠ gl; exact ghn.2.2.1) (.int .i64 hv)).on (Below.drew (same _))).congr (fun i hi => ?_)
         by_cases e : i = k <;> simp [e]
        ·by_cases e : x = k
         ·subst e; simp only [if_true]; exact HDK.out
         ·simp only [if_neg e]; exact HS.out.2.2.1 x (by omega) h2
        ·have hx' : x ≠ k := by omega
         simp only [if_neg hx']
         exact ⟨(HS.out.2.2.2.1 x (by omega)).1, (a3 x (by omega)).1, (a3 x (by omega)).2⟩
        ·by_cases e : x = k
         ·subst e
          have := Climb.start (H := fun y => if y = x then hv else Hh y) D hk0 hkm (v := x - 1) (by omega)
          simp only [if_true] at this ⊢
          rw [(a3 x (Nat.le_refl _)).2]
          exact this
         ·simp only [if_neg e]
          exact ((a4 x (by omega) h2).congr hE).mono (by omega)
        ·show (wr.setCell _ _).heap[q]? = _
         rw [Below.heap_setCell _ _ _ _ h4]; exact a6 q h1 h2 h3 h4 h5
       first
        | exact FIN
        | ((repeat apply Exists.intro); exact ⟨FIN, rfl⟩)
      case measure => first | (simp [intOf]; done) | (simp [intOf]; omega)
   ·obtain rfl : k = 0 := by omega
    clear hrh hcm hhd hst hkn hfr hb rd
    go_wp2_with fail
    go_ret
    exact ⟨Hh, HS.out.2.2.1, (HS.out.2.2.2.1 0 (by omega)).1, gh, ch, rfl, HS.out.1, by omega, HS.out.2.2.2.2.2.2⟩

end Go.Proofs.YtolipafcoolpgaaGreat.Dm
