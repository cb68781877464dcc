/-
  Dmf, Dmi, Dmk, Wfs: laid together.
-/
import Derived.Test.YtolipafcoolpgaaGreatJ12
import Derived.Test.YtolipafcoolpgaaGreatDmg
import Derived.Test.YtolipafcoolpgaaGreatJ11
import Derived.Test.YtolipafcoolpgaaGreatDma
import Derived.Test.YtolipafcoolpgaaGreatJ0
import Derived.Test.YtolipafcoolpgaaGreatJ10
/-
  dom.nearest: of each place the nearest one over it.
-/
namespace Go.Proofs.YtolipafcoolpgaaGreat.Dm
open Go.RowKit View Rd Copy Num Ty Srt Flo Go.Proofs.YtolipafcoolpgaaGreat.Lt

set_option linter.unusedVariables false

def ovAt (O par : Nat → Nat) (k : Nat) : Nat → Int := fun p => if p = 0 then -1 else if p < k then (O p : Int) else (par p : Int)

set_option maxRecDepth 10000 in
set_option maxHeartbeats 4000000 in
theorem nearest_any {m : Nat} {e : Nat → Nat → Prop} {par H : Nat → Nat} (D : Dfs m e par) (hm : m ≤ 48) (hH : ∀ x, 0 < x → x < m → Head m e x (H x)) (hH0 : H 0 = 0) (g1 c1 g2 c2 g3 n c3 gh ch : Nat) (w : World) (r2 : Ro w g2 m (fun p => if p = 0 then -1 else (par p : Int))) (rh : Ro w gh m (fun p => (H p : Int))) (hc : m ≤ c2) :
  Calls Tryz.prog 167 #[.agg #[.slice (some ⟨g1, 0, none⟩) m c1, .slice (some ⟨g2, 0, none⟩) m c2, .slice (some ⟨g3, 0, none⟩) n c3], .slice (some ⟨gh, 0, none⟩) m ch] w fun e' w' => ∃ O : Nat → Nat, (∀ p, 0 < p → p < m → Near m e p (O p)) ∧ RowIs m (fun p => if p = 0 then -1 else (O p : Int)) w e' w' := by
 have mp := D.pos
 have R2 := hid r2
 have RH := hid rh
 clear r2 rh
 go_enter Tryz.func167, Tryz.ntmps167
 go_wp2_with fail
 refine (clone_any g2 m c2 _ _ (R2.out.on (new (same w) _)) mp (by omega) hc).mono ?_
 rintro e' w1 ⟨go, co, rfl, ro, hgo, hb1⟩
 have B1 := hid (View.more (new (same w) _) hb1)
 have RO := hid ro
 have RH1 := hid (RH.out.on B1.out)
 have hgo1 : w.heap.size < go := by simp at hgo; omega
 have hhl := RH.out.lt
 clear ro hb1 hgo
 go_wp2_with fail
 have ST := hid (show Ro w1 go m (ovAt (fun _ => 0) par 0) from RO.out.congr (fun i hi => by unfold ovAt; simp))
 go_loopw [13] (fun iv wr => ∃ (k : Nat) (O : Nat → Nat), iv = .int .i64 k ∧ k ≤ m ∧ (∀ p, 0 < p → p < k → Near m e p (O p)) ∧ Ro wr go m (ovAt O par k) ∧ Ro wr gh m (fun p => (H p : Int)) ∧ Below w.heap.size w wr) (fun iv _ => m - (intOf iv).toNat)
 case atStart => exact ⟨0, fun _ => 0, rfl, Nat.zero_le _, fun p h1 h2 => by omega, ST.out, RH1.out, B1.out⟩
 case round =>
  clear ST RO RH1 B1
  obtain ⟨k, O, rfl, hk, hn, hro, hrh, hb⟩ := hrel
  have HS := hid (And.intro hn (And.intro hro (And.intro hrh hb)))
  by_cases lk : k < m
  ·have i1 := int_at (g := gh) (c := ch) lk
   have p1 := hrh.cell k lk
   clear hn hro hrh hb
   go_wp2_with fail
   have CUR := hid (show ∃ cv : Int, ((k = 0 ∧ cv = -1) ∨ ∃ o : Nat, cv = o ∧ 0 < k ∧ Step m e par k o) ∧ Ro wr go m (fun p => if p = k then cv else ovAt O par k p) ∧ cv ≤ (m : Int) by
    by_cases h0 : k = 0
    ·exact ⟨-1, .inl ⟨h0, rfl⟩, HS.out.2.1.congr (fun i hi => by by_cases e : i = k <;> simp [ovAt, e, h0]), by omega⟩
    ·have st := Step.start D lk (by omega)
     exact ⟨(par k : Int), .inr ⟨par k, rfl, by omega, st⟩, HS.out.2.1.congr (fun i hi => by by_cases e : i = k <;> simp [ovAt, e, h0]), by have := st.lt; omega⟩)
   go_loopg [] (m) (fun gk wx => ∃ cv : Int, ((k = 0 ∧ cv = -1) ∨ ∃ o : Nat, cv = o ∧ 0 < k ∧ Step m e par k o) ∧ Ro wx go m (fun p => if p = k then cv else ovAt O par k p) ∧ Ro wx gh m (fun p => (H p : Int)) ∧ Below w.heap.size w wx ∧ cv ≤ (gk : Int))
   case atStart =>
    obtain ⟨cv, h1, h2, h3⟩ := CUR.out
    exact ⟨cv, h1, h2, HS.out.2.2.1, HS.out.2.2.2, h3⟩
   case round =>
    clear CUR p1
    obtain ⟨cv, hcv, hro, hrh, hb, hgk⟩ := hrel
    have HT := hid (And.intro hcv (And.intro hro (And.intro hrh hb)))
    have i2 := int_at (g := go) (c := co) lk
    have p2 := hro.cell k lk
    rw [if_pos rfl] at p2
    by_cases hgt : (H k : Int) < cv
    ·have t1 : decide ((H k : Int) < cv) = true := by simpa using hgt
     obtain ⟨o, rfl, hk0, hst⟩ : ∃ o : Nat, cv = o ∧ 0 < k ∧ Step m e par k o := by
      rcases hcv with ⟨_, rfl⟩ | h
      ·omega
      ·exact h
     have ho := hst.lt
     have i3 := int_at (g := go) (n := m) (c := co) (x := o) (by omega)
     have p3 := hro.cell o (by omega)
     have e3 : (if o = k then ((o : Nat) : Int) else ovAt O par k o) = (O o : Int) := by
      rw [if_neg (by omega)]
      unfold ovAt
      rw [if_neg (by omega), if_pos (by omega)]
     rw [e3] at p3
     have z1 := hro.fz k
     have HST := hid hst
     have NEA := hid (HS.out.1 o (by omega) ho)
     clear hcv hro hrh hb hst e3
     go_wp2_with fail
     have hoo := NEA.out.lt
     go_roundg (O o)
     case measure => omega
     case rel =>
      refine ⟨(O o : Int), .inr ⟨O o, rfl, hk0, HST.out.next D lk (hH k hk0 lk) (by omega) NEA.out⟩, (HT.out.2.1.set lk (O o : Int)).congr (fun i hi => ?_), HT.out.2.2.1.setOther (by show gh ≠ go; omega) _, HT.out.2.2.2.setCell (by show _ ≤ go; omega) _, Int.le_refl _⟩
      by_cases e : i = k <;> simp [e]
    ·have t1 : decide ((H k : Int) < cv) = false := by simpa using hgt
     clear hcv hro hrh hb
     go_wp2_with fail
     go_round
     case rel =>
      have FIN : ∃ O' : Nat → Nat, (∀ p, 0 < p → p < k + 1 → Near m e p (O' p)) ∧ Ro wr go m (ovAt O' par (k + 1)) := by
       rcases HT.out.1 with ⟨h0, hc⟩ | ⟨o, hc, hk0, hst⟩
       ·refine ⟨O, fun p h1 h2 => by omega, HT.out.2.1.congr (fun i hi => ?_)⟩
        by_cases e : i = k
        ·simp [ovAt, e, h0, hc]
        ·have h1 : ¬ i < 1 := by omega
         have h2 : i ≠ 0 := by omega
         simp [ovAt, h0, h1, h2]
       ·refine ⟨fun p => if p = k then o else O p, fun p h1 h2 => ?_, HT.out.2.1.congr (fun i hi => ?_)⟩
        ·by_cases e : p = k
         ·subst e; simp only [if_true]; exact hst.done D lk (hH p hk0 lk) (by omega)
         ·simp only [if_neg e]; exact HS.out.1 p h1 (by omega)
        ·by_cases e : i = k
         ·subst e
          simp [ovAt, hc, show i ≠ 0 by omega]
         ·have e2 : (i < k + 1) = (i < k) := by apply propext; omega
          simp [ovAt, e, e2]
      obtain ⟨O', f1, f2⟩ := FIN
      first
       | exact ⟨k + 1, O', by go_num, by omega, f1, f2, HT.out.2.2.1, HT.out.2.2.2⟩
       | ((repeat apply Exists.intro); exact ⟨⟨k + 1, O', by go_num, by omega, f1, f2, HT.out.2.2.1, HT.out.2.2.2⟩, rfl⟩)
     case measure => simp [intOf]; omega
  ·obtain rfl : k = m := by omega
   clear hn hro hrh hb
   go_wp2_with fail
   go_ret
   exact ⟨O, HS.out.1, go, co, rfl, HS.out.2.1.congr (fun i hi => by unfold ovAt; simp [hi]), by omega, HS.out.2.2.2⟩

def ovF (L : List Nat) (O : Nat → Nat) (k : Nat) (b : Nat) : Int := if b ∈ L ∧ 0 < L.idxOf b ∧ L.idxOf b < k then ((L.getD (O (L.idxOf b)) 0 : Nat) : Int) else -1

theorem ovF_zero (L : List Nat) (O : Nat → Nat) (i : Nat) : ovF L O 0 i = ovF L O (0 + 1) i := by
 unfold ovF
 rw [if_neg (by omega), if_neg (by omega)]

theorem idxOf_getD {L : List Nat} (hn : L.Nodup) {k : Nat} (hk : k < L.length) : L.idxOf (L.getD k 0) = k := by
 have hm : L.getD k 0 ∈ L := getD_in hk
 have h1 : L.idxOf (L.getD k 0) < L.length := List.idxOf_lt_length_of_mem hm
 have key : ∀ b ∈ L, L.getD (L.idxOf b) 0 = b := fun b hb => by
  have h2 : L.idxOf b < L.length := List.idxOf_lt_length_of_mem hb
  simp [List.getD, h2]
 exact getD_inj hn h1 hk (key _ hm)

theorem ovF_next {L : List Nat} {O : Nat → Nat} {k o a b : Nat} (hn : L.Nodup) (lk : k < L.length) (hk0 : k ≠ 0) (ho : O k = o) (hb : L.getD k 0 = b) (ha : L.getD o 0 = a) (i : Nat) : (if i = b then (a : Int) else ovF L O k i) = ovF L O (k + 1) i := by
 have hix := idxOf_getD hn lk
 rw [hb] at hix
 by_cases e : i = b
 ·subst e
  rw [if_pos rfl]
  unfold ovF
  rw [if_pos ⟨by rw [← hb]; exact getD_in lk, by omega, by omega⟩, hix, ho, ha]
 ·rw [if_neg e]
  unfold ovF
  have : (i ∈ L ∧ 0 < L.idxOf i ∧ L.idxOf i < k) ↔ (i ∈ L ∧ 0 < L.idxOf i ∧ L.idxOf i < k + 1) := by
   constructor
   ·rintro ⟨h1, h2, h3⟩; exact ⟨h1, h2, by omega⟩
   ·rintro ⟨h1, h2, h3⟩
    refine ⟨h1, h2, ?_⟩
    by_cases e2 : L.idxOf i = k
    ·exfalso
     apply e
     have h4 : L.idxOf i < L.length := List.idxOf_lt_length_of_mem h1
     have h5 : L.getD (L.idxOf i) 0 = i := by simp [List.getD, h4]
     rw [← h5, e2, hb]
    ·omega
  simp only [this]

theorem over_fin {F : FV} {L : List Nat} {par O : Nat → Nat} (h0 : 0 < F.blk.n) (hgr : Gro (su F) L par []) (hO : ∀ p, 0 < p → p < L.length → Near L.length (ePl (su F) L) p (O p)) : OverIs F (ovF L O L.length) := by
 refine ⟨fun b hb hb0 hw => ?_, fun b hb h => ?_⟩
 ·have hm := hgr.reach hw
  have h1 : L.idxOf b < L.length := List.idxOf_lt_length_of_mem hm
  have h2 : L.getD (L.idxOf b) 0 = b := by simp [List.getD, h1]
  have h3 : 0 < L.idxOf b := by
   rcases Nat.eq_zero_or_pos (L.idxOf b) with h | h
   ·rw [h, hgr.zero] at h2; exact absurd h2.symm hb0
   ·exact h
  have hn := hO _ h3 h1
  have ho := hn.lt
  refine ⟨L.getD (O (L.idxOf b)) 0, way_lt h0 (hgr.way _ (getD_in (by omega))), by unfold ovF; rw [if_pos ⟨hm, h3, h1⟩], ?_⟩
  have := nearB_of hgr h1 hn
  rw [h2] at this
  exact this
 ·unfold ovF
  rw [if_neg]
  rintro ⟨h1, h2, _⟩
  rcases h with rfl | h
  ·have := idxOf_getD hgr.nodup hgr.pos
   rw [hgr.zero] at this
   omega
  ·exact h (hgr.way b h1)

def OverGives (F : FV) (w : World) (e : Ending) (w' : World) : Prop := ∃ (g c : Nat) (ov : Nat → Int), e = .returned (.slice (some ⟨g, 0, none⟩) F.blk.n c) ∧ Ro w' g F.blk.n ov ∧ OverIs F ov ∧ (w.heap.size ≤ g ∧ F.blk.n ≤ c) ∧ Below w.heap.size w w'

set_option maxRecDepth 10000 in
set_option maxHeartbeats 4000000 in
theorem over_any (F : FV) (w : World) (hF : In w F) (hl : Light F) (hj : Jng F) (h0 : 0 < F.blk.n) : Calls Tryz.prog 132 #[F.val] w fun e w' => OverGives F w e w' := by
 have HF := hid hF
 have HL := hid hl
 have HJ := hid hj
 have gb := hl.blk
 clear hF hl hj
 go_enter Tryz.func132, Tryz.ntmps132
 go_wp2_with fail
 have hx0 : ((w.alloc (.cells (fcells F) 36)).alloc (.cells #[.int .i64 (-1)] 3)).cell? ⟨w.heap.size + 1, 0, none⟩ = some (.int .i64 (-1)) := by
  have := new_cell (w.alloc (.cells (fcells F) 36)) #[.int .i64 (-1)] 3 0 _ rfl
  simp only [World.size_alloc] at this
  exact this
 refine (repeat_any (-1) (w.heap.size + 1) F.blk.n gb _ hx0).mono ?_
 rintro e w1 ⟨go, rfl, hr1, hg1, hb1⟩
 simp only [World.size_alloc] at hg1
 have B1 := hid (View.more (new (new (same w) _) _) hb1)
 have FA1 := hid (show FuncAt w1 w.heap.size F from (((FuncAt.alloc w F).on (new (same _) _))).on hb1)
 have R1 := hid (show Ro w1 go F.blk.n (fun _ => -1) from (Ro.of_row hr1).congr (fun i hi => by simp [hi]))
 obtain ⟨c0, c1, c2, c3, c4⟩ := FA1.out
 clear hr1 hb1 hx0
 go_wp2_with fail
 refine (grow_any F _ (HF.out.on B1.out) HL.out HJ.out h0).mono ?_
 rintro e w2 ⟨L, par, g1, k1, g2, k2, g3, rfl, hgr, r1, r2, r3, q1, q2, q3, n1, n2, hb2⟩
 have B2 := hid (View.more B1.out hb2)
 have FA2 := hid (FA1.out.on hb2)
 have RO := hid (R1.out.on hb2)
 have GR := hid hgr
 have RR := hid (And.intro r1 (And.intro r2 r3))
 have mp := hgr.pos
 have hzz2 := hb2.size
 have HLT := hid (show ∀ x ∈ L, x < F.blk.n from fun x hx => way_lt h0 (hgr.way x hx))
 have hmn : L.length ≤ F.blk.n := length_le_of_lt _ _ hgr.nodup HLT.out
 clear hgr r1 r2 r3 c0 c1 c2 c3 c4
 go_wp2_with fail
 obtain ⟨W, hW⟩ : ∃ W, w2.alloc (.cells #[.slice (some ⟨g1, 0, none⟩) L.length k1, .slice (some ⟨g2, 0, none⟩) L.length k2, .slice (some ⟨g3, 0, none⟩) F.blk.n F.blk.n] 207) = W := ⟨_, rfl⟩
 obtain ⟨tb, htb⟩ : ∃ tb, w2.heap.size = tb := ⟨_, rfl⟩
 have LW := hid (show Below w2.heap.size w2 W by rw [← hW]; exact new (same _) _)
 have TW := hid (show ∀ i v, (#[.slice (some ⟨g1, 0, none⟩) L.length k1, .slice (some ⟨g2, 0, none⟩) L.length k2, .slice (some ⟨g3, 0, none⟩) F.blk.n F.blk.n] : Array Value)[i]? = some v → W.cell? ⟨tb, i, none⟩ = some v by rw [← hW, ← htb]; exact fun i v h => new_cell w2 _ _ i v h)
 simp only [hW, htb]
 clear hW
 have FW := hid (FA2.out.on LW.out)
 have k0 : ∀ wx, Below W.heap.size W wx → wx.cell? ⟨tb, 0, none⟩ = some (.slice (some ⟨g1, 0, none⟩) L.length k1) := fun wx h => cell_on h (TW.out 0 _ rfl)
 have k1' : ∀ wx, Below W.heap.size W wx → wx.cell? ⟨tb, 1, none⟩ = some (.slice (some ⟨g2, 0, none⟩) L.length k2) := fun wx h => cell_on h (TW.out 1 _ rfl)
 have k2' : ∀ wx, Below W.heap.size W wx → wx.cell? ⟨tb, 2, none⟩ = some (.slice (some ⟨g3, 0, none⟩) F.blk.n F.blk.n) := fun wx h => cell_on h (TW.out 2 _ rfl)
 have f0 : ∀ wx, Below W.heap.size W wx → wx.cell? ⟨w.heap.size, 0, none⟩ = some (.string F.name) := fun wx h => (FW.out.on h).c0
 have f1 : ∀ wx, Below W.heap.size W wx → wx.cell? ⟨w.heap.size, 1, none⟩ = some (.bool F.out) := fun wx h => (FW.out.on h).c1
 have f2 : ∀ wx, Below W.heap.size W wx → wx.cell? ⟨w.heap.size, 2, none⟩ = some (.slice F.par.a F.par.n F.par.c) := fun wx h => (FW.out.on h).c2
 have f3 : ∀ wx, Below W.heap.size W wx → wx.cell? ⟨w.heap.size, 3, none⟩ = some (.int .i64 F.res) := fun wx h => (FW.out.on h).c3
 have f4 : ∀ wx, Below W.heap.size W wx → wx.cell? ⟨w.heap.size, 4, none⟩ = some (.slice F.blk.a F.blk.n F.blk.c) := fun wx h => (FW.out.on h).c4
 have BW := hid (View.more B2.out LW.out)
 have RW := hid (show Ro W g1 L.length (fun i => ((L.getD i 0 : Nat) : Int)) ∧ Ro W g2 L.length (fun p => if p = 0 then -1 else (par p : Int)) ∧ Ro W g3 F.blk.n (plc L) from ⟨RR.out.1.on LW.out, RR.out.2.1.on LW.out, RR.out.2.2.on LW.out⟩)
 have ROW := hid (RO.out.on LW.out)
 have st0 : Below W.heap.size W W.drew := Below.drew (same _)
 go_region_held3 (fun wx => Below W.heap.size W wx) (first | exact st0 | exact st1 | exact st2 | exact st3)
  (first
   | (go_at_call 163; refine (prev_flow F _ (HF.out.on (View.more BW.out st0)) HL.out HJ.out).mono ?_; rintro e3 w3 ⟨M, R, rfl, hpv, hM, hb3⟩; have st1 : Below W.heap.size W w3 := View.more st0 hb3; have PV := hid hpv; clear hpv hM hb3)
   | (go_at_call 168; refine (findHeads_any F HL.out L par GR.out g1 k1 g2 k2 g3 M R _ (RW.out.1.on st1) (RW.out.2.1.on st1) (RW.out.2.2.on st1) n2 PV.out (by omega) HLT.out).mono ?_; rintro e4 w4 ⟨H, hH, hH0, gh, ch, rfl, rh, hgh, hb4⟩; have st2 : Below W.heap.size W w4 := View.more st1 hb4; have RH := hid (And.intro rh (And.intro hH hH0)); clear rh hgh hb4 hH hH0)
   | (go_at_call 167; refine (nearest_any GR.out.dfs (by omega) RH.out.2.1 RH.out.2.2 g1 k1 g2 k2 g3 F.blk.n F.blk.n gh ch _ (RW.out.2.1.on st2) RH.out.1 n2).mono ?_; rintro e5 w5 ⟨O, hO, gn, cn, rfl, rn, hgn, hb5⟩; have st3 : Below W.heap.size W w5 := View.more st2 hb5; have RN := hid (And.intro rn (And.intro hO hgn)); clear rn hgn hb5 hO))
 have T5 := hid (k0 _ st3)
 clear k0 k1' k2' f0 f1 f2 f3 f4
 go_wp2_with fail
 have gol : go < w1.heap.size := R1.out.lt
 have tbl : w1.heap.size ≤ tb := by rw [← htb]; exact hb2.size
 have gnl : W.heap.size ≤ gn := by have := RN.out.2.2; have := st2.size; omega
 have Wl : tb < W.heap.size := by rw [← htb]; have := World.block_lt_of_cell? _ _ (TW.out 0 _ rfl); rw [htb]; exact this
 have ST := hid (show Ro w5 go F.blk.n (ovF L O 0) from (ROW.out.on st3).congr (fun i hi => by simp [ovF]))
 go_loopw [21] (fun iv wr => ∃ k : Nat, k ≤ L.length ∧ iv = .int .i64 k ∧ Ro wr go F.blk.n (ovF L O k) ∧ Ro wr g1 L.length (fun i => ((L.getD i 0 : Nat) : Int)) ∧ Ro wr gn L.length (fun p => if p = 0 then -1 else (O p : Int)) ∧ wr.cell? ⟨tb, 0, none⟩ = some (.slice (some ⟨g1, 0, none⟩) L.length k1) ∧ Below w.heap.size w wr) (fun iv _ => L.length - (intOf iv).toNat)
 case atStart => exact ⟨0, Nat.zero_le _, rfl, ST.out, RW.out.1.on st3, RN.out.1, T5.out, View.more BW.out st3⟩
 case round =>
  clear ST T5
  obtain ⟨k, hk, rfl, hro, hr1, hrn, htc, hb⟩ := hrel
  have HS := hid (And.intro hro (And.intro hr1 (And.intro hrn (And.intro htc hb))))
  by_cases lk : k < L.length
  ·have i1 := int_at (g := gn) (c := cn) lk
   have p1 := hrn.cell k lk
   by_cases hk0 : k = 0
   ·rw [if_pos hk0] at p1
    have HK0 := hid hk0
    clear hro hr1 hrn hb hk0
    go_wp2_with fail
    go_round
    case rel => exact ⟨k + 1, by omega, by go_num, HS.out.1.congr (fun i hi => by rw [HK0.out]; exact ovF_zero L O i), HS.out.2.1, HS.out.2.2.1, HS.out.2.2.2.1, HS.out.2.2.2.2⟩
    case measure => simp [intOf]; omega
   ·rw [if_neg hk0] at p1
    have hO := (RN.out.2.1 k (by omega) lk).lt
    obtain ⟨o, ho⟩ : ∃ o, O k = o := ⟨_, rfl⟩
    rw [ho] at p1 hO
    have p2 := hr1.cell k lk
    have p3 := hr1.cell o (by omega)
    have i2 := int_at (g := g1) (c := k1) lk
    have i3 := int_at (g := g1) (n := L.length) (c := k1) (x := o) (by omega)
    obtain ⟨b, hb'⟩ : ∃ b, L.getD k 0 = b := ⟨_, rfl⟩
    obtain ⟨a, ha'⟩ : ∃ a, L.getD o 0 = a := ⟨_, rfl⟩
    rw [hb'] at p2
    rw [ha'] at p3
    have hbn : b < F.blk.n := HLT.out b (by rw [← hb']; exact getD_in lk)
    have i4 := int_at (g := go) (c := F.blk.n) hbn
    have p4 := hro.cell b hbn
    have z4 := hro.fz b
    have HQ := hid (And.intro ho (And.intro hb' ha'))
    clear hro hr1 hrn hb ho hb' ha'
    go_wp2_with fail
    go_region
    go_wp2_with fail
    go_round
    case rel =>
     refine ⟨k + 1, by omega, by go_num, ((HS.out.1.set hbn (a : Int)).on (Below.drew (same _))).congr (fun i hi => ?_), (HS.out.2.1.setOther (by show g1 ≠ go; omega) _).on (Below.drew (same _)), (HS.out.2.2.1.setOther (by show gn ≠ go; omega) _).on (Below.drew (same _)), cell_other (fun e => by have := congrArg Addr.block e; simp at this; omega) HS.out.2.2.2.1, Below.drew (HS.out.2.2.2.2.setCell (by show _ ≤ go; omega) _)⟩
     exact ovF_next GR.out.nodup lk hk0 HQ.out.1 HQ.out.2.1 HQ.out.2.2 i
    case measure => simp [intOf]; omega
  ·obtain rfl : k = L.length := by omega
   clear hro hr1 hrn hb
   go_wp2_with fail
   go_ret
   exact ⟨go, F.blk.n, ovF L O L.length, rfl, HS.out.1, over_fin h0 GR.out RN.out.2.1, by omega, HS.out.2.2.2.2⟩

theorem way_ltK {F : FV} (h0 : 0 < F.blk.n) {y : Nat} (h : Flo.Way (su F) 0 y) : y < F.blk.n := by
 cases h with
 | refl => exact h0
 | step _ hc => exact su_lt F _ _ hc

theorem gro_ex {F : FV} (hl : Light F) (h0 : 0 < F.blk.n) : ∃ L par, Gro (su F) L par [] := by
 have key : ∀ k (L : List Nat) (par : Nat → Nat) (U : List (Nat × Nat)), Gro (su F) L par U → (F.blk.n - L.length) * 21 + U.length ≤ k → ∃ L par, Gro (su F) L par [] := by
  intro k
  induction k with
  | zero =>
   intro L par U h hk
   have : U = [] := List.eq_nil_of_length_eq_zero (by omega)
   subst this
   exact ⟨L, par, h⟩
  | succ k ih =>
   intro L par U h hk
   rcases List.eq_nil_or_concat U with rfl | ⟨U', u, rfl⟩
   ·exact ⟨L, par, h⟩
   ·simp only [List.concat_eq_append] at h hk
    by_cases hu : u.2 ∈ L
    ·exact ih L par U' (h.skip hu) (by simp at hk; omega)
    ·have h2 := h.meet hu
     have hle := length_le_of_lt F.blk.n (L ++ [u.2]) h2.nodup (fun y hy => way_ltK h0 (h2.way y hy))
     have hs := su_le hl u.2
     refine ih _ _ _ h2 ?_
     simp at hk hle ⊢
     omega
 exact key _ _ _ _ (Gro.start (su F)) (Nat.le_refl _)

end Go.Proofs.YtolipafcoolpgaaGreat.Dm

/-
  wf: whether what is taken in a function is there; given: where values are given.
-/
namespace Go.Proofs.YtolipafcoolpgaaGreat.Wf
open Go.RowKit View Rd Num Opn Copy Srt Go.Proofs.YtolipafcoolpgaaGreat.Mod Chk Flo Dm

set_option linter.unusedVariables false

def GivenIs (F : FV) (w : World) (e : Ending) (w' : World) : Prop :=
 ∃ (O c : Nat) (bl pl : Nat → Int), e = .returned (.slice (some ⟨O, 0, none⟩) (allV F + 1) c) ∧ Gv F w' O bl pl ∧ allV F + 1 ≤ c ∧ w.heap.size ≤ O ∧ Below w.heap.size w w'

def GivenKept (F : FV) : Prop := ∀ w, In w F → Calls Tryz.prog 131 #[F.val] w fun e w' => GivenIs F w e w'

theorem Gv.at_block {F : FV} {w w' : World} {O : Nat} {bl pl : Nat → Int} (h : Gv F w O bl pl) (e : w'.heap[O]? = w.heap[O]?) : Gv F w' O bl pl :=
 ⟨fun v hv => by rw [World.cell?_of_block (w := w) e]; exact h.cb v hv, fun v hv => by rw [World.cell?_of_block (w := w) e]; exact h.cp v hv, h.par, h.val⟩

theorem Gv.lt {F : FV} {w : World} {O : Nat} {bl pl : Nat → Int} (h : Gv F w O bl pl) : O < w.heap.size := World.block_lt_of_cell? _ _ (h.cb 0 (Nat.zero_le _))

theorem zero2 (i : Nat) (hi : i < 2) : (#[.slice none 0 0, .slice none 0 0] : Array Value)[i]? = some (.slice none 0 0) := by
 have h2 : i = 0 ∨ i = 1 := by omega
 rcases h2 with rfl | rfl <;> rfl

def VBox (F : FV) (cb : Nat) (wx : World) : Prop := ∃ (O cO g c : Nat) (bl pl ov : Nat → Int), wx.cell? ⟨cb, 0, none⟩ = some (.slice (some ⟨O, 0, none⟩) (allV F + 1) cO) ∧ wx.cell? ⟨cb, 1, none⟩ = some (.slice (some ⟨g, 0, none⟩) F.blk.n c) ∧ Gv F wx O bl pl ∧ Ro wx g F.blk.n ov ∧ OverIs F ov ∧ allV F + 1 ≤ cO ∧ F.blk.n ≤ c

theorem vbox_of {F : FV} {X : World} {cb O cO g c : Nat} {bl pl ov : Nat → Int} (hg : Gv F X O bl pl) (hr : Ro X g F.blk.n ov) (ho : OverIs F ov) (hcO : allV F + 1 ≤ cO) (hc : F.blk.n ≤ c) (bc : ∀ i, i < 2 → X.cell? ⟨cb, i, none⟩ = some (.slice none 0 0)) (n1 : cb ≠ O) (n2 : cb ≠ g) :
  VBox F cb ((X.setCell ⟨cb, 0, none⟩ (.slice (some ⟨O, 0, none⟩) (allV F + 1) cO)).setCell ⟨cb, 1, none⟩ (.slice (some ⟨g, 0, none⟩) F.blk.n c)) := by
 have b2 : ∀ k, k ≠ cb → ((X.setCell ⟨cb, 0, none⟩ (.slice (some ⟨O, 0, none⟩) (allV F + 1) cO)).setCell ⟨cb, 1, none⟩ (.slice (some ⟨g, 0, none⟩) F.blk.n c)).heap[k]? = X.heap[k]? := fun k hk => by
  rw [Below.heap_setCell _ _ _ _ hk, Below.heap_setCell _ _ _ _ hk]
 exact ⟨O, cO, g, c, bl, pl, ov, cell_other (ne_off (by omega)) (cell_same (bc 0 (by omega))), cell_same (cell_other (ne_off (by omega)) (bc 1 (by omega))), hg.at_block (b2 _ (fun e => n1 e.symm)), hr.at_block (b2 _ (fun e => n2 e.symm)), ho, hcO, hc⟩

set_option maxRecDepth 10000 in
set_option maxHeartbeats 8000000 in
theorem funcUse_any (F : FV) (w : World) (hF : In w F) (hl : Light F) (hj : Jng F) (hf : FormF F) (hfl : FlowF F) (h0 : 0 < F.blk.n) (hgi : GivenKept F) : Calls Tryz.prog 81 #[F.val] w fun e w' => Ans (fun r => r = true ↔ ¬ UseF F) w e w' := by
 have gb := hl.blk
 obtain ⟨L, par, hgr⟩ := gro_ex hl h0
 obtain ⟨W, hW⟩ : ∃ W, w.alloc (.cells (fcells F) 36) = W := ⟨_, rfl⟩
 have FW := hid (show FuncAt W w.heap.size F by rw [← hW]; exact FuncAt.alloc w F)
 have HF := hid (show In W F by rw [← hW]; exact hF.on (new (same w) _))
 have LW := hid (show Below w.heap.size w W by rw [← hW]; exact new (same w) _)
 have HL := hid hl
 have HJ := hid hj
 have HFO := hid hf
 have HFL := hid hfl
 have HGI := hid hgi
 have HGR := hid hgr
 have HWW := hid hW
 have YES := hid (show ∀ wx, Below W.heap.size W wx → ¬ UseF F → Ans (fun r => r = true ↔ ¬ UseF F) w (.returned (.bool true)) wx from fun wx h hn => ⟨true, rfl, by simp [hn], View.more LW.out h⟩)
 obtain ⟨f0, f1, f2, f3, f4⟩ := FW.out
 clear hF hl hj hf hfl hgi hgr hW
 go_enter Tryz.func81, Tryz.ntmps81
 go_wp2_with fail
 simp only [HWW.out]
 clear HWW
 refine (numberFault_any F W HF.out HL.out).mono ?_
 rintro e w1 ⟨r, rfl, hr, hb⟩
 have B1 := hid hb
 have R := hid hr
 clear hr hb f0 f1 f2 f3 f4
 cases r with
 | true =>
  have HN := hid (show ¬ UseF F from fun h => R.out.1 rfl h.1)
  go_wp2_with fail
  go_ret
  exact YES.out _ B1.out HN.out
 | false =>
 have P1 := hid (show NumF F by
  by_cases q : NumF F
  ·exact q
  ·exact absurd (R.out.2 q) (by simp))
 clear R
 have fw := FW.out.on B1.out
 have A0 : ∀ wx, Below w1.heap.size w1 wx → wx.cell? ⟨w.heap.size, 0, none⟩ = some (.string F.name) := fun wx h => cell_on h fw.c0
 have A1 : ∀ wx, Below w1.heap.size w1 wx → wx.cell? ⟨w.heap.size, 1, none⟩ = some (.bool F.out) := fun wx h => cell_on h fw.c1
 have A2 : ∀ wx, Below w1.heap.size w1 wx → wx.cell? ⟨w.heap.size, 2, none⟩ = some (.slice F.par.a F.par.n F.par.c) := fun wx h => cell_on h fw.c2
 have A3 : ∀ wx, Below w1.heap.size w1 wx → wx.cell? ⟨w.heap.size, 3, none⟩ = some (.int .i64 F.res) := fun wx h => cell_on h fw.c3
 have A4 : ∀ wx, Below w1.heap.size w1 wx → wx.cell? ⟨w.heap.size, 4, none⟩ = some (.slice F.blk.a F.blk.n F.blk.c) := fun wx h => cell_on h fw.c4
 have st0 : Below w1.heap.size w1 w1.drew := Below.drew (same _)
 clear fw
 go_wp2_with fail
 go_cut [3] from 10 to 14 (fun c wx => ∃ cb, c = .pointer (some ⟨cb, 0, none⟩) ∧ VBox F cb wx ∧ Below w1.heap.size w1 wx)
 case first =>
  refine wp_region_noPanic ?_
  refine wp_region_held_drew (S := fun wy => Below w1.heap.size w1 wy) (by kernel_rfl) st0 (fun hS => ?_)
  refine Flo.tk (i := 0) (d := some 10) (v := ?vc0) rfl (by rfl) ?yc0 hS ?_
  case yc0 => intro wx hSw; (go_simp) <;> with_reducible rfl
  simp only [Act.put, sP1, sP2, sP3]
  refine Flo.tk (i := 2) (d := some 12) (v := ?vc2) rfl (by rfl) ?yc2 hS ?_
  case yc2 => intro wx hSw; (go_simp) <;> with_reducible rfl
  simp only [Act.put, sP1, sP2, sP3]
  obtain ⟨x0, hx0⟩ : ∃ x0, w1.drew = x0 := ⟨_, rfl⟩
  have q0 : Below w1.heap.size w1 x0 := by rw [← hx0]; exact st0
  have hq0 : w1.heap.size ≤ x0.heap.size := q0.size
  rw [hx0] at hS ⊢
  clear hx0 st0
  refine wpAnyH_ready (rs := [1, 5]) (by kernel_rfl) (by simp) ?_
  refine AllReadyH.cons rfl (fun K hK => ?_) (AllReadyH.cons rfl (fun K hK => ?_) AllReadyH.nil)
  ·go_simp
   refine (HGI.out _ (HF.out.on (View.more B1.out q0))).mono ?_
   rintro e2 x1 ⟨O, cO, bl, pl, rfl, gvv, hcO, hgO, hb1⟩
   have q1 : Below w1.heap.size w1 x1 := View.more q0 hb1
   have RU := hid gvv
   have rul := gvv.lt
   clear gvv
   go_wp2_with fail
   have hq1 := hb1.size
   refine hK.out _ _ q1 (fun _ => ?_)
   clear hK K
   replace hS := q1
   try simp only [Act.put, sP1, sP2, sP3]
   refine wpAnyH_ready (rs := [3, 5]) (by kernel_rfl) (by simp) ?_
   refine AllReadyH.cons rfl (fun K hK => ?_) (AllReadyH.cons rfl (fun K hK => ?_) AllReadyH.nil)
   ·go_simp
    refine (over_any F _ (HF.out.on (View.more B1.out q1)) HL.out HJ.out h0).mono ?_
    rintro e3 x2 ⟨g, c, ov, rfl, ro, oi, ⟨hgg, hgc⟩, hb2⟩
    have q2 : Below w1.heap.size w1 x2 := View.more q1 hb2
    have RL := hid ro
    have OI := hid oi
    have rll := ro.lt
    clear ro oi
    go_wp2_with fail
    have hq2 := hb2.size
    refine hK.out _ _ q2 (fun _ => ?_)
    clear hK K
    replace hS := q2
    try simp only [Act.put, sP1, sP2, sP3]
    refine Flo.tk (i := 4) (d := some 14) (v := ?vc1x4) rfl (by rfl) ?yc1x4 hS ?_
    case yc1x4 => intro wx hSw; (go_simp) <;> with_reducible rfl
    simp only [Act.put, sP1, sP2, sP3]
    refine wpAnyH_ready (rs := [5]) (by kernel_rfl) (by simp) ?_
    refine AllReadyH.cons rfl (fun K hK => ?_) AllReadyH.nil
    go_simp
    have hb3 : Below x2.heap.size x2 (x2.alloc (.cells #[.slice none 0 0, .slice none 0 0] 174)) := new (same _) _
    have BX := hid (show (∀ i, i < 2 → (x2.alloc (.cells #[.slice none 0 0, .slice none 0 0] 174)).cell? ⟨x2.heap.size, i, none⟩ = some (.slice none 0 0)) ∧ ∀ i, (x2.alloc (.cells #[.slice none 0 0, .slice none 0 0] 174)).frozen? ⟨x2.heap.size, i, none⟩ = false from ⟨fun i hi => new_cell x2 _ _ i _ (zero2 i hi), fun i => new_froz x2 _ _ i⟩)
    obtain ⟨x3, hx3⟩ : ∃ x, x2.alloc (.cells #[.slice none 0 0, .slice none 0 0] 174) = x := ⟨_, rfl⟩
    have cbz : x3.heap.size = x2.heap.size + 1 := by rw [← hx3]; simp
    obtain ⟨cb, hcb⟩ : ∃ cb, x2.heap.size = cb := ⟨_, rfl⟩
    rw [hx3] at hb3 BX ⊢
    rw [hcb] at BX cbz ⊢
    have q3 : Below w1.heap.size w1 x3 := View.more q2 (by rw [hcb] at hb3; rw [hcb]; exact hb3)
    clear hx3
    have hq3 := hb3.size
    refine hK.out _ _ q3 (fun _ => ?_)
    clear hK K
    replace hS := q3
    try simp only [Act.put, sP1, sP2, sP3]
    have fru := ((RU.out.on hb2).on hb3)
    have frl := (RL.out.on hb3)
    have fbc : ∀ i, i < 2 → x3.cell? ⟨cb, i, none⟩ = some (.slice none 0 0) := fun i hi => BX.out.1 i hi
    have fbz : ∀ i, x3.frozen? ⟨cb, i, none⟩ = false := fun i => by exact BX.out.2 i
    have f0 := fbc 0 (by omega)
    have f1 := fbc 1 (by omega)
    have z0 := fbz 0
    have z1 := fbz 1
    have s9 : Below w1.heap.size w1 ((x3.setCell ⟨cb, 0, none⟩ (.slice (some ⟨O, 0, none⟩) (allV F + 1) cO)).setCell ⟨cb, 1, none⟩ (.slice (some ⟨g, 0, none⟩) F.blk.n c)) := (q3.setCell (by show _ ≤ cb; omega) _).setCell (by show _ ≤ cb; omega) _
    have FIN := hid (vbox_of (cb := cb) fru frl OI.out hcO hgc fbc (by omega) (by omega))
    refine wpAnyH_ready (rs := [6]) (by kernel_rfl) (by simp) ?_
    refine AllReadyH.cons rfl (fun K hK => ?_) AllReadyH.nil
    go_simp
    refine hK.out _ _ s9 (fun _ => ?_)
    clear hK K
    replace hS := s9
    try simp only [Act.put, sP1, sP2, sP3]
    refine wpAnyH_done (by kernel_rfl) ?_ _
    refine NoPanic.normal ?_
    go_wp2_with fail
    go_meet
    case rel => exact ⟨cb, rfl, FIN.out, s9⟩
   ·go_simp
    have hb2 : Below x1.heap.size x1 (x1.alloc (.cells #[.slice none 0 0, .slice none 0 0] 174)) := new (same _) _
    have BX := hid (show (∀ i, i < 2 → (x1.alloc (.cells #[.slice none 0 0, .slice none 0 0] 174)).cell? ⟨x1.heap.size, i, none⟩ = some (.slice none 0 0)) ∧ ∀ i, (x1.alloc (.cells #[.slice none 0 0, .slice none 0 0] 174)).frozen? ⟨x1.heap.size, i, none⟩ = false from ⟨fun i hi => new_cell x1 _ _ i _ (zero2 i hi), fun i => new_froz x1 _ _ i⟩)
    obtain ⟨x2, hx2⟩ : ∃ x, x1.alloc (.cells #[.slice none 0 0, .slice none 0 0] 174) = x := ⟨_, rfl⟩
    have cbz : x2.heap.size = x1.heap.size + 1 := by rw [← hx2]; simp
    obtain ⟨cb, hcb⟩ : ∃ cb, x1.heap.size = cb := ⟨_, rfl⟩
    rw [hx2] at hb2 BX ⊢
    rw [hcb] at BX cbz ⊢
    have q2 : Below w1.heap.size w1 x2 := View.more q1 (by rw [hcb] at hb2; rw [hcb]; exact hb2)
    clear hx2
    have hq2 := hb2.size
    refine hK.out _ _ q2 (fun _ => ?_)
    clear hK K
    replace hS := q2
    try simp only [Act.put, sP1, sP2, sP3]
    refine wpAnyH_ready (rs := [3]) (by kernel_rfl) (by simp) ?_
    refine AllReadyH.cons rfl (fun K hK => ?_) AllReadyH.nil
    go_simp
    refine (over_any F _ (HF.out.on (View.more B1.out q2)) HL.out HJ.out h0).mono ?_
    rintro e3 x3 ⟨g, c, ov, rfl, ro, oi, ⟨hgg, hgc⟩, hb3⟩
    have q3 : Below w1.heap.size w1 x3 := View.more q2 hb3
    have RL := hid ro
    have OI := hid oi
    have rll := ro.lt
    clear ro oi
    go_wp2_with fail
    have hq3 := hb3.size
    refine hK.out _ _ q3 (fun _ => ?_)
    clear hK K
    replace hS := q3
    try simp only [Act.put, sP1, sP2, sP3]
    refine Flo.tk (i := 4) (d := some 14) (v := ?vc2x4) rfl (by rfl) ?yc2x4 hS ?_
    case yc2x4 => intro wx hSw; (go_simp) <;> with_reducible rfl
    simp only [Act.put, sP1, sP2, sP3]
    have fru := ((RU.out.on hb2).on hb3)
    have frl := RL.out
    have fbc : ∀ i, i < 2 → x3.cell? ⟨cb, i, none⟩ = some (.slice none 0 0) := fun i hi => (cell_on hb3 (BX.out.1 i hi))
    have fbz : ∀ i, x3.frozen? ⟨cb, i, none⟩ = false := fun i => by rw [hb3.frozen (show cb < _ by omega)]; exact BX.out.2 i
    have f0 := fbc 0 (by omega)
    have f1 := fbc 1 (by omega)
    have z0 := fbz 0
    have z1 := fbz 1
    have s9 : Below w1.heap.size w1 ((x3.setCell ⟨cb, 0, none⟩ (.slice (some ⟨O, 0, none⟩) (allV F + 1) cO)).setCell ⟨cb, 1, none⟩ (.slice (some ⟨g, 0, none⟩) F.blk.n c)) := (q3.setCell (by show _ ≤ cb; omega) _).setCell (by show _ ≤ cb; omega) _
    have FIN := hid (vbox_of (cb := cb) fru frl OI.out hcO hgc fbc (by omega) (by omega))
    refine wpAnyH_ready (rs := [6]) (by kernel_rfl) (by simp) ?_
    refine AllReadyH.cons rfl (fun K hK => ?_) AllReadyH.nil
    go_simp
    refine hK.out _ _ s9 (fun _ => ?_)
    clear hK K
    replace hS := s9
    try simp only [Act.put, sP1, sP2, sP3]
    refine wpAnyH_done (by kernel_rfl) ?_ _
    refine NoPanic.normal ?_
    go_wp2_with fail
    go_meet
    case rel => exact ⟨cb, rfl, FIN.out, s9⟩
  ·go_simp
   have hb1 : Below x0.heap.size x0 (x0.alloc (.cells #[.slice none 0 0, .slice none 0 0] 174)) := new (same _) _
   have BX := hid (show (∀ i, i < 2 → (x0.alloc (.cells #[.slice none 0 0, .slice none 0 0] 174)).cell? ⟨x0.heap.size, i, none⟩ = some (.slice none 0 0)) ∧ ∀ i, (x0.alloc (.cells #[.slice none 0 0, .slice none 0 0] 174)).frozen? ⟨x0.heap.size, i, none⟩ = false from ⟨fun i hi => new_cell x0 _ _ i _ (zero2 i hi), fun i => new_froz x0 _ _ i⟩)
   obtain ⟨x1, hx1⟩ : ∃ x, x0.alloc (.cells #[.slice none 0 0, .slice none 0 0] 174) = x := ⟨_, rfl⟩
   have cbz : x1.heap.size = x0.heap.size + 1 := by rw [← hx1]; simp
   obtain ⟨cb, hcb⟩ : ∃ cb, x0.heap.size = cb := ⟨_, rfl⟩
   rw [hx1] at hb1 BX ⊢
   rw [hcb] at BX cbz ⊢
   have q1 : Below w1.heap.size w1 x1 := View.more q0 (by rw [hcb] at hb1; rw [hcb]; exact hb1)
   clear hx1
   have hq1 := hb1.size
   refine hK.out _ _ q1 (fun _ => ?_)
   clear hK K
   replace hS := q1
   try simp only [Act.put, sP1, sP2, sP3]
   refine wpAnyH_ready (rs := [1]) (by kernel_rfl) (by simp) ?_
   refine AllReadyH.cons rfl (fun K hK => ?_) AllReadyH.nil
   go_simp
   refine (HGI.out _ (HF.out.on (View.more B1.out q1))).mono ?_
   rintro e2 x2 ⟨O, cO, bl, pl, rfl, gvv, hcO, hgO, hb2⟩
   have q2 : Below w1.heap.size w1 x2 := View.more q1 hb2
   have RU := hid gvv
   have rul := gvv.lt
   clear gvv
   go_wp2_with fail
   have hq2 := hb2.size
   refine hK.out _ _ q2 (fun _ => ?_)
   clear hK K
   replace hS := q2
   try simp only [Act.put, sP1, sP2, sP3]
   refine wpAnyH_ready (rs := [3]) (by kernel_rfl) (by simp) ?_
   refine AllReadyH.cons rfl (fun K hK => ?_) AllReadyH.nil
   go_simp
   refine (over_any F _ (HF.out.on (View.more B1.out q2)) HL.out HJ.out h0).mono ?_
   rintro e3 x3 ⟨g, c, ov, rfl, ro, oi, ⟨hgg, hgc⟩, hb3⟩
   have q3 : Below w1.heap.size w1 x3 := View.more q2 hb3
   have RL := hid ro
   have OI := hid oi
   have rll := ro.lt
   clear ro oi
   go_wp2_with fail
   have hq3 := hb3.size
   refine hK.out _ _ q3 (fun _ => ?_)
   clear hK K
   replace hS := q3
   try simp only [Act.put, sP1, sP2, sP3]
   refine Flo.tk (i := 4) (d := some 14) (v := ?vc3x4) rfl (by rfl) ?yc3x4 hS ?_
   case yc3x4 => intro wx hSw; (go_simp) <;> with_reducible rfl
   simp only [Act.put, sP1, sP2, sP3]
   have fru := (RU.out.on hb3)
   have frl := RL.out
   have fbc : ∀ i, i < 2 → x3.cell? ⟨cb, i, none⟩ = some (.slice none 0 0) := fun i hi => (cell_on hb3 ((cell_on hb2 (BX.out.1 i hi))))
   have fbz : ∀ i, x3.frozen? ⟨cb, i, none⟩ = false := fun i => by rw [hb3.frozen (show cb < _ by omega), hb2.frozen (show cb < _ by omega)]; exact BX.out.2 i
   have f0 := fbc 0 (by omega)
   have f1 := fbc 1 (by omega)
   have z0 := fbz 0
   have z1 := fbz 1
   have s9 : Below w1.heap.size w1 ((x3.setCell ⟨cb, 0, none⟩ (.slice (some ⟨O, 0, none⟩) (allV F + 1) cO)).setCell ⟨cb, 1, none⟩ (.slice (some ⟨g, 0, none⟩) F.blk.n c)) := (q3.setCell (by show _ ≤ cb; omega) _).setCell (by show _ ≤ cb; omega) _
   have FIN := hid (vbox_of (cb := cb) fru frl OI.out hcO hgc fbc (by omega) (by omega))
   refine wpAnyH_ready (rs := [6]) (by kernel_rfl) (by simp) ?_
   refine AllReadyH.cons rfl (fun K hK => ?_) AllReadyH.nil
   go_simp
   refine hK.out _ _ s9 (fun _ => ?_)
   clear hK K
   replace hS := s9
   try simp only [Act.put, sP1, sP2, sP3]
   refine wpAnyH_done (by kernel_rfl) ?_ _
   refine NoPanic.normal ?_
   go_wp2_with fail
   go_meet
   case rel => exact ⟨cb, rfl, FIN.out, s9⟩
 case rest =>
  obtain ⟨cb, rfl, hvb, hbl⟩ := hcut
  have BLC := hid (View.more B1.out hbl)
  have VB := hid hvb
  obtain ⟨W4, hW4⟩ : ∃ W4, W4 = wc := ⟨_, rfl⟩
  subst hW4
  obtain ⟨O, cO, g, c, bl, pl, ov, v0, v1, vg, vr, vo, vcO, vc⟩ := hvb
  obtain ⟨n, hn⟩ : ∃ n, allV F + 1 = n := ⟨_, rfl⟩
  rw [hn] at v0 vcO
  have VV := hid (And.intro v0 (And.intro v1 (And.intro vg (And.intro vr vo))))
  have HN := hid hn
  have f4 := (FW.out.on BLC.out).c4
  clear hbl v0 v1 vg vr vo A0 A1 A2 A3 A4 hn VB
  go_wp2_with fail
  clear f4
  go_loopw [18] (fun iv wr => ∃ b : Nat, b ≤ F.blk.n ∧ iv = .int .i64 b ∧ (∀ t, t < b → ∀ k, k < (F.B t).n → ArgsOk F t k (F.I t k)) ∧ Below W4.heap.size W4 wr) (fun iv _ => F.blk.n - (intOf iv).toNat)
  case atStart => exact ⟨0, Nat.zero_le _, rfl, fun t ht => by omega, same _⟩
  case round =>
   obtain ⟨b, hb0, rfl, hall, hb⟩ := hrel
   have HA := hid (And.intro hall hb)
   by_cases lb : b < F.blk.n
   ·obtain ⟨rb, ro, hrx, hrc0⟩ := HF.out.blk.at lb
    have hrc := cell_on (View.more BLC.out hb) hrc0
    have gi := HL.out.ins b lb
    have L0 := hid (show Below W4.heap.size W4 (wr.alloc (.cells #[.slice (F.B b).a (F.B b).n (F.B b).c] 40)) from new HA.out.2 _)
    clear hall hb hrc0
    go_wp2_with fail
    clear hrc
    go_loopw [26] (fun iv wx => ∃ k : Nat, k ≤ (F.B b).n ∧ iv = .int .i64 k ∧ (∀ t, t < k → ArgsOk F b t (F.I b t)) ∧ Below W4.heap.size W4 wx) (fun iv _ => (F.B b).n - (intOf iv).toNat)
    case atStart => exact ⟨0, Nat.zero_le _, rfl, fun t ht => by omega, L0.out⟩
    case round =>
     obtain ⟨k, hk0, rfl, hall, hb⟩ := hrel
     have HK := hid (And.intro hall hb)
     by_cases lk : k < (F.B b).n
     ·obtain ⟨ib, io, hiy, c0, c1, c2, c3, c4, c5, c6⟩ := ((HF.out.ins b lb).on (View.more BLC.out hb)).at lk
      have v0 := cell_on hb VV.out.1
      have v1 := cell_on hb VV.out.2.1
      have vz := World.block_lt_of_cell? _ _ v0
      clear hall hb
      go_wp2_with fail
      refine (argFault_any F b k L par O n cO g c bl pl ov _ (HF.out.on (View.more BLC.out (View.more HK.out.2 (new (same wr) _)))) HL.out HFO.out HFL.out lb lk (VV.out.2.2.1.on (View.more HK.out.2 (new (same wr) _))) HN.out.symm HGR.out (VV.out.2.2.2.1.on (View.more HK.out.2 (new (same wr) _))) VV.out.2.2.2.2 vc vcO).mono ?_
      rintro e w5 ⟨r, rfl, hr, hb⟩
      have B5 := hid (View.more (View.more HK.out.2 (new (same wr) _)) hb)
      have R := hid hr
      clear hr hb v0 v1 vz c0 c1 c2 c3 c4 c5 c6
      cases r with
      | true =>
       have HNO := hid (show ¬ UseF F from fun h => R.out.1 rfl (h.2 b lb k lk))
       go_wp2_with fail
       go_ret
       exact YES.out _ (View.more BLC.out B5.out) HNO.out
      | false =>
       have HP := hid (show ArgsOk F b k (F.I b k) by
        by_cases q : ArgsOk F b k (F.I b k)
        ·exact q
        ·exact absurd (R.out.2 q) (by simp))
       clear R
       go_wp2_with fail
       go_round
       case rel => exact ⟨k + 1, by omega, by go_num, upto1 HK.out.1 HP.out, B5.out⟩
       case measure => simp [intOf]; omega
     ·obtain rfl : k = (F.B b).n := by omega
      clear hall hb
      go_wp2_with fail
      go_round
      case rel =>
       have f := upto1 (p := fun t => ∀ k, k < (F.B t).n → ArgsOk F t k (F.I t k)) HA.out.1 HK.out.1
       first
        | exact ⟨b + 1, by omega, by go_num, f, HK.out.2⟩
        | ((repeat apply Exists.intro); exact ⟨⟨b + 1, by omega, by go_num, f, HK.out.2⟩, rfl⟩)
      case measure => simp [intOf]; omega
   ·obtain rfl : b = F.blk.n := by omega
    clear hall hb
    go_wp2_with fail
    go_ret
    exact ⟨false, rfl, ⟨fun h => absurd h (by simp), fun h => absurd ⟨P1.out, HA.out.1⟩ h⟩, View.more LW.out (View.more BLC.out HA.out.2)⟩

end Go.Proofs.YtolipafcoolpgaaGreat.Wf
