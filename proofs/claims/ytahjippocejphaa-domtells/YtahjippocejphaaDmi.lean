/-
  dom.Over: of each block the nearest one over it.
-/
import Derived.Test.YtahjippocejphaaDmg
import Derived.Test.YtahjippocejphaaDmf
namespace Go.Proofs.Ytahjippocejphaa.Dm
open Go.RowKit View Rd Copy Num Ty Srt Go.Proofs.Ytahjippocejphaa.Flo Go.Proofs.Ytahjippocejphaa.Lt

set_option linter.unusedVariables false

/-- Over of each block, told up to place k. -/
def ovF (L : List Nat) (O : Nat → Nat) (k : Nat) (b : Nat) : Int := if b ∈ L ∧ 0 < L.idxOf b ∧ L.idxOf b < k then ((L.getD (O (L.idxOf b)) 0 : Nat) : Int) else -1

theorem ovF_zero (L : List Nat) (O : Nat → Nat) (i : Nat) : ovF L O 0 i = ovF L O (0 + 1) i := by
  unfold ovF
  rw [if_neg (by omega), if_neg (by omega)]

theorem idxOf_getD {L : List Nat} (hn : L.Nodup) {k : Nat} (hk : k < L.length) : L.idxOf (L.getD k 0) = k := by
  have hm : L.getD k 0 ∈ L := getD_in hk
  have h1 : L.idxOf (L.getD k 0) < L.length := List.idxOf_lt_length_of_mem hm
  have key : ∀ b ∈ L, L.getD (L.idxOf b) 0 = b := fun b hb => by
    have h2 : L.idxOf b < L.length := List.idxOf_lt_length_of_mem hb
    simp [List.getD, h2]
  exact getD_inj hn h1 hk (key _ hm)

theorem ovF_next {L : List Nat} {O : Nat → Nat} {k o a b : Nat} (hn : L.Nodup) (lk : k < L.length) (hk0 : k ≠ 0) (ho : O k = o) (hb : L.getD k 0 = b) (ha : L.getD o 0 = a) (i : Nat) : (if i = b then (a : Int) else ovF L O k i) = ovF L O (k + 1) i := by
  have hix := idxOf_getD hn lk
  rw [hb] at hix
  by_cases e : i = b
  · subst e
    rw [if_pos rfl]
    unfold ovF
    rw [if_pos ⟨by rw [← hb]; exact getD_in lk, by omega, by omega⟩, hix, ho, ha]
  · rw [if_neg e]
    unfold ovF
    have : (i ∈ L ∧ 0 < L.idxOf i ∧ L.idxOf i < k) ↔ (i ∈ L ∧ 0 < L.idxOf i ∧ L.idxOf i < k + 1) := by
      constructor
      · rintro ⟨h1, h2, h3⟩; exact ⟨h1, h2, by omega⟩
      · rintro ⟨h1, h2, h3⟩
        refine ⟨h1, h2, ?_⟩
        by_cases e2 : L.idxOf i = k
        · exfalso
          apply e
          have h4 : L.idxOf i < L.length := List.idxOf_lt_length_of_mem h1
          have h5 : L.getD (L.idxOf i) 0 = i := by simp [List.getD, h4]
          rw [← h5, e2, hb]
        · omega
    simp only [this]

theorem over_fin {F : FV} {L : List Nat} {par O : Nat → Nat} (h0 : 0 < F.blk.n) (hgr : Gro (su F) L par []) (hO : ∀ p, 0 < p → p < L.length → Near L.length (ePl (su F) L) p (O p)) : OverIs F (ovF L O L.length) := by
  refine ⟨fun b hb hb0 hw => ?_, fun b hb h => ?_⟩
  · have hm := hgr.reach hw
    have h1 : L.idxOf b < L.length := List.idxOf_lt_length_of_mem hm
    have h2 : L.getD (L.idxOf b) 0 = b := by simp [List.getD, h1]
    have h3 : 0 < L.idxOf b := by
      rcases Nat.eq_zero_or_pos (L.idxOf b) with h | h
      · rw [h, hgr.zero] at h2; exact absurd h2.symm hb0
      · exact h
    have hn := hO _ h3 h1
    have ho := hn.lt
    refine ⟨L.getD (O (L.idxOf b)) 0, way_lt h0 (hgr.way _ (getD_in (by omega))), by unfold ovF; rw [if_pos ⟨hm, h3, h1⟩], ?_⟩
    have := nearB_of hgr h1 hn
    rw [h2] at this
    exact this
  · unfold ovF
    rw [if_neg]
    rintro ⟨h1, h2, _⟩
    rcases h with rfl | h
    · have := idxOf_getD hgr.nodup hgr.pos
      rw [hgr.zero] at this
      omega
    · exact h (hgr.way b h1)

/-- What Over hands back. -/
def OverGives (F : FV) (w : World) (e : Ending) (w' : World) : Prop := ∃ (g c : Nat) (ov : Nat → Int), e = .returned (.slice (some ⟨g, 0, none⟩) F.blk.n c) ∧ Ro w' g F.blk.n ov ∧ OverIs F ov ∧ (w.heap.size ≤ g ∧ F.blk.n ≤ c) ∧ Below w.heap.size w w'

set_option maxRecDepth 10000 in
set_option maxHeartbeats 4000000 in
theorem over_any (F : FV) (w : World) (hF : In w F) (hl : Light F) (hj : Jng F) (h0 : 0 < F.blk.n) : Calls Try.prog 28 #[F.val] w fun e w' => OverGives F w e w' := by
  have HF := hid hF
  have HL := hid hl
  have HJ := hid hj
  have gb := hl.blk
  clear hF hl hj
  go_enter Try.func28, Try.ntmps28
  go_wp2_with fail
  have hx0 : ((w.alloc (.cells (fcells F) 33)).alloc (.cells #[.int .i64 (-1)] 3)).cell? ⟨w.heap.size + 1, 0, none⟩ = some (.int .i64 (-1)) := by
    have := new_cell (w.alloc (.cells (fcells F) 33)) #[.int .i64 (-1)] 3 0 _ rfl
    simp only [World.size_alloc] at this
    exact this
  refine (repeat_any (w.heap.size + 1) F.blk.n gb _ hx0).mono ?_
  rintro e w1 ⟨go, rfl, hr1, hg1, hb1⟩
  simp only [World.size_alloc] at hg1
  have B1 := hid (View.more (new (new (same w) _) _) hb1)
  have FA1 := hid (show FuncAt w1 w.heap.size F from (((FuncAt.alloc w F).on (new (same _) _))).on hb1)
  have R1 := hid (show Ro w1 go F.blk.n (fun _ => -1) from (Ro.of_row hr1).congr (fun i hi => by simp [hi]))
  obtain ⟨c0, c1, c2, c3, c4⟩ := FA1.out
  clear hr1 hb1 hx0
  go_wp2_with fail
  refine (grow_any F _ (HF.out.on B1.out) HL.out HJ.out h0).mono ?_
  rintro e w2 ⟨L, par, g1, k1, g2, k2, g3, rfl, hgr, r1, r2, r3, q1, q2, q3, n1, n2, hb2⟩
  have B2 := hid (View.more B1.out hb2)
  have FA2 := hid (FA1.out.on hb2)
  have RO := hid (R1.out.on hb2)
  have GR := hid hgr
  have RR := hid (And.intro r1 (And.intro r2 r3))
  have mp := hgr.pos
  have hzz2 := hb2.size
  have HLT := hid (show ∀ x ∈ L, x < F.blk.n from fun x hx => way_lt h0 (hgr.way x hx))
  have hmn : L.length ≤ F.blk.n := length_le_of_lt _ _ hgr.nodup HLT.out
  clear hgr r1 r2 r3 c0 c1 c2 c3 c4
  go_wp2_with fail
  obtain ⟨W, hW⟩ : ∃ W, w2.alloc (.cells #[.slice (some ⟨g1, 0, none⟩) L.length k1, .slice (some ⟨g2, 0, none⟩) L.length k2, .slice (some ⟨g3, 0, none⟩) F.blk.n F.blk.n] 85) = W := ⟨_, rfl⟩
  obtain ⟨tb, htb⟩ : ∃ tb, w2.heap.size = tb := ⟨_, rfl⟩
  have LW := hid (show Below w2.heap.size w2 W by rw [← hW]; exact new (same _) _)
  have TW := hid (show ∀ i v, (#[.slice (some ⟨g1, 0, none⟩) L.length k1, .slice (some ⟨g2, 0, none⟩) L.length k2, .slice (some ⟨g3, 0, none⟩) F.blk.n F.blk.n] : Array Value)[i]? = some v → W.cell? ⟨tb, i, none⟩ = some v by rw [← hW, ← htb]; exact fun i v h => new_cell w2 _ _ i v h)
  simp only [hW, htb]
  clear hW
  have FW := hid (FA2.out.on LW.out)
  have k0 : ∀ wx, Below W.heap.size W wx → wx.cell? ⟨tb, 0, none⟩ = some (.slice (some ⟨g1, 0, none⟩) L.length k1) := fun wx h => cell_on h (TW.out 0 _ rfl)
  have k1' : ∀ wx, Below W.heap.size W wx → wx.cell? ⟨tb, 1, none⟩ = some (.slice (some ⟨g2, 0, none⟩) L.length k2) := fun wx h => cell_on h (TW.out 1 _ rfl)
  have k2' : ∀ wx, Below W.heap.size W wx → wx.cell? ⟨tb, 2, none⟩ = some (.slice (some ⟨g3, 0, none⟩) F.blk.n F.blk.n) := fun wx h => cell_on h (TW.out 2 _ rfl)
  have f0 : ∀ wx, Below W.heap.size W wx → wx.cell? ⟨w.heap.size, 0, none⟩ = some (.string F.name) := fun wx h => (FW.out.on h).c0
  have f1 : ∀ wx, Below W.heap.size W wx → wx.cell? ⟨w.heap.size, 1, none⟩ = some (.bool F.out) := fun wx h => (FW.out.on h).c1
  have f2 : ∀ wx, Below W.heap.size W wx → wx.cell? ⟨w.heap.size, 2, none⟩ = some (.slice F.par.a F.par.n F.par.c) := fun wx h => (FW.out.on h).c2
  have f3 : ∀ wx, Below W.heap.size W wx → wx.cell? ⟨w.heap.size, 3, none⟩ = some (.int .i64 F.res) := fun wx h => (FW.out.on h).c3
  have f4 : ∀ wx, Below W.heap.size W wx → wx.cell? ⟨w.heap.size, 4, none⟩ = some (.slice F.blk.a F.blk.n F.blk.c) := fun wx h => (FW.out.on h).c4
  have BW := hid (View.more B2.out LW.out)
  have RW := hid (show Ro W g1 L.length (fun i => ((L.getD i 0 : Nat) : Int)) ∧ Ro W g2 L.length (fun p => if p = 0 then -1 else (par p : Int)) ∧ Ro W g3 F.blk.n (plc L) from ⟨RR.out.1.on LW.out, RR.out.2.1.on LW.out, RR.out.2.2.on LW.out⟩)
  have ROW := hid (RO.out.on LW.out)
  have st0 : Below W.heap.size W W.drew := Below.drew (same _)
  go_region_held3 (fun wx => Below W.heap.size W wx) (first | exact st0 | exact st1 | exact st2 | exact st3)
    (first
      | (go_at_call 57; refine (prev_flow F _ (HF.out.on (View.more BW.out st0)) HL.out HJ.out).mono ?_; rintro e3 w3 ⟨M, R, rfl, hpv, hM, hb3⟩; have st1 : Below W.heap.size W w3 := View.more st0 hb3; have PV := hid hpv; clear hpv hM hb3)
      | (go_at_call 74; refine (findHeads_any F HL.out L par GR.out g1 k1 g2 k2 g3 M R _ (RW.out.1.on st1) (RW.out.2.1.on st1) (RW.out.2.2.on st1) n2 PV.out (by omega) HLT.out).mono ?_; rintro e4 w4 ⟨H, hH, hH0, gh, ch, rfl, rh, hgh, hb4⟩; have st2 : Below W.heap.size W w4 := View.more st1 hb4; have RH := hid (And.intro rh (And.intro hH hH0)); clear rh hgh hb4 hH hH0)
      | (go_at_call 73; refine (nearest_any GR.out.dfs (by omega) RH.out.2.1 RH.out.2.2 g1 k1 g2 k2 g3 F.blk.n F.blk.n gh ch _ (RW.out.2.1.on st2) RH.out.1 n2).mono ?_; rintro e5 w5 ⟨O, hO, gn, cn, rfl, rn, hgn, hb5⟩; have st3 : Below W.heap.size W w5 := View.more st2 hb5; have RN := hid (And.intro rn (And.intro hO hgn)); clear rn hgn hb5 hO))
  have T5 := hid (k0 _ st3)
  clear k0 k1' k2' f0 f1 f2 f3 f4
  go_wp2_with fail
  have gol : go < w1.heap.size := R1.out.lt
  have tbl : w1.heap.size ≤ tb := by rw [← htb]; exact hb2.size
  have gnl : W.heap.size ≤ gn := by have := RN.out.2.2; have := st2.size; omega
  have Wl : tb < W.heap.size := by rw [← htb]; have := World.block_lt_of_cell? _ _ (TW.out 0 _ rfl); rw [htb]; exact this
  have ST := hid (show Ro w5 go F.blk.n (ovF L O 0) from (ROW.out.on st3).congr (fun i hi => by simp [ovF]))
  go_loopw [21] (fun iv wr => ∃ k : Nat, k ≤ L.length ∧ iv = .int .i64 k ∧ Ro wr go F.blk.n (ovF L O k) ∧ Ro wr g1 L.length (fun i => ((L.getD i 0 : Nat) : Int)) ∧ Ro wr gn L.length (fun p => if p = 0 then -1 else (O p : Int)) ∧ wr.cell? ⟨tb, 0, none⟩ = some (.slice (some ⟨g1, 0, none⟩) L.length k1) ∧ Below w.heap.size w wr) (fun iv _ => L.length - (intOf iv).toNat)
  case atStart => exact ⟨0, Nat.zero_le _, rfl, ST.out, RW.out.1.on st3, RN.out.1, T5.out, View.more BW.out st3⟩
  case round =>
    clear ST T5
    obtain ⟨k, hk, rfl, hro, hr1, hrn, htc, hb⟩ := hrel
    have HS := hid (And.intro hro (And.intro hr1 (And.intro hrn (And.intro htc hb))))
    by_cases lk : k < L.length
    · have i1 := int_at (g := gn) (c := cn) lk
      have p1 := hrn.cell k lk
      by_cases hk0 : k = 0
      · rw [if_pos hk0] at p1
        have HK0 := hid hk0
        clear hro hr1 hrn hb hk0
        go_wp2_with fail
        go_round
        case rel => exact ⟨k + 1, by omega, by go_num, HS.out.1.congr (fun i hi => by rw [HK0.out]; exact ovF_zero L O i), HS.out.2.1, HS.out.2.2.1, HS.out.2.2.2.1, HS.out.2.2.2.2⟩
        case measure => simp [intOf]; omega
      · rw [if_neg hk0] at p1
        have hO := (RN.out.2.1 k (by omega) lk).lt
        obtain ⟨o, ho⟩ : ∃ o, O k = o := ⟨_, rfl⟩
        rw [ho] at p1 hO
        have p2 := hr1.cell k lk
        have p3 := hr1.cell o (by omega)
        have i2 := int_at (g := g1) (c := k1) lk
        have i3 := int_at (g := g1) (n := L.length) (c := k1) (x := o) (by omega)
        obtain ⟨b, hb'⟩ : ∃ b, L.getD k 0 = b := ⟨_, rfl⟩
        obtain ⟨a, ha'⟩ : ∃ a, L.getD o 0 = a := ⟨_, rfl⟩
        rw [hb'] at p2
        rw [ha'] at p3
        have hbn : b < F.blk.n := HLT.out b (by rw [← hb']; exact getD_in lk)
        have i4 := int_at (g := go) (c := F.blk.n) hbn
        have p4 := hro.cell b hbn
        have z4 := hro.fz b
        have HQ := hid (And.intro ho (And.intro hb' ha'))
        clear hro hr1 hrn hb ho hb' ha'
        go_wp2_with fail
        go_region
        go_wp2_with fail
        go_round
        case rel =>
          refine ⟨k + 1, by omega, by go_num, ((HS.out.1.set hbn (a : Int)).on (Below.drew (same _))).congr (fun i hi => ?_), (HS.out.2.1.setOther (by show g1 ≠ go; omega) _).on (Below.drew (same _)), (HS.out.2.2.1.setOther (by show gn ≠ go; omega) _).on (Below.drew (same _)), cell_other (fun e => by have := congrArg Addr.block e; simp at this; omega) HS.out.2.2.2.1, Below.drew (HS.out.2.2.2.2.setCell (by show _ ≤ go; omega) _)⟩
          exact ovF_next GR.out.nodup lk hk0 HQ.out.1 HQ.out.2.1 HQ.out.2.2 i
        case measure => simp [intOf]; omega
    · obtain rfl : k = L.length := by omega
      clear hro hr1 hrn hb
      go_wp2_with fail
      go_ret
      exact ⟨go, F.blk.n, ovF L O L.length, rfl, HS.out.1, over_fin h0 GR.out RN.out.2.1, by omega, HS.out.2.2.2.2⟩

end Go.Proofs.Ytahjippocejphaa.Dm
