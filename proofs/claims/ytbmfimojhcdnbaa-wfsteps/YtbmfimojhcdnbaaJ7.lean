/-
  Dmf, Dmi, Dmk, Wfs, Wft, Wfu, Wfv, Wfw, Wfx, ChkTi: laid together.
-/
import Derived.Test.YtbmfimojhcdnbaaJ6
import Derived.Test.YtbmfimojhcdnbaaDma
import Derived.Test.YtbmfimojhcdnbaaLight
import Derived.Test.YtbmfimojhcdnbaaFloF
import Derived.Laws.CopyRow
import Derived.Test.YtbmfimojhcdnbaaJ2
import Derived.Test.YtbmfimojhcdnbaaChkT
/-
  dom.nearest: of each place the nearest one over it.
-/
namespace Go.Proofs.Ytbmfimojhcdnbaa.Dm
open Go.RowKit View Rd Copy Num Ty Srt Go.Proofs.Ytbmfimojhcdnbaa.Flo Go.Proofs.Ytbmfimojhcdnbaa.Lt

set_option linter.unusedVariables false

/-- What nearest leaves: in front of k all are told, the others are parents still. -/
def ovAt (O par : Nat → Nat) (k : Nat) : Nat → Int := fun p => if p = 0 then -1 else if p < k then (O p : Int) else (par p : Int)

set_option maxRecDepth 10000 in
set_option maxHeartbeats 4000000 in
theorem nearest_any {m : Nat} {e : Nat → Nat → Prop} {par H : Nat → Nat} (D : Dfs m e par) (hm : m ≤ 48) (hH : ∀ x, 0 < x → x < m → Head m e x (H x)) (hH0 : H 0 = 0) (g1 c1 g2 c2 g3 n c3 gh ch : Nat) (w : World) (r2 : Ro w g2 m (fun p => if p = 0 then -1 else (par p : Int))) (rh : Ro w gh m (fun p => (H p : Int))) (hc : m ≤ c2) :
    Calls Try.prog 140 #[.agg #[.slice (some ⟨g1, 0, none⟩) m c1, .slice (some ⟨g2, 0, none⟩) m c2, .slice (some ⟨g3, 0, none⟩) n c3], .slice (some ⟨gh, 0, none⟩) m ch] w fun e' w' => ∃ O : Nat → Nat, (∀ p, 0 < p → p < m → Near m e p (O p)) ∧ RowIs m (fun p => if p = 0 then -1 else (O p : Int)) w e' w' := by
  have mp := D.pos
  have R2 := hid r2
  have RH := hid rh
  clear r2 rh
  go_enter Try.func140, Try.ntmps140
  go_wp2_with fail
  refine (clone_any g2 m c2 _ _ (R2.out.on (new (same w) _)) mp (by omega) hc).mono ?_
  rintro e' w1 ⟨go, co, rfl, ro, hgo, hb1⟩
  have B1 := hid (View.more (new (same w) _) hb1)
  have RO := hid ro
  have RH1 := hid (RH.out.on B1.out)
  have hgo1 : w.heap.size < go := by simp at hgo; omega
  have hhl := RH.out.lt
  clear ro hb1 hgo
  go_wp2_with fail
  have ST := hid (show Ro w1 go m (ovAt (fun _ => 0) par 0) from RO.out.congr (fun i hi => by unfold ovAt; simp))
  go_loopw [13] (fun iv wr => ∃ (k : Nat) (O : Nat → Nat), iv = .int .i64 k ∧ k ≤ m ∧ (∀ p, 0 < p → p < k → Near m e p (O p)) ∧ Ro wr go m (ovAt O par k) ∧ Ro wr gh m (fun p => (H p : Int)) ∧ Below w.heap.size w wr) (fun iv _ => m - (intOf iv).toNat)
  case atStart => exact ⟨0, fun _ => 0, rfl, Nat.zero_le _, fun p h1 h2 => by omega, ST.out, RH1.out, B1.out⟩
  case round =>
    clear ST RO RH1 B1
    obtain ⟨k, O, rfl, hk, hn, hro, hrh, hb⟩ := hrel
    have HS := hid (And.intro hn (And.intro hro (And.intro hrh hb)))
    by_cases lk : k < m
    · have i1 := int_at (g := gh) (c := ch) lk
      have p1 := hrh.cell k lk
      clear hn hro hrh hb
      go_wp2_with fail
      have CUR := hid (show ∃ cv : Int, ((k = 0 ∧ cv = -1) ∨ ∃ o : Nat, cv = o ∧ 0 < k ∧ Step m e par k o) ∧ Ro wr go m (fun p => if p = k then cv else ovAt O par k p) ∧ cv ≤ (m : Int) by
        by_cases h0 : k = 0
        · exact ⟨-1, .inl ⟨h0, rfl⟩, HS.out.2.1.congr (fun i hi => by by_cases e : i = k <;> simp [ovAt, e, h0]), by omega⟩
        · have st := Step.start D lk (by omega)
          exact ⟨(par k : Int), .inr ⟨par k, rfl, by omega, st⟩, HS.out.2.1.congr (fun i hi => by by_cases e : i = k <;> simp [ovAt, e, h0]), by have := st.lt; omega⟩)
      go_loopg [] (m) (fun gk wx => ∃ cv : Int, ((k = 0 ∧ cv = -1) ∨ ∃ o : Nat, cv = o ∧ 0 < k ∧ Step m e par k o) ∧ Ro wx go m (fun p => if p = k then cv else ovAt O par k p) ∧ Ro wx gh m (fun p => (H p : Int)) ∧ Below w.heap.size w wx ∧ cv ≤ (gk : Int))
      case atStart =>
        obtain ⟨cv, h1, h2, h3⟩ := CUR.out
        exact ⟨cv, h1, h2, HS.out.2.2.1, HS.out.2.2.2, h3⟩
      case round =>
        clear CUR p1
        obtain ⟨cv, hcv, hro, hrh, hb, hgk⟩ := hrel
        have HT := hid (And.intro hcv (And.intro hro (And.intro hrh hb)))
        have i2 := int_at (g := go) (c := co) lk
        have p2 := hro.cell k lk
        rw [if_pos rfl] at p2
        by_cases hgt : (H k : Int) < cv
        · have t1 : decide ((H k : Int) < cv) = true := by simpa using hgt
          obtain ⟨o, rfl, hk0, hst⟩ : ∃ o : Nat, cv = o ∧ 0 < k ∧ Step m e par k o := by
            rcases hcv with ⟨_, rfl⟩ | h
            · omega
            · exact h
          have ho := hst.lt
          have i3 := int_at (g := go) (n := m) (c := co) (x := o) (by omega)
          have p3 := hro.cell o (by omega)
          have e3 : (if o = k then ((o : Nat) : Int) else ovAt O par k o) = (O o : Int) := by
            rw [if_neg (by omega)]
            unfold ovAt
            rw [if_neg (by omega), if_pos (by omega)]
          rw [e3] at p3
          have z1 := hro.fz k
          have HST := hid hst
          have NEA := hid (HS.out.1 o (by omega) ho)
          clear hcv hro hrh hb hst e3
          go_wp2_with fail
          have hoo := NEA.out.lt
          go_roundg (O o)
          case measure => omega
          case rel =>
            refine ⟨(O o : Int), .inr ⟨O o, rfl, hk0, HST.out.next D lk (hH k hk0 lk) (by omega) NEA.out⟩, (HT.out.2.1.set lk (O o : Int)).congr (fun i hi => ?_), HT.out.2.2.1.setOther (by show gh ≠ go; omega) _, HT.out.2.2.2.setCell (by show _ ≤ go; omega) _, Int.le_refl _⟩
            by_cases e : i = k <;> simp [e]
        · have t1 : decide ((H k : Int) < cv) = false := by simpa using hgt
          clear hcv hro hrh hb
          go_wp2_with fail
          go_round
          case rel =>
            have FIN : ∃ O' : Nat → Nat, (∀ p, 0 < p → p < k + 1 → Near m e p (O' p)) ∧ Ro wr go m (ovAt O' par (k + 1)) := by
              rcases HT.out.1 with ⟨h0, hc⟩ | ⟨o, hc, hk0, hst⟩
              · refine ⟨O, fun p h1 h2 => by omega, HT.out.2.1.congr (fun i hi => ?_)⟩
                by_cases e : i = k
                · simp [ovAt, e, h0, hc]
                · have h1 : ¬ i < 1 := by omega
                  have h2 : i ≠ 0 := by omega
                  simp [ovAt, h0, h1, h2]
              · refine ⟨fun p => if p = k then o else O p, fun p h1 h2 => ?_, HT.out.2.1.congr (fun i hi => ?_)⟩
                · by_cases e : p = k
                  · subst e; simp only [if_true]; exact hst.done D lk (hH p hk0 lk) (by omega)
                  · simp only [if_neg e]; exact HS.out.1 p h1 (by omega)
                · by_cases e : i = k
                  · subst e
                    simp [ovAt, hc, show i ≠ 0 by omega]
                  · have e2 : (i < k + 1) = (i < k) := by apply propext; omega
                    simp [ovAt, e, e2]
            obtain ⟨O', f1, f2⟩ := FIN
            first
              | exact ⟨k + 1, O', by go_num, by omega, f1, f2, HT.out.2.2.1, HT.out.2.2.2⟩
              | ((repeat apply Exists.intro); exact ⟨⟨k + 1, O', by go_num, by omega, f1, f2, HT.out.2.2.1, HT.out.2.2.2⟩, rfl⟩)
          case measure => simp [intOf]; omega
    · obtain rfl : k = m := by omega
      clear hn hro hrh hb
      go_wp2_with fail
      go_ret
      exact ⟨O, HS.out.1, go, co, rfl, HS.out.2.1.congr (fun i hi => by unfold ovAt; simp [hi]), by omega, HS.out.2.2.2⟩

end Go.Proofs.Ytbmfimojhcdnbaa.Dm

/-
  dom.Over: of each block the nearest one over it.
-/
namespace Go.Proofs.Ytbmfimojhcdnbaa.Dm
open Go.RowKit View Rd Copy Num Ty Srt Go.Proofs.Ytbmfimojhcdnbaa.Flo Go.Proofs.Ytbmfimojhcdnbaa.Lt

set_option linter.unusedVariables false

/-- Over of each block, told up to place k. -/
def ovF (L : List Nat) (O : Nat → Nat) (k : Nat) (b : Nat) : Int := if b ∈ L ∧ 0 < L.idxOf b ∧ L.idxOf b < k then ((L.getD (O (L.idxOf b)) 0 : Nat) : Int) else -1

theorem ovF_zero (L : List Nat) (O : Nat → Nat) (i : Nat) : ovF L O 0 i = ovF L O (0 + 1) i := by
  unfold ovF
  rw [if_neg (by omega), if_neg (by omega)]

theorem idxOf_getD {L : List Nat} (hn : L.Nodup) {k : Nat} (hk : k < L.length) : L.idxOf (L.getD k 0) = k := by
  have hm : L.getD k 0 ∈ L := getD_in hk
  have h1 : L.idxOf (L.getD k 0) < L.length := List.idxOf_lt_length_of_mem hm
  have key : ∀ b ∈ L, L.getD (L.idxOf b) 0 = b := fun b hb => by
    have h2 : L.idxOf b < L.length := List.idxOf_lt_length_of_mem hb
    simp [List.getD, h2]
  exact getD_inj hn h1 hk (key _ hm)

theorem ovF_next {L : List Nat} {O : Nat → Nat} {k o a b : Nat} (hn : L.Nodup) (lk : k < L.length) (hk0 : k ≠ 0) (ho : O k = o) (hb : L.getD k 0 = b) (ha : L.getD o 0 = a) (i : Nat) : (if i = b then (a : Int) else ovF L O k i) = ovF L O (k + 1) i := by
  have hix := idxOf_getD hn lk
  rw [hb] at hix
  by_cases e : i = b
  · subst e
    rw [if_pos rfl]
    unfold ovF
    rw [if_pos ⟨by rw [← hb]; exact getD_in lk, by omega, by omega⟩, hix, ho, ha]
  · rw [if_neg e]
    unfold ovF
    have : (i ∈ L ∧ 0 < L.idxOf i ∧ L.idxOf i < k) ↔ (i ∈ L ∧ 0 < L.idxOf i ∧ L.idxOf i < k + 1) := by
      constructor
      · rintro ⟨h1, h2, h3⟩; exact ⟨h1, h2, by omega⟩
      · rintro ⟨h1, h2, h3⟩
        refine ⟨h1, h2, ?_⟩
        by_cases e2 : L.idxOf i = k
        · exfalso
          apply e
          have h4 : L.idxOf i < L.length := List.idxOf_lt_length_of_mem h1
          have h5 : L.getD (L.idxOf i) 0 = i := by simp [List.getD, h4]
          rw [← h5, e2, hb]
        · omega
    simp only [this]

theorem over_fin {F : FV} {L : List Nat} {par O : Nat → Nat} (h0 : 0 < F.blk.n) (hgr : Gro (su F) L par []) (hO : ∀ p, 0 < p → p < L.length → Near L.length (ePl (su F) L) p (O p)) : OverIs F (ovF L O L.length) := by
  refine ⟨fun b hb hb0 hw => ?_, fun b hb h => ?_⟩
  · have hm := hgr.reach hw
    have h1 : L.idxOf b < L.length := List.idxOf_lt_length_of_mem hm
    have h2 : L.getD (L.idxOf b) 0 = b := by simp [List.getD, h1]
    have h3 : 0 < L.idxOf b := by
      rcases Nat.eq_zero_or_pos (L.idxOf b) with h | h
      · rw [h, hgr.zero] at h2; exact absurd h2.symm hb0
      · exact h
    have hn := hO _ h3 h1
    have ho := hn.lt
    refine ⟨L.getD (O (L.idxOf b)) 0, way_lt h0 (hgr.way _ (getD_in (by omega))), by unfold ovF; rw [if_pos ⟨hm, h3, h1⟩], ?_⟩
    have := nearB_of hgr h1 hn
    rw [h2] at this
    exact this
  · unfold ovF
    rw [if_neg]
    rintro ⟨h1, h2, _⟩
    rcases h with rfl | h
    · have := idxOf_getD hgr.nodup hgr.pos
      rw [hgr.zero] at this
      omega
    · exact h (hgr.way b h1)

/-- What Over hands back. -/
def OverGives (F : FV) (w : World) (e : Ending) (w' : World) : Prop := ∃ (g c : Nat) (ov : Nat → Int), e = .returned (.slice (some ⟨g, 0, none⟩) F.blk.n c) ∧ Ro w' g F.blk.n ov ∧ OverIs F ov ∧ (w.heap.size ≤ g ∧ F.blk.n ≤ c) ∧ Below w.heap.size w w'

set_option maxRecDepth 10000 in
set_option maxHeartbeats 4000000 in
theorem over_any (F : FV) (w : World) (hF : In w F) (hl : Light F) (hj : Jng F) (h0 : 0 < F.blk.n) : Calls Try.prog 123 #[F.val] w fun e w' => OverGives F w e w' := by
  have HF := hid hF
  have HL := hid hl
  have HJ := hid hj
  have gb := hl.blk
  clear hF hl hj
  go_enter Try.func123, Try.ntmps123
  go_wp2_with fail
  have hx0 : ((w.alloc (.cells (fcells F) 33)).alloc (.cells #[.int .i64 (-1)] 3)).cell? ⟨w.heap.size + 1, 0, none⟩ = some (.int .i64 (-1)) := by
    have := new_cell (w.alloc (.cells (fcells F) 33)) #[.int .i64 (-1)] 3 0 _ rfl
    simp only [World.size_alloc] at this
    exact this
  refine (repeat_any (-1) (w.heap.size + 1) F.blk.n gb _ hx0).mono ?_
  rintro e w1 ⟨go, rfl, hr1, hg1, hb1⟩
  simp only [World.size_alloc] at hg1
  have B1 := hid (View.more (new (new (same w) _) _) hb1)
  have FA1 := hid (show FuncAt w1 w.heap.size F from (((FuncAt.alloc w F).on (new (same _) _))).on hb1)
  have R1 := hid (show Ro w1 go F.blk.n (fun _ => -1) from (Ro.of_row hr1).congr (fun i hi => by simp [hi]))
  obtain ⟨c0, c1, c2, c3, c4⟩ := FA1.out
  clear hr1 hb1 hx0
  go_wp2_with fail
  refine (grow_any F _ (HF.out.on B1.out) HL.out HJ.out h0).mono ?_
  rintro e w2 ⟨L, par, g1, k1, g2, k2, g3, rfl, hgr, r1, r2, r3, q1, q2, q3, n1, n2, hb2⟩
  have B2 := hid (View.more B1.out hb2)
  have FA2 := hid (FA1.out.on hb2)
  have RO := hid (R1.out.on hb2)
  have GR := hid hgr
  have RR := hid (And.intro r1 (And.intro r2 r3))
  have mp := hgr.pos
  have hzz2 := hb2.size
  have HLT := hid (show ∀ x ∈ L, x < F.blk.n from fun x hx => way_lt h0 (hgr.way x hx))
  have hmn : L.length ≤ F.blk.n := length_le_of_lt _ _ hgr.nodup HLT.out
  clear hgr r1 r2 r3 c0 c1 c2 c3 c4
  go_wp2_with fail
  obtain ⟨W, hW⟩ : ∃ W, w2.alloc (.cells #[.slice (some ⟨g1, 0, none⟩) L.length k1, .slice (some ⟨g2, 0, none⟩) L.length k2, .slice (some ⟨g3, 0, none⟩) F.blk.n F.blk.n] 158) = W := ⟨_, rfl⟩
  obtain ⟨tb, htb⟩ : ∃ tb, w2.heap.size = tb := ⟨_, rfl⟩
  have LW := hid (show Below w2.heap.size w2 W by rw [← hW]; exact new (same _) _)
  have TW := hid (show ∀ i v, (#[.slice (some ⟨g1, 0, none⟩) L.length k1, .slice (some ⟨g2, 0, none⟩) L.length k2, .slice (some ⟨g3, 0, none⟩) F.blk.n F.blk.n] : Array Value)[i]? = some v → W.cell? ⟨tb, i, none⟩ = some v by rw [← hW, ← htb]; exact fun i v h => new_cell w2 _ _ i v h)
  simp only [hW, htb]
  clear hW
  have FW := hid (FA2.out.on LW.out)
  have k0 : ∀ wx, Below W.heap.size W wx → wx.cell? ⟨tb, 0, none⟩ = some (.slice (some ⟨g1, 0, none⟩) L.length k1) := fun wx h => cell_on h (TW.out 0 _ rfl)
  have k1' : ∀ wx, Below W.heap.size W wx → wx.cell? ⟨tb, 1, none⟩ = some (.slice (some ⟨g2, 0, none⟩) L.length k2) := fun wx h => cell_on h (TW.out 1 _ rfl)
  have k2' : ∀ wx, Below W.heap.size W wx → wx.cell? ⟨tb, 2, none⟩ = some (.slice (some ⟨g3, 0, none⟩) F.blk.n F.blk.n) := fun wx h => cell_on h (TW.out 2 _ rfl)
  have f0 : ∀ wx, Below W.heap.size W wx → wx.cell? ⟨w.heap.size, 0, none⟩ = some (.string F.name) := fun wx h => (FW.out.on h).c0
  have f1 : ∀ wx, Below W.heap.size W wx → wx.cell? ⟨w.heap.size, 1, none⟩ = some (.bool F.out) := fun wx h => (FW.out.on h).c1
  have f2 : ∀ wx, Below W.heap.size W wx → wx.cell? ⟨w.heap.size, 2, none⟩ = some (.slice F.par.a F.par.n F.par.c) := fun wx h => (FW.out.on h).c2
  have f3 : ∀ wx, Below W.heap.size W wx → wx.cell? ⟨w.heap.size, 3, none⟩ = some (.int .i64 F.res) := fun wx h => (FW.out.on h).c3
  have f4 : ∀ wx, Below W.heap.size W wx → wx.cell? ⟨w.heap.size, 4, none⟩ = some (.slice F.blk.a F.blk.n F.blk.c) := fun wx h => (FW.out.on h).c4
  have BW := hid (View.more B2.out LW.out)
  have RW := hid (show Ro W g1 L.length (fun i => ((L.getD i 0 : Nat) : Int)) ∧ Ro W g2 L.length (fun p => if p = 0 then -1 else (par p : Int)) ∧ Ro W g3 F.blk.n (plc L) from ⟨RR.out.1.on LW.out, RR.out.2.1.on LW.out, RR.out.2.2.on LW.out⟩)
  have ROW := hid (RO.out.on LW.out)
  have st0 : Below W.heap.size W W.drew := Below.drew (same _)
  go_region_held3 (fun wx => Below W.heap.size W wx) (first | exact st0 | exact st1 | exact st2 | exact st3)
    (first
      | (go_at_call 28; refine (prev_flow F _ (HF.out.on (View.more BW.out st0)) HL.out HJ.out).mono ?_; rintro e3 w3 ⟨M, R, rfl, hpv, hM, hb3⟩; have st1 : Below W.heap.size W w3 := View.more st0 hb3; have PV := hid hpv; clear hpv hM hb3)
      | (go_at_call 141; refine (findHeads_any F HL.out L par GR.out g1 k1 g2 k2 g3 M R _ (RW.out.1.on st1) (RW.out.2.1.on st1) (RW.out.2.2.on st1) n2 PV.out (by omega) HLT.out).mono ?_; rintro e4 w4 ⟨H, hH, hH0, gh, ch, rfl, rh, hgh, hb4⟩; have st2 : Below W.heap.size W w4 := View.more st1 hb4; have RH := hid (And.intro rh (And.intro hH hH0)); clear rh hgh hb4 hH hH0)
      | (go_at_call 140; refine (nearest_any GR.out.dfs (by omega) RH.out.2.1 RH.out.2.2 g1 k1 g2 k2 g3 F.blk.n F.blk.n gh ch _ (RW.out.2.1.on st2) RH.out.1 n2).mono ?_; rintro e5 w5 ⟨O, hO, gn, cn, rfl, rn, hgn, hb5⟩; have st3 : Below W.heap.size W w5 := View.more st2 hb5; have RN := hid (And.intro rn (And.intro hO hgn)); clear rn hgn hb5 hO))
  have T5 := hid (k0 _ st3)
  clear k0 k1' k2' f0 f1 f2 f3 f4
  go_wp2_with fail
  have gol : go < w1.heap.size := R1.out.lt
  have tbl : w1.heap.size ≤ tb := by rw [← htb]; exact hb2.size
  have gnl : W.heap.size ≤ gn := by have := RN.out.2.2; have := st2.size; omega
  have Wl : tb < W.heap.size := by rw [← htb]; have := World.block_lt_of_cell? _ _ (TW.out 0 _ rfl); rw [htb]; exact this
  have ST := hid (show Ro w5 go F.blk.n (ovF L O 0) from (ROW.out.on st3).congr (fun i hi => by simp [ovF]))
  go_loopw [21] (fun iv wr => ∃ k : Nat, k ≤ L.length ∧ iv = .int .i64 k ∧ Ro wr go F.blk.n (ovF L O k) ∧ Ro wr g1 L.length (fun i => ((L.getD i 0 : Nat) : Int)) ∧ Ro wr gn L.length (fun p => if p = 0 then -1 else (O p : Int)) ∧ wr.cell? ⟨tb, 0, none⟩ = some (.slice (some ⟨g1, 0, none⟩) L.length k1) ∧ Below w.heap.size w wr) (fun iv _ => L.length - (intOf iv).toNat)
  case atStart => exact ⟨0, Nat.zero_le _, rfl, ST.out, RW.out.1.on st3, RN.out.1, T5.out, View.more BW.out st3⟩
  case round =>
    clear ST T5
    obtain ⟨k, hk, rfl, hro, hr1, hrn, htc, hb⟩ := hrel
    have HS := hid (And.intro hro (And.intro hr1 (And.intro hrn (And.intro htc hb))))
    by_cases lk : k < L.length
    · have i1 := int_at (g := gn) (c := cn) lk
      have p1 := hrn.cell k lk
      by_cases hk0 : k = 0
      · rw [if_pos hk0] at p1
        have HK0 := hid hk0
        clear hro hr1 hrn hb hk0
        go_wp2_with fail
        go_round
        case rel => exact ⟨k + 1, by omega, by go_num, HS.out.1.congr (fun i hi => by rw [HK0.out]; exact ovF_zero L O i), HS.out.2.1, HS.out.2.2.1, HS.out.2.2.2.1, HS.out.2.2.2.2⟩
        case measure => simp [intOf]; omega
      · rw [if_neg hk0] at p1
        have hO := (RN.out.2.1 k (by omega) lk).lt
        obtain ⟨o, ho⟩ : ∃ o, O k = o := ⟨_, rfl⟩
        rw [ho] at p1 hO
        have p2 := hr1.cell k lk
        have p3 := hr1.cell o (by omega)
        have i2 := int_at (g := g1) (c := k1) lk
        have i3 := int_at (g := g1) (n := L.length) (c := k1) (x := o) (by omega)
        obtain ⟨b, hb'⟩ : ∃ b, L.getD k 0 = b := ⟨_, rfl⟩
        obtain ⟨a, ha'⟩ : ∃ a, L.getD o 0 = a := ⟨_, rfl⟩
        rw [hb'] at p2
        rw [ha'] at p3
        have hbn : b < F.blk.n := HLT.out b (by rw [← hb']; exact getD_in lk)
        have i4 := int_at (g := go) (c := F.blk.n) hbn
        have p4 := hro.cell b hbn
        have z4 := hro.fz b
        have HQ := hid (And.intro ho (And.intro hb' ha'))
        clear hro hr1 hrn hb ho hb' ha'
        go_wp2_with fail
        go_region
        go_wp2_with fail
        go_round
        case rel =>
          refine ⟨k + 1, by omega, by go_num, ((HS.out.1.set hbn (a : Int)).on (Below.drew (same _))).congr (fun i hi => ?_), (HS.out.2.1.setOther (by show g1 ≠ go; omega) _).on (Below.drew (same _)), (HS.out.2.2.1.setOther (by show gn ≠ go; omega) _).on (Below.drew (same _)), cell_other (fun e => by have := congrArg Addr.block e; simp at this; omega) HS.out.2.2.2.1, Below.drew (HS.out.2.2.2.2.setCell (by show _ ≤ go; omega) _)⟩
          exact ovF_next GR.out.nodup lk hk0 HQ.out.1 HQ.out.2.1 HQ.out.2.2 i
        case measure => simp [intOf]; omega
    · obtain rfl : k = L.length := by omega
      clear hro hr1 hrn hb
      go_wp2_with fail
      go_ret
      exact ⟨go, F.blk.n, ovF L O L.length, rfl, HS.out.1, over_fin h0 GR.out RN.out.2.1, by omega, HS.out.2.2.2.2⟩

end Go.Proofs.Ytbmfimojhcdnbaa.Dm

/-
  By the document: plnref3.Dom, plnref3.Over.
-/
namespace Go.Proofs.Ytbmfimojhcdnbaa.Dm
open Go.RowKit View Rd Copy Num Ty Srt Go.Proofs.Ytbmfimojhcdnbaa.Flo Go.Proofs.Ytbmfimojhcdnbaa.Lt

set_option linter.unusedVariables false

def DomI (F : FV) (a b : Int) : Prop := 0 ≤ a ∧ a < F.blk.n ∧ 0 ≤ b ∧ b < F.blk.n ∧ DomR F a.toNat b.toNat

theorem way_ltK {F : FV} (h0 : 0 < F.blk.n) {y : Nat} (h : Go.Proofs.Ytbmfimojhcdnbaa.Flo.Way (su F) 0 y) : y < F.blk.n := by
  cases h with
  | refl => exact h0
  | step _ hc => exact su_lt F _ _ hc

/-- There is such a tree. -/
theorem gro_ex {F : FV} (hl : Light F) (h0 : 0 < F.blk.n) : ∃ L par, Gro (su F) L par [] := by
  have key : ∀ k (L : List Nat) (par : Nat → Nat) (U : List (Nat × Nat)), Gro (su F) L par U → (F.blk.n - L.length) * 21 + U.length ≤ k → ∃ L par, Gro (su F) L par [] := by
    intro k
    induction k with
    | zero =>
      intro L par U h hk
      have : U = [] := List.eq_nil_of_length_eq_zero (by omega)
      subst this
      exact ⟨L, par, h⟩
    | succ k ih =>
      intro L par U h hk
      rcases List.eq_nil_or_concat U with rfl | ⟨U', u, rfl⟩
      · exact ⟨L, par, h⟩
      · simp only [List.concat_eq_append] at h hk
        by_cases hu : u.2 ∈ L
        · exact ih L par U' (h.skip hu) (by simp at hk; omega)
        · have h2 := h.meet hu
          have hle := length_le_of_lt F.blk.n (L ++ [u.2]) h2.nodup (fun y hy => way_ltK h0 (h2.way y hy))
          have hs := su_le hl u.2
          refine ih _ _ _ h2 ?_
          simp at hk hle ⊢
          omega
  exact key _ _ _ _ (Gro.start (su F)) (Nat.le_refl _)

/-- The lowest of those over b among the first k. -/
def LowK (F : FV) (b k : Nat) (c : Int) : Prop := (c = -1 ∧ ∀ d, d < k → d ≠ b → ¬ DomR F d b) ∨ ∃ x : Nat, c = x ∧ x < F.blk.n ∧ x ≠ b ∧ DomR F x b ∧ ∀ d, d < k → d ≠ b → DomR F d b → DomR F d x

theorem LowK.fin {F : FV} {L : List Nat} {par : Nat → Nat} (hgr : Gro (su F) L par []) {b : Nat} {c : Int} (h : LowK F b F.blk.n c) (h0 : 0 < F.blk.n) : (b ≠ 0 → Go.Proofs.Ytbmfimojhcdnbaa.Flo.Way (su F) 0 b → ∃ a : Nat, a < F.blk.n ∧ c = a ∧ NearB F b a) ∧ ((b = 0 ∨ ¬ Go.Proofs.Ytbmfimojhcdnbaa.Flo.Way (su F) 0 b) → c = -1) := by
  have dn : ∀ d, DomR F d b → d < F.blk.n := fun d hd => way_ltK h0 hd.1
  refine ⟨fun hb hw => ?_, fun hb => ?_⟩
  · rcases h with ⟨_, h⟩ | ⟨x, hx, hxn, hxb, hxd, hlow⟩
    · refine absurd ?_ (h 0 h0 (fun e => hb e.symm))
      exact ⟨.refl 0, hw, .inr fun q => q.1 rfl⟩
    · exact ⟨x, hxn, hx, hxd, hxb, fun d hd hdb => hlow d (dn d hdb) hd hdb⟩
  · rcases h with ⟨h, _⟩ | ⟨x, hx, hxn, hxb, hxd, hlow⟩
    · exact h
    · rcases hb with rfl | hb
      · have h00 : DomR F 0 x := ⟨.refl 0, hxd.1, .inr fun q => q.1 rfl⟩
        exact absurd (dom_anti hxd h00 hgr) hxb
      · exact absurd hxd.2.1 hb

theorem LowK.skip {F : FV} {b k : Nat} {c : Int} (h : LowK F b k c) (hk : k = b ∨ ¬ DomR F k b) : LowK F b (k + 1) c := by
  rcases h with ⟨h1, h⟩ | ⟨x, hx, hxn, hxb, hxd, hlow⟩
  · refine .inl ⟨h1, fun d hd hdb hdd => ?_⟩
    by_cases e : d = k
    · subst e; rcases hk with h' | h'
      · exact hdb h'
      · exact h' hdd
    · exact h d (by omega) hdb hdd
  · refine .inr ⟨x, hx, hxn, hxb, hxd, fun d hd hdb hdd => ?_⟩
    by_cases e : d = k
    · subst e; rcases hk with h' | h'
      · exact absurd h' hdb
      · exact absurd hdd h'
    · exact hlow d (by omega) hdb hdd

theorem LowK.take {F : FV} {L : List Nat} {par : Nat → Nat} (hgr : Gro (su F) L par []) {b k : Nat} {c : Int} (h : LowK F b k c) (hkn : k < F.blk.n) (hkb : k ≠ b) (hkd : DomR F k b) (hc : c = -1 ∨ ∃ x : Nat, c = x ∧ DomR F x k) : LowK F b (k + 1) k := by
  refine .inr ⟨k, rfl, hkn, hkb, hkd, fun d hd hdb hdd => ?_⟩
  by_cases e : d = k
  · subst e; exact dom_self hdd.1
  · rcases h with ⟨h1, h⟩ | ⟨x, hx, hxn, hxb, hxd, hlow⟩
    · exact absurd hdd (h d (by omega) hdb)
    · rcases hc with hc | ⟨y, hy, hyk⟩
      · omega
      · obtain rfl : y = x := by omega
        exact dom_trans (hlow d (by omega) hdb hdd) hyk hgr

theorem LowK.stay {F : FV} {L : List Nat} {par : Nat → Nat} (hgr : Gro (su F) L par []) {b k x : Nat} (h : LowK F b k (x : Int)) (hkd : DomR F k b) (hx : ¬ DomR F x k) : LowK F b (k + 1) (x : Int) := by
  rcases h with ⟨h1, h⟩ | ⟨y, hy, hyn, hyb, hyd, hlow⟩
  · omega
  · obtain rfl : y = x := by omega
    refine .inr ⟨y, rfl, hyn, hyb, hyd, fun d hd hdb hdd => ?_⟩
    by_cases e : d = k
    · subst e
      rcases dom_chain hdd hyd hgr with h | h
      · exact h
      · exact absurd h hx
    · exact hlow d (by omega) hdb hdd

end Go.Proofs.Ytbmfimojhcdnbaa.Dm

/-
  wf: whether what is taken in a function is there; given: where values are given.
-/
namespace Go.Proofs.Ytbmfimojhcdnbaa.Wf
open Go.RowKit View Rd Num Opn Copy Srt Go.Proofs.Ytbmfimojhcdnbaa.Mod Go.Proofs.Ytbmfimojhcdnbaa.Chk Go.Proofs.Ytbmfimojhcdnbaa.Flo Go.Proofs.Ytbmfimojhcdnbaa.Dm

set_option linter.unusedVariables false

def GivenIs (F : FV) (w : World) (e : Ending) (w' : World) : Prop :=
  ∃ (O c : Nat) (bl pl : Nat → Int), e = .returned (.slice (some ⟨O, 0, none⟩) (allV F + 1) c) ∧ Gv F w' O bl pl ∧ allV F + 1 ≤ c ∧ w.heap.size ≤ O ∧ Below w.heap.size w w'

/-- What wf.givenAt keeps. -/
def GivenKept (F : FV) : Prop := ∀ w, In w F → Calls Try.prog 122 #[F.val] w fun e w' => GivenIs F w e w'

theorem Gv.at_block {F : FV} {w w' : World} {O : Nat} {bl pl : Nat → Int} (h : Gv F w O bl pl) (e : w'.heap[O]? = w.heap[O]?) : Gv F w' O bl pl :=
  ⟨fun v hv => by rw [World.cell?_of_block (w := w) e]; exact h.cb v hv, fun v hv => by rw [World.cell?_of_block (w := w) e]; exact h.cp v hv, h.par, h.val⟩

theorem Gv.lt {F : FV} {w : World} {O : Nat} {bl pl : Nat → Int} (h : Gv F w O bl pl) : O < w.heap.size := World.block_lt_of_cell? _ _ (h.cb 0 (Nat.zero_le _))

theorem zero2 (i : Nat) (hi : i < 2) : (#[.slice none 0 0, .slice none 0 0] : Array Value)[i]? = some (.slice none 0 0) := by
  have h2 : i = 0 ∨ i = 1 := by omega
  rcases h2 with rfl | rfl <;> rfl

/-- The values' rows lie at cb. -/
def VBox (F : FV) (cb : Nat) (wx : World) : Prop := ∃ (O cO g c : Nat) (bl pl ov : Nat → Int), wx.cell? ⟨cb, 0, none⟩ = some (.slice (some ⟨O, 0, none⟩) (allV F + 1) cO) ∧ wx.cell? ⟨cb, 1, none⟩ = some (.slice (some ⟨g, 0, none⟩) F.blk.n c) ∧ Gv F wx O bl pl ∧ Ro wx g F.blk.n ov ∧ OverIs F ov ∧ allV F + 1 ≤ cO ∧ F.blk.n ≤ c

theorem vbox_of {F : FV} {X : World} {cb O cO g c : Nat} {bl pl ov : Nat → Int} (hg : Gv F X O bl pl) (hr : Ro X g F.blk.n ov) (ho : OverIs F ov) (hcO : allV F + 1 ≤ cO) (hc : F.blk.n ≤ c) (bc : ∀ i, i < 2 → X.cell? ⟨cb, i, none⟩ = some (.slice none 0 0)) (n1 : cb ≠ O) (n2 : cb ≠ g) :
    VBox F cb ((X.setCell ⟨cb, 0, none⟩ (.slice (some ⟨O, 0, none⟩) (allV F + 1) cO)).setCell ⟨cb, 1, none⟩ (.slice (some ⟨g, 0, none⟩) F.blk.n c)) := by
  have b2 : ∀ k, k ≠ cb → ((X.setCell ⟨cb, 0, none⟩ (.slice (some ⟨O, 0, none⟩) (allV F + 1) cO)).setCell ⟨cb, 1, none⟩ (.slice (some ⟨g, 0, none⟩) F.blk.n c)).heap[k]? = X.heap[k]? := fun k hk => by
    rw [Below.heap_setCell _ _ _ _ hk, Below.heap_setCell _ _ _ _ hk]
  exact ⟨O, cO, g, c, bl, pl, ov, cell_other (ne_off (by omega)) (cell_same (bc 0 (by omega))), cell_same (cell_other (ne_off (by omega)) (bc 1 (by omega))), hg.at_block (b2 _ (fun e => n1 e.symm)), hr.at_block (b2 _ (fun e => n2 e.symm)), ho, hcO, hc⟩

set_option maxRecDepth 10000 in
set_option maxHeartbeats 8000000 in
theorem funcUse_any (F : FV) (w : World) (hF : In w F) (hl : Light F) (hj : Jng F) (hf : FormF F) (hfl : FlowF F) (h0 : 0 < F.blk.n) (hgi : GivenKept F) : Calls Try.prog 93 #[F.val] w fun e w' => Ans (fun r => r = true ↔ ¬ UseF F) w e w' := by
  have gb := hl.blk
  obtain ⟨L, par, hgr⟩ := gro_ex hl h0
  obtain ⟨W, hW⟩ : ∃ W, w.alloc (.cells (fcells F) 33) = W := ⟨_, rfl⟩
  have FW := hid (show FuncAt W w.heap.size F by rw [← hW]; exact FuncAt.alloc w F)
  have HF := hid (show In W F by rw [← hW]; exact hF.on (new (same w) _))
  have LW := hid (show Below w.heap.size w W by rw [← hW]; exact new (same w) _)
  have HL := hid hl
  have HJ := hid hj
  have HFO := hid hf
  have HFL := hid hfl
  have HGI := hid hgi
  have HGR := hid hgr
  have HWW := hid hW
  have YES := hid (show ∀ wx, Below W.heap.size W wx → ¬ UseF F → Ans (fun r => r = true ↔ ¬ UseF F) w (.returned (.bool true)) wx from fun wx h hn => ⟨true, rfl, by simp [hn], View.more LW.out h⟩)
  obtain ⟨f0, f1, f2, f3, f4⟩ := FW.out
  clear hF hl hj hf hfl hgi hgr hW
  go_enter Try.func93, Try.ntmps93
  go_wp2_with fail
  simp only [HWW.out]
  clear HWW
  refine (numberFault_any F W HF.out HL.out).mono ?_
  rintro e w1 ⟨r, rfl, hr, hb⟩
  have B1 := hid hb
  have R := hid hr
  clear hr hb f0 f1 f2 f3 f4
  cases r with
  | true =>
    have HN := hid (show ¬ UseF F from fun h => R.out.1 rfl h.1)
    go_wp2_with fail
    go_ret
    exact YES.out _ B1.out HN.out
  | false =>
  have P1 := hid (show NumF F by
    by_cases q : NumF F
    · exact q
    · exact absurd (R.out.2 q) (by simp))
  clear R
  have fw := FW.out.on B1.out
  have A0 : ∀ wx, Below w1.heap.size w1 wx → wx.cell? ⟨w.heap.size, 0, none⟩ = some (.string F.name) := fun wx h => cell_on h fw.c0
  have A1 : ∀ wx, Below w1.heap.size w1 wx → wx.cell? ⟨w.heap.size, 1, none⟩ = some (.bool F.out) := fun wx h => cell_on h fw.c1
  have A2 : ∀ wx, Below w1.heap.size w1 wx → wx.cell? ⟨w.heap.size, 2, none⟩ = some (.slice F.par.a F.par.n F.par.c) := fun wx h => cell_on h fw.c2
  have A3 : ∀ wx, Below w1.heap.size w1 wx → wx.cell? ⟨w.heap.size, 3, none⟩ = some (.int .i64 F.res) := fun wx h => cell_on h fw.c3
  have A4 : ∀ wx, Below w1.heap.size w1 wx → wx.cell? ⟨w.heap.size, 4, none⟩ = some (.slice F.blk.a F.blk.n F.blk.c) := fun wx h => cell_on h fw.c4
  have st0 : Below w1.heap.size w1 w1.drew := Below.drew (same _)
  clear fw
  go_wp2_with fail
  go_cut [3] from 10 to 14 (fun c wx => ∃ cb, c = .pointer (some ⟨cb, 0, none⟩) ∧ VBox F cb wx ∧ Below w1.heap.size w1 wx)
  case first =>
    refine wp_region_noPanic ?_
    refine wp_region_held_drew (S := fun wy => Below w1.heap.size w1 wy) (by kernel_rfl) st0 (fun hS => ?_)
    refine Go.Proofs.Ytbmfimojhcdnbaa.Flo.takeAt (i := 0) (d := some 10) (v := ?vc0) rfl (by rfl) (by kernel_rfl) (by kernel_rfl) (by kernel_rfl) (fun _ _ _ h => h) (Or.inl ⟨by rfl, ?yc0⟩) hS ?_
    case yc0 => intro wx hSw; (go_simp) <;> with_reducible rfl
    simp only [Act.put, List.setIfInBounds_toArray, List.set_cons_zero, List.set_cons_succ]
    refine Go.Proofs.Ytbmfimojhcdnbaa.Flo.takeAt (i := 2) (d := some 12) (v := ?vc2) rfl (by rfl) (by kernel_rfl) (by kernel_rfl) (by kernel_rfl) (fun _ _ _ h => h) (Or.inl ⟨by rfl, ?yc2⟩) hS ?_
    case yc2 => intro wx hSw; (go_simp) <;> with_reducible rfl
    simp only [Act.put, List.setIfInBounds_toArray, List.set_cons_zero, List.set_cons_succ]
    obtain ⟨x0, hx0⟩ : ∃ x0, w1.drew = x0 := ⟨_, rfl⟩
    have q0 : Below w1.heap.size w1 x0 := by rw [← hx0]; exact st0
    have hq0 : w1.heap.size ≤ x0.heap.size := q0.size
    rw [hx0] at hS ⊢
    clear hx0 st0
    refine wpAnyH_ready (rs := [1, 5]) (by kernel_rfl) (by simp) ?_
    refine AllReadyH.cons rfl (fun K hK => ?_) (AllReadyH.cons rfl (fun K hK => ?_) AllReadyH.nil)
    · go_simp
      refine (HGI.out _ (HF.out.on (View.more B1.out q0))).mono ?_
      rintro e2 x1 ⟨O, cO, bl, pl, rfl, gvv, hcO, hgO, hb1⟩
      have q1 : Below w1.heap.size w1 x1 := View.more q0 hb1
      have RU := hid gvv
      have rul := gvv.lt
      clear gvv
      go_wp2_with fail
      have hq1 := hb1.size
      refine hK.out _ _ q1 (fun _ => ?_)
      clear hK K
      replace hS := q1
      try simp only [Act.put, List.setIfInBounds_toArray, List.set_cons_zero, List.set_cons_succ]
      refine wpAnyH_ready (rs := [3, 5]) (by kernel_rfl) (by simp) ?_
      refine AllReadyH.cons rfl (fun K hK => ?_) (AllReadyH.cons rfl (fun K hK => ?_) AllReadyH.nil)
      · go_simp
        refine (over_any F _ (HF.out.on (View.more B1.out q1)) HL.out HJ.out h0).mono ?_
        rintro e3 x2 ⟨g, c, ov, rfl, ro, oi, ⟨hgg, hgc⟩, hb2⟩
        have q2 : Below w1.heap.size w1 x2 := View.more q1 hb2
        have RL := hid ro
        have OI := hid oi
        have rll := ro.lt
        clear ro oi
        go_wp2_with fail
        have hq2 := hb2.size
        refine hK.out _ _ q2 (fun _ => ?_)
        clear hK K
        replace hS := q2
        try simp only [Act.put, List.setIfInBounds_toArray, List.set_cons_zero, List.set_cons_succ]
        refine Go.Proofs.Ytbmfimojhcdnbaa.Flo.takeAt (i := 4) (d := some 14) (v := ?vc1x4) rfl (by rfl) (by kernel_rfl) (by kernel_rfl) (by kernel_rfl) (fun _ _ _ h => h) (Or.inl ⟨by rfl, ?yc1x4⟩) hS ?_
        case yc1x4 => intro wx hSw; (go_simp) <;> with_reducible rfl
        simp only [Act.put, List.setIfInBounds_toArray, List.set_cons_zero, List.set_cons_succ]
        refine wpAnyH_ready (rs := [5]) (by kernel_rfl) (by simp) ?_
        refine AllReadyH.cons rfl (fun K hK => ?_) AllReadyH.nil
        go_simp
        have hb3 : Below x2.heap.size x2 (x2.alloc (.cells #[.slice none 0 0, .slice none 0 0] 140)) := new (same _) _
        have BX := hid (show (∀ i, i < 2 → (x2.alloc (.cells #[.slice none 0 0, .slice none 0 0] 140)).cell? ⟨x2.heap.size, i, none⟩ = some (.slice none 0 0)) ∧ ∀ i, (x2.alloc (.cells #[.slice none 0 0, .slice none 0 0] 140)).frozen? ⟨x2.heap.size, i, none⟩ = false from ⟨fun i hi => new_cell x2 _ _ i _ (zero2 i hi), fun i => new_froz x2 _ _ i⟩)
        obtain ⟨x3, hx3⟩ : ∃ x, x2.alloc (.cells #[.slice none 0 0, .slice none 0 0] 140) = x := ⟨_, rfl⟩
        have cbz : x3.heap.size = x2.heap.size + 1 := by rw [← hx3]; simp
        obtain ⟨cb, hcb⟩ : ∃ cb, x2.heap.size = cb := ⟨_, rfl⟩
        rw [hx3] at hb3 BX ⊢
        rw [hcb] at BX cbz ⊢
        have q3 : Below w1.heap.size w1 x3 := View.more q2 (by rw [hcb] at hb3; rw [hcb]; exact hb3)
        clear hx3
        have hq3 := hb3.size
        refine hK.out _ _ q3 (fun _ => ?_)
        clear hK K
        replace hS := q3
        try simp only [Act.put, List.setIfInBounds_toArray, List.set_cons_zero, List.set_cons_succ]
        have fru := ((RU.out.on hb2).on hb3)
        have frl := (RL.out.on hb3)
        have fbc : ∀ i, i < 2 → x3.cell? ⟨cb, i, none⟩ = some (.slice none 0 0) := fun i hi => BX.out.1 i hi
        have fbz : ∀ i, x3.frozen? ⟨cb, i, none⟩ = false := fun i => by exact BX.out.2 i
        have f0 := fbc 0 (by omega)
        have f1 := fbc 1 (by omega)
        have z0 := fbz 0
        have z1 := fbz 1
        have s9 : Below w1.heap.size w1 ((x3.setCell ⟨cb, 0, none⟩ (.slice (some ⟨O, 0, none⟩) (allV F + 1) cO)).setCell ⟨cb, 1, none⟩ (.slice (some ⟨g, 0, none⟩) F.blk.n c)) := (q3.setCell (by show _ ≤ cb; omega) _).setCell (by show _ ≤ cb; omega) _
        have FIN := hid (vbox_of (cb := cb) fru frl OI.out hcO hgc fbc (by omega) (by omega))
        refine wpAnyH_ready (rs := [6]) (by kernel_rfl) (by simp) ?_
        refine AllReadyH.cons rfl (fun K hK => ?_) AllReadyH.nil
        go_simp
        refine hK.out _ _ s9 (fun _ => ?_)
        clear hK K
        replace hS := s9
        try simp only [Act.put, List.setIfInBounds_toArray, List.set_cons_zero, List.set_cons_succ]
        refine wpAnyH_done (by kernel_rfl) ?_ _
        refine NoPanic.normal ?_
        go_wp2_with fail
        go_meet
        case rel => exact ⟨cb, rfl, FIN.out, s9⟩
      · go_simp
        have hb2 : Below x1.heap.size x1 (x1.alloc (.cells #[.slice none 0 0, .slice none 0 0] 140)) := new (same _) _
        have BX := hid (show (∀ i, i < 2 → (x1.alloc (.cells #[.slice none 0 0, .slice none 0 0] 140)).cell? ⟨x1.heap.size, i, none⟩ = some (.slice none 0 0)) ∧ ∀ i, (x1.alloc (.cells #[.slice none 0 0, .slice none 0 0] 140)).frozen? ⟨x1.heap.size, i, none⟩ = false from ⟨fun i hi => new_cell x1 _ _ i _ (zero2 i hi), fun i => new_froz x1 _ _ i⟩)
        obtain ⟨x2, hx2⟩ : ∃ x, x1.alloc (.cells #[.slice none 0 0, .slice none 0 0] 140) = x := ⟨_, rfl⟩
        have cbz : x2.heap.size = x1.heap.size + 1 := by rw [← hx2]; simp
        obtain ⟨cb, hcb⟩ : ∃ cb, x1.heap.size = cb := ⟨_, rfl⟩
        rw [hx2] at hb2 BX ⊢
        rw [hcb] at BX cbz ⊢
        have q2 : Below w1.heap.size w1 x2 := View.more q1 (by rw [hcb] at hb2; rw [hcb]; exact hb2)
        clear hx2
        have hq2 := hb2.size
        refine hK.out _ _ q2 (fun _ => ?_)
        clear hK K
        replace hS := q2
        try simp only [Act.put, List.setIfInBounds_toArray, List.set_cons_zero, List.set_cons_succ]
        refine wpAnyH_ready (rs := [3]) (by kernel_rfl) (by simp) ?_
        refine AllReadyH.cons rfl (fun K hK => ?_) AllReadyH.nil
        go_simp
        refine (over_any F _ (HF.out.on (View.more B1.out q2)) HL.out HJ.out h0).mono ?_
        rintro e3 x3 ⟨g, c, ov, rfl, ro, oi, ⟨hgg, hgc⟩, hb3⟩
        have q3 : Below w1.heap.size w1 x3 := View.more q2 hb3
        have RL := hid ro
        have OI := hid oi
        have rll := ro.lt
        clear ro oi
        go_wp2_with fail
        have hq3 := hb3.size
        refine hK.out _ _ q3 (fun _ => ?_)
        clear hK K
        replace hS := q3
        try simp only [Act.put, List.setIfInBounds_toArray, List.set_cons_zero, List.set_cons_succ]
        refine Go.Proofs.Ytbmfimojhcdnbaa.Flo.takeAt (i := 4) (d := some 14) (v := ?vc2x4) rfl (by rfl) (by kernel_rfl) (by kernel_rfl) (by kernel_rfl) (fun _ _ _ h => h) (Or.inl ⟨by rfl, ?yc2x4⟩) hS ?_
        case yc2x4 => intro wx hSw; (go_simp) <;> with_reducible rfl
        simp only [Act.put, List.setIfInBounds_toArray, List.set_cons_zero, List.set_cons_succ]
        have fru := ((RU.out.on hb2).on hb3)
        have frl := RL.out
        have fbc : ∀ i, i < 2 → x3.cell? ⟨cb, i, none⟩ = some (.slice none 0 0) := fun i hi => (cell_on hb3 (BX.out.1 i hi))
        have fbz : ∀ i, x3.frozen? ⟨cb, i, none⟩ = false := fun i => by rw [hb3.frozen (show cb < _ by omega)]; exact BX.out.2 i
        have f0 := fbc 0 (by omega)
        have f1 := fbc 1 (by omega)
        have z0 := fbz 0
        have z1 := fbz 1
        have s9 : Below w1.heap.size w1 ((x3.setCell ⟨cb, 0, none⟩ (.slice (some ⟨O, 0, none⟩) (allV F + 1) cO)).setCell ⟨cb, 1, none⟩ (.slice (some ⟨g, 0, none⟩) F.blk.n c)) := (q3.setCell (by show _ ≤ cb; omega) _).setCell (by show _ ≤ cb; omega) _
        have FIN := hid (vbox_of (cb := cb) fru frl OI.out hcO hgc fbc (by omega) (by omega))
        refine wpAnyH_ready (rs := [6]) (by kernel_rfl) (by simp) ?_
        refine AllReadyH.cons rfl (fun K hK => ?_) AllReadyH.nil
        go_simp
        refine hK.out _ _ s9 (fun _ => ?_)
        clear hK K
        replace hS := s9
        try simp only [Act.put, List.setIfInBounds_toArray, List.set_cons_zero, List.set_cons_succ]
        refine wpAnyH_done (by kernel_rfl) ?_ _
        refine NoPanic.normal ?_
        go_wp2_with fail
        go_meet
        case rel => exact ⟨cb, rfl, FIN.out, s9⟩
    · go_simp
      have hb1 : Below x0.heap.size x0 (x0.alloc (.cells #[.slice none 0 0, .slice none 0 0] 140)) := new (same _) _
      have BX := hid (show (∀ i, i < 2 → (x0.alloc (.cells #[.slice none 0 0, .slice none 0 0] 140)).cell? ⟨x0.heap.size, i, none⟩ = some (.slice none 0 0)) ∧ ∀ i, (x0.alloc (.cells #[.slice none 0 0, .slice none 0 0] 140)).frozen? ⟨x0.heap.size, i, none⟩ = false from ⟨fun i hi => new_cell x0 _ _ i _ (zero2 i hi), fun i => new_froz x0 _ _ i⟩)
      obtain ⟨x1, hx1⟩ : ∃ x, x0.alloc (.cells #[.slice none 0 0, .slice none 0 0] 140) = x := ⟨_, rfl⟩
      have cbz : x1.heap.size = x0.heap.size + 1 := by rw [← hx1]; simp
      obtain ⟨cb, hcb⟩ : ∃ cb, x0.heap.size = cb := ⟨_, rfl⟩
      rw [hx1] at hb1 BX ⊢
      rw [hcb] at BX cbz ⊢
      have q1 : Below w1.heap.size w1 x1 := View.more q0 (by rw [hcb] at hb1; rw [hcb]; exact hb1)
      clear hx1
      have hq1 := hb1.size
      refine hK.out _ _ q1 (fun _ => ?_)
      clear hK K
      replace hS := q1
      try simp only [Act.put, List.setIfInBounds_toArray, List.set_cons_zero, List.set_cons_succ]
      refine wpAnyH_ready (rs := [1]) (by kernel_rfl) (by simp) ?_
      refine AllReadyH.cons rfl (fun K hK => ?_) AllReadyH.nil
      go_simp
      refine (HGI.out _ (HF.out.on (View.more B1.out q1))).mono ?_
      rintro e2 x2 ⟨O, cO, bl, pl, rfl, gvv, hcO, hgO, hb2⟩
      have q2 : Below w1.heap.size w1 x2 := View.more q1 hb2
      have RU := hid gvv
      have rul := gvv.lt
      clear gvv
      go_wp2_with fail
      have hq2 := hb2.size
      refine hK.out _ _ q2 (fun _ => ?_)
      clear hK K
      replace hS := q2
      try simp only [Act.put, List.setIfInBounds_toArray, List.set_cons_zero, List.set_cons_succ]
      refine wpAnyH_ready (rs := [3]) (by kernel_rfl) (by simp) ?_
      refine AllReadyH.cons rfl (fun K hK => ?_) AllReadyH.nil
      go_simp
      refine (over_any F _ (HF.out.on (View.more B1.out q2)) HL.out HJ.out h0).mono ?_
      rintro e3 x3 ⟨g, c, ov, rfl, ro, oi, ⟨hgg, hgc⟩, hb3⟩
      have q3 : Below w1.heap.size w1 x3 := View.more q2 hb3
      have RL := hid ro
      have OI := hid oi
      have rll := ro.lt
      clear ro oi
      go_wp2_with fail
      have hq3 := hb3.size
      refine hK.out _ _ q3 (fun _ => ?_)
      clear hK K
      replace hS := q3
      try simp only [Act.put, List.setIfInBounds_toArray, List.set_cons_zero, List.set_cons_succ]
      refine Go.Proofs.Ytbmfimojhcdnbaa.Flo.takeAt (i := 4) (d := some 14) (v := ?vc3x4) rfl (by rfl) (by kernel_rfl) (by kernel_rfl) (by kernel_rfl) (fun _ _ _ h => h) (Or.inl ⟨by rfl, ?yc3x4⟩) hS ?_
      case yc3x4 => intro wx hSw; (go_simp) <;> with_reducible rfl
      simp only [Act.put, List.setIfInBounds_toArray, List.set_cons_zero, List.set_cons_succ]
      have fru := (RU.out.on hb3)
      have frl := RL.out
      have fbc : ∀ i, i < 2 → x3.cell? ⟨cb, i, none⟩ = some (.slice none 0 0) := fun i hi => (cell_on hb3 ((cell_on hb2 (BX.out.1 i hi))))
      have fbz : ∀ i, x3.frozen? ⟨cb, i, none⟩ = false := fun i => by rw [hb3.frozen (show cb < _ by omega), hb2.frozen (show cb < _ by omega)]; exact BX.out.2 i
      have f0 := fbc 0 (by omega)
      have f1 := fbc 1 (by omega)
      have z0 := fbz 0
      have z1 := fbz 1
      have s9 : Below w1.heap.size w1 ((x3.setCell ⟨cb, 0, none⟩ (.slice (some ⟨O, 0, none⟩) (allV F + 1) cO)).setCell ⟨cb, 1, none⟩ (.slice (some ⟨g, 0, none⟩) F.blk.n c)) := (q3.setCell (by show _ ≤ cb; omega) _).setCell (by show _ ≤ cb; omega) _
      have FIN := hid (vbox_of (cb := cb) fru frl OI.out hcO hgc fbc (by omega) (by omega))
      refine wpAnyH_ready (rs := [6]) (by kernel_rfl) (by simp) ?_
      refine AllReadyH.cons rfl (fun K hK => ?_) AllReadyH.nil
      go_simp
      refine hK.out _ _ s9 (fun _ => ?_)
      clear hK K
      replace hS := s9
      try simp only [Act.put, List.setIfInBounds_toArray, List.set_cons_zero, List.set_cons_succ]
      refine wpAnyH_done (by kernel_rfl) ?_ _
      refine NoPanic.normal ?_
      go_wp2_with fail
      go_meet
      case rel => exact ⟨cb, rfl, FIN.out, s9⟩
  case rest =>
    obtain ⟨cb, rfl, hvb, hbl⟩ := hcut
    have BLC := hid (View.more B1.out hbl)
    have VB := hid hvb
    obtain ⟨W4, hW4⟩ : ∃ W4, W4 = wc := ⟨_, rfl⟩
    subst hW4
    obtain ⟨O, cO, g, c, bl, pl, ov, v0, v1, vg, vr, vo, vcO, vc⟩ := hvb
    obtain ⟨n, hn⟩ : ∃ n, allV F + 1 = n := ⟨_, rfl⟩
    rw [hn] at v0 vcO
    have VV := hid (And.intro v0 (And.intro v1 (And.intro vg (And.intro vr vo))))
    have HN := hid hn
    have f4 := (FW.out.on BLC.out).c4
    clear hbl v0 v1 vg vr vo A0 A1 A2 A3 A4 hn VB
    go_wp2_with fail
    clear f4
    go_loopw [18] (fun iv wr => ∃ b : Nat, b ≤ F.blk.n ∧ iv = .int .i64 b ∧ (∀ t, t < b → ∀ k, k < (F.B t).n → ArgsOk F t k (F.I t k)) ∧ Below W4.heap.size W4 wr) (fun iv _ => F.blk.n - (intOf iv).toNat)
    case atStart => exact ⟨0, Nat.zero_le _, rfl, fun t ht => by omega, same _⟩
    case round =>
      obtain ⟨b, hb0, rfl, hall, hb⟩ := hrel
      have HA := hid (And.intro hall hb)
      by_cases lb : b < F.blk.n
      · obtain ⟨rb, ro, hrx, hrc0⟩ := HF.out.blk.at lb
        have hrc := cell_on (View.more BLC.out hb) hrc0
        have gi := HL.out.ins b lb
        have L0 := hid (show Below W4.heap.size W4 (wr.alloc (.cells #[.slice (F.B b).a (F.B b).n (F.B b).c] 37)) from new HA.out.2 _)
        clear hall hb hrc0
        go_wp2_with fail
        clear hrc
        go_loopw [26] (fun iv wx => ∃ k : Nat, k ≤ (F.B b).n ∧ iv = .int .i64 k ∧ (∀ t, t < k → ArgsOk F b t (F.I b t)) ∧ Below W4.heap.size W4 wx) (fun iv _ => (F.B b).n - (intOf iv).toNat)
        case atStart => exact ⟨0, Nat.zero_le _, rfl, fun t ht => by omega, L0.out⟩
        case round =>
          obtain ⟨k, hk0, rfl, hall, hb⟩ := hrel
          have HK := hid (And.intro hall hb)
          by_cases lk : k < (F.B b).n
          · obtain ⟨ib, io, hiy, c0, c1, c2, c3, c4, c5, c6⟩ := ((HF.out.ins b lb).on (View.more BLC.out hb)).at lk
            have v0 := cell_on hb VV.out.1
            have v1 := cell_on hb VV.out.2.1
            have vz := World.block_lt_of_cell? _ _ v0
            clear hall hb
            go_wp2_with fail
            refine (argFault_any F b k L par O n cO g c bl pl ov _ (HF.out.on (View.more BLC.out (View.more HK.out.2 (new (same wr) _)))) HL.out HFO.out HFL.out lb lk (VV.out.2.2.1.on (View.more HK.out.2 (new (same wr) _))) HN.out.symm HGR.out (VV.out.2.2.2.1.on (View.more HK.out.2 (new (same wr) _))) VV.out.2.2.2.2 vc vcO).mono ?_
            rintro e w5 ⟨r, rfl, hr, hb⟩
            have B5 := hid (View.more (View.more HK.out.2 (new (same wr) _)) hb)
            have R := hid hr
            clear hr hb v0 v1 vz c0 c1 c2 c3 c4 c5 c6
            cases r with
            | true =>
              have HNO := hid (show ¬ UseF F from fun h => R.out.1 rfl (h.2 b lb k lk))
              go_wp2_with fail
              go_ret
              exact YES.out _ (View.more BLC.out B5.out) HNO.out
            | false =>
              have HP := hid (show ArgsOk F b k (F.I b k) by
                by_cases q : ArgsOk F b k (F.I b k)
                · exact q
                · exact absurd (R.out.2 q) (by simp))
              clear R
              go_wp2_with fail
              go_round
              case rel => exact ⟨k + 1, by omega, by go_num, upto1 HK.out.1 HP.out, B5.out⟩
              case measure => simp [intOf]; omega
          · obtain rfl : k = (F.B b).n := by omega
            clear hall hb
            go_wp2_with fail
            go_round
            case rel =>
              have f := upto1 (p := fun t => ∀ k, k < (F.B t).n → ArgsOk F t k (F.I t k)) HA.out.1 HK.out.1
              first
                | exact ⟨b + 1, by omega, by go_num, f, HK.out.2⟩
                | ((repeat apply Exists.intro); exact ⟨⟨b + 1, by omega, by go_num, f, HK.out.2⟩, rfl⟩)
            case measure => simp [intOf]; omega
      · obtain rfl : b = F.blk.n := by omega
        clear hall hb
        go_wp2_with fail
        go_ret
        exact ⟨false, rfl, ⟨fun h => absurd h (by simp), fun h => absurd ⟨P1.out, HA.out.1⟩ h⟩, View.more LW.out (View.more BLC.out HA.out.2)⟩

end Go.Proofs.Ytbmfimojhcdnbaa.Wf

/-
  wf: whether what is taken in a module is there; given: where values are given.
-/
namespace Go.Proofs.Ytbmfimojhcdnbaa.Wf
open Go.RowKit View Rd Num Opn Copy Srt Go.Proofs.Ytbmfimojhcdnbaa.Mod Go.Proofs.Ytbmfimojhcdnbaa.Chk Go.Proofs.Ytbmfimojhcdnbaa.Flo Go.Proofs.Ytbmfimojhcdnbaa.Dm

set_option linter.unusedVariables false

def UseM (M : MV) : Prop := ∀ i, i < M.fns.n → UseF (M.F i)

theorem useFault_any (M : MV) (w : World) (hM : InM w M) (hs : SmallM M) (hj : ∀ i, i < M.fns.n → Jng (M.F i)) (hf : FormM M) (hfl : FlowM M) (h0 : ∀ i, i < M.fns.n → 0 < (M.F i).blk.n) (hgi : ∀ i, i < M.fns.n → GivenKept (M.F i)) : Calls Try.prog 52 #[M.val] w fun e w' => Ans (fun r => r = true ↔ ¬ UseM M) w e w' := by
  have x4 := hs.fns
  obtain ⟨W, hW⟩ : ∃ W, w.alloc (.cells (mcells M) 27) = W := ⟨_, rfl⟩
  have b3 : W.cell? ⟨w.heap.size, 3, none⟩ = some (.slice M.fns.a M.fns.n M.fns.c) := by rw [← hW]; simp
  have HM := hid (show InM W M by rw [← hW]; exact hM.on (new (same w) _))
  have LW := hid (show Below w.heap.size w W by rw [← hW]; exact new (same w) _)
  have HS := hid hs
  have HJ := hid hj
  have HF := hid hf
  have HL := hid hfl
  have H0 := hid h0
  have HG := hid hgi
  clear hM hs hj hf hfl h0 hgi
  go_enter Try.func52, Try.ntmps52
  go_wp2_with fail
  clear hW
  refine (has_useF M.fns M.F (fun i => ¬ UseF (M.F i)) W (by omega) (fun wx h => (HM.out.on h).fns) (fun i hi wx h => funcUse_any (M.F i) wx ((HM.out.on h).fnI i hi) (HS.out.light i hi) (HJ.out i hi) (HF.out.fns i hi) (HL.out i hi) (H0.out i hi) (HG.out i hi))).mono ?_
  rintro e w1 ⟨r, rfl, hr, hb⟩
  have B1 := hid (View.more LW.out hb)
  have R := hid hr
  clear hr hb
  go_wp2_with fail
  go_ret
  exact ⟨r, rfl, R.out.trans ex_not, B1.out⟩

end Go.Proofs.Ytbmfimojhcdnbaa.Wf

/-
  wf: rows of two cells, copied.
-/
namespace Go.Proofs.Ytbmfimojhcdnbaa.Wf
open Go.RowKit View Rd Num Opn Copy Srt Go.Proofs.Ytbmfimojhcdnbaa.Mod Go.Proofs.Ytbmfimojhcdnbaa.Chk Go.Proofs.Ytbmfimojhcdnbaa.Flo Go.Proofs.Ytbmfimojhcdnbaa.Dm

set_option linter.unusedVariables false

theorem run_copy_rows {P : Program} (w : World) (dT sT ty elem : TypeId) (z g o dLen dCap : Nat) (a : Addr) (sLen sCap : Nat) (cur : Array Value) (t : TypeId) (cs : List Value)
    (hu : P.underlying dT = some (.slice elem)) (hs : (P.info? elem).map (·.size) = some z)
    (hg : w.heap[g]? = some (.cells cur t (0, 0))) (hn : cs.length = Nat.min sLen dLen * z)
    (hsrc : ∀ j v, cs[j]? = some v → w.cell? (a.add j) = some v) (hfit : o + cs.length ≤ cur.size) (h1 : ∀ v ∈ cs, v.oneCell' = true) :
    (Builtin.copy_ #[dT, sT] ty #[.slice (some ⟨g, o, none⟩) dLen dCap, .slice (some a) sLen sCap]).run P w =
      .ok (goInt (Nat.min sLen dLen)) (w.setRow g (cur.toList.take o ++ cs ++ cur.toList.drop (o + cs.length)).toArray) := by
  have hl := run_loadCells_list (P := P) w a cs hsrc
  have hst := run_storeCells_at P g o t cs 0 cur w hg (by simpa using hfit) h1
  cases hq : P.info? elem with
  | none => simp [hq] at hs
  | some i =>
    have hi : i.size = z := by simpa [hq] using hs
    simp [Builtin.copy_, run_underlying hu, Builtin.lenOf, Builtin.firstCells, sizeOf, typeInfo, hq, hi, ← hn, hl, hst]

/-- The first k places are (0, -1), the others (0, 0). -/
abbrev sps (k : Nat) : Nat → Value := fun i => .int .i64 (if i % 2 = 1 ∧ i < k * 2 then -1 else 0)

theorem splice_sps {c a k : Nat} (h : a + k ≤ c) : ∀ i, i < c * 2 → (((List.range (c * 2)).map (sps a)).take (a * 2) ++ (List.range (k * 2)).map (sps k) ++ ((List.range (c * 2)).map (sps a)).drop (a * 2 + k * 2))[i]? = some (sps (a + k) i) := by
  intro i hi
  by_cases h1 : i < a * 2
  · rw [List.append_assoc, List.getElem?_append_left (by simp; omega), List.getElem?_take_of_lt h1]
    simp [hi, sps, show i < a * 2 by omega, show i < (a + k) * 2 by omega]
  · by_cases h2 : i < a * 2 + k * 2
    · rw [List.getElem?_append_left (by simp; omega), List.getElem?_append_right (by simp; omega)]
      simp only [List.length_take, List.length_map, List.length_range]
      rw [Nat.min_eq_left (by omega)]
      simp [sps, show i - a * 2 < k * 2 by omega, show i < (a + k) * 2 by omega]
      have e : (i - a * 2) % 2 = i % 2 := by omega
      rw [e]
    · rw [List.getElem?_append_right (by simp; omega), List.getElem?_drop]
      simp only [List.length_append, List.length_take, List.length_map, List.length_range]
      rw [Nat.min_eq_left (by omega)]
      have e : a * 2 + k * 2 + (i - (a * 2 + k * 2)) = i := by omega
      rw [e]
      simp [hi, sps, show ¬ i < a * 2 by omega, show ¬ i < (a + k) * 2 by omega]

theorem copy_sps {w wr : World} {g c n K sL sc dc : Nat} {ad : Addr} (ln : n ≤ c) (hr : wr.rowIs g 143 (c * 2) (sps n)) (hb : Below w.heap.size w wr) (hgl : w.heap.size ≤ g) (hK : Nat.min sL (c - n) = K)
    (hsrc : ∀ j, j < K * 2 → wr.cell? (ad.add j) = some (sps K j)) :
    ∃ w4, (Builtin.copy_ #[137, 137] 3 #[.slice (some ⟨g, n * 2, none⟩) (c - n) dc, .slice (some ad) sL sc]).run Try.prog wr = .ok (.int .i64 K) w4 ∧ w4.rowIs g 143 (c * 2) (sps (n + K)) ∧ Below w.heap.size w w4 := by
  have hg := row_list hr
  have hcl : ((List.range (K * 2)).map (sps K)).length = K * 2 := by simp
  have hKc : n + K ≤ c := by have : K ≤ c - n := by rw [← hK]; exact Nat.min_le_right _ _
                             omega
  have hcp := run_copy_rows (P := Try.prog) wr 137 137 3 143 2 g (n * 2) (c - n) dc ad sL sc ((List.range (c * 2)).map (sps n)).toArray 143 ((List.range (K * 2)).map (sps K)) (by kernel_rfl) (by kernel_rfl) hg (by rw [hcl, hK]) (fun j v hv => by
    obtain ⟨h1, h2⟩ := List.getElem?_eq_some_iff.1 hv
    rw [hcl] at h1
    rw [hsrc j h1, ← h2]
    simp) (by simp; omega) (by intro v hv; obtain ⟨i, _, rfl⟩ := List.mem_map.1 hv; rfl)
  rw [hcl, hK] at hcp
  refine ⟨_, hcp, ?_, below_setRow hb hgl _⟩
  exact row_of_list (L := ((List.range (c * 2)).map (sps n)).take (n * 2) ++ (List.range (K * 2)).map (sps K) ++ ((List.range (c * 2)).map (sps n)).drop (n * 2 + K * 2)) (setRow_heap wr g _ _ 143 _ hg |>.trans (by simp)) (by simp; omega) (fun i hi => splice_sps hKc i hi)

theorem infoSpot : (Try.prog.info? 143).map (fun i => (i.zero, i.size, i.bytes)) = some (some (.agg #[.int .i64 0, .int .i64 0]), 2, 16) := by kernel_rfl

theorem cut_l2 {g c n : Nat} (h : n < c) : ∀ wx, (Instr.slice 137 (.slice (some ⟨g, 0, none⟩) c c) (some (.int .i64 n)) none none).run Try.prog wx = .ok (.slice (some ⟨g, n * 2, none⟩) (c - n) (c - n)) wx := by
  intro wx
  have hu : Try.prog.underlying 137 = some (.slice 143) := by kernel_rfl
  have he : Try.prog.elem 137 = 143 := by unfold Program.elem; rw [hu]
  obtain ⟨i, hi, hi'⟩ := Option.map_eq_some_iff.1 (show (Try.prog.info? 143).map (fun i => i.size) = some 2 by kernel_rfl)
  have hr := run_slice_l (P := Try.prog) wx 137 (some ⟨g, 0, none⟩) c c (by rw [he]; exact hu) .i64 n (by omega) (by omega)
  rw [he] at hr
  rw [hr]
  simp [sizeOf, typeInfo, hi, hi', sliced, Addr.add_lit]
  omega

theorem cut_h2 {g c n : Nat} {cap : Nat} (h : n ≤ cap) : ∀ wx, (Instr.slice 137 (.slice (some ⟨g, 0, none⟩) c cap) none (some (.int .i64 n)) none).run Try.prog wx = .ok (.slice (some ⟨g, 0, none⟩) n cap) wx := by
  intro wx
  have hu : Try.prog.underlying 137 = some (.slice 143) := by kernel_rfl
  have he : Try.prog.elem 137 = 143 := by unfold Program.elem; rw [hu]
  obtain ⟨i, hi, hi'⟩ := Option.map_eq_some_iff.1 (show (Try.prog.info? 143).map (fun i => i.size) = some 2 by kernel_rfl)
  have hr := run_slice_h (P := Try.prog) wx 137 (some ⟨g, 0, none⟩) c cap (by rw [he]; exact hu) .i64 n (by omega) (by omega)
  rw [he] at hr
  rw [hr]
  simp [sizeOf, typeInfo, hi, hi', sliced, Addr.add_lit]

theorem made_sps (n : Nat) : ∀ i, i < n * 2 → (madeCells #[.int .i64 0, .int .i64 0] (n * 2))[i]? = some (sps 0 i) := by
  intro i hi
  have h2 : i % 2 = 0 ∨ i % 2 = 1 := by omega
  rcases h2 with h2 | h2 <;> simp [madeCells, hi, sps, h2]

theorem rowIs_sps (w : World) (n : Nat) : (w.alloc (.cells (madeCells #[.int .i64 0, .int .i64 0] (n * 2)) 143)).rowIs w.heap.size 143 (n * 2) (sps 0) := by
  have := World.rowIs_alloc w (madeCells #[.int .i64 0, .int .i64 0] (n * 2)) 143 (sps 0) (by rw [size_madeCells]; exact made_sps n)
  rw [size_madeCells] at this
  exact this

set_option maxRecDepth 10000 in
set_option maxHeartbeats 2000000 in
theorem repeat_spot (x c : Nat) (hc : c ≤ 16) (h1 : 1 ≤ c) (w : World) (hx0 : w.cell? ⟨x, 0, none⟩ = some (.int .i64 0)) (hx1 : w.cell? ⟨x, 1, none⟩ = some (.int .i64 (-1))) : Calls Try.prog 138 #[.slice (some ⟨x, 0, none⟩) 1 1, .int .i64 c] w fun e w' => ∃ g, e = .returned (.slice (some ⟨g, 0, none⟩) c c) ∧ w'.rowIs g 143 (c * 2) (sps c) ∧ w.heap.size ≤ g ∧ Below w.heap.size w w' := by
  have hxl := World.block_lt_of_cell? _ _ hx0
  have HX := hid (And.intro hx0 hx1)
  obtain ⟨i0, hi, hz0, hz1, hz2⟩ := info_parts infoSpot
  have hmk := fun wx => run_make (P := Try.prog) wx 137 143 i0 _ (show Try.prog.underlying 137 = some (.slice 143) by kernel_rfl) hi hz0 .i64 .i64 (c : Int) (c : Int) (by omega) (by omega) (by rw [hz2]; omega) (by omega)
  have e1 : ((c : Int)).toNat = c := by omega
  simp only [e1, hz1] at hmk
  have t0 : decide ((c : Int) < 0) = false := by simp
  clear hx0 hx1 hi hz0 hz1 hz2 e1
  go_enter Try.func138, Try.ntmps138
  go_wp2_with fail
  refine (mul_any c (Nat.le_trans hc (by decide)) w).mono ?_
  rintro e w1 ⟨rfl, hb1⟩
  have z1 := hb1.size
  have B1 := hid hb1
  have X1 := hid (And.intro (cell_on hb1 HX.out.1) (cell_on hb1 HX.out.2))
  clear hb1 HX t0
  have t1 : decide ((9223372036854775807 : Int) < (c : Int)) = false := by simp; omega
  obtain ⟨W, hW⟩ : ∃ W, w1.alloc (.cells (madeCells #[.int .i64 0, .int .i64 0] (c * 2)) 143) = W := ⟨_, rfl⟩
  have RW := rowIs_sps w1 c
  rw [hW] at RW
  have BW := hid (show Below w.heap.size w W by rw [← hW]; exact new B1.out _)
  have X2 := hid (show W.cell? ⟨x, 0, none⟩ = some (.int .i64 0) ∧ W.cell? ⟨x, 1, none⟩ = some (.int .i64 (-1)) by
    have q : Below w1.heap.size w1 W := by rw [← hW]; exact new (same _) _
    exact ⟨cell_on q X1.out.1, cell_on q X1.out.2⟩)
  obtain ⟨g, hg⟩ : ∃ g, w1.heap.size = g := ⟨_, rfl⟩
  rw [hg] at RW
  obtain ⟨w2, hcp, hr2, hb2⟩ := copy_sps (w := w) (n := 0) (K := 1) (sL := 1) (sc := 1) (dc := c) (ad := ⟨x, 0, none⟩) (Nat.zero_le _) RW BW.out (by omega) (by simp only [Nat.sub_zero]; exact Nat.min_eq_left h1) (fun j hj => by
    have h2 : j = 0 ∨ j = 1 := by omega
    rcases h2 with rfl | rfl
    · rw [Addr.add_lit]; exact X2.out.1
    · rw [Addr.add_lit]; exact X2.out.2)
  simp only [Nat.zero_mul, Nat.sub_zero, Nat.zero_add] at hcp hr2
  have ST := hid (And.intro hr2 hb2)
  have hgl : w.heap.size ≤ g := by omega
  clear RW X1 X2 BW hr2 hb2
  go_wp2_with fail
  clear hmk hcp hW hg
  go_loopw [8] (fun nv wr => ∃ n : Nat, n ≤ c ∧ 1 ≤ n ∧ nv = .int .i64 n ∧ wr.rowIs g 143 (c * 2) (sps n) ∧ Below w.heap.size w wr) (fun nv _ => c - (intOf nv).toNat)
  case atStart => exact ⟨1, by omega, by omega, rfl, ST.out.1, ST.out.2⟩
  case round =>
    clear ST
    obtain ⟨n, hn, hn1, rfl, hr, hb⟩ := hrel
    have HS := hid (And.intro hr hb)
    by_cases ln : n < c
    · have q1 := cut_l2 (g := g) ln
      have q2 := cut_h2 (g := g) (c := c) hn
      obtain ⟨K, hK⟩ : ∃ K, Nat.min n (c - n) = K := ⟨_, rfl⟩
      have hKn : K ≤ n := by rw [← hK]; exact Nat.min_le_left _ _
      obtain ⟨w4, hcp, hr4, hb4⟩ := copy_sps (w := w) (wr := wr.drew) (n := n) (K := K) (sL := n) (sc := c) (dc := c - n) (ad := ⟨g, 0, none⟩) hn hr (Below.drew hb) hgl hK (fun j hj => by
        rw [Addr.add_lit]
        show wr.cell? ⟨g, 0 + j, none⟩ = _
        rw [Nat.zero_add, hr.cell (i := j) (by omega)]
        simp [sps, show j < n * 2 by omega, hj])
      have ST := hid (And.intro hr4 hb4)
      have hKc : K ≤ 16 ∧ n + K ≤ c ∧ 1 ≤ K := by
        have h2 : K = min n (c - n) := hK.symm
        omega
      obtain ⟨k1, k2, k3⟩ := hKc
      clear hr hb hr4 hb4 hK
      go_wp2_with fail
      go_region
      go_wp2_with fail
      go_round
      case rel => exact ⟨n + K, by omega, by omega, by go_num, ST.out.1, ST.out.2⟩
      case measure => simp [intOf]; omega
    · obtain rfl : n = c := by omega
      clear hr hb
      go_wp2_with fail
      go_ret
      exact ⟨g, rfl, HS.out.1, hgl, HS.out.2⟩

end Go.Proofs.Ytbmfimojhcdnbaa.Wf

/-
  wf: where values are given: wf.givenAt.
-/
namespace Go.Proofs.Ytbmfimojhcdnbaa.Wf
open Go.RowKit View Rd Num Opn Copy Srt Go.Proofs.Ytbmfimojhcdnbaa.Mod Go.Proofs.Ytbmfimojhcdnbaa.Chk Go.Proofs.Ytbmfimojhcdnbaa.Flo Go.Proofs.Ytbmfimojhcdnbaa.Dm

set_option linter.unusedVariables false

def flS (U : List (Int × Int)) : List Value := U.flatMap (fun u => [.int .i64 u.1, .int .i64 u.2])

theorem flS_snoc (U : List (Int × Int)) (u : Int × Int) : flS (U ++ [u]) = flS U ++ [.int .i64 u.1, .int .i64 u.2] := by simp [flS]
theorem flS_at : ∀ (U : List (Int × Int)) (v : Nat) (u : Int × Int), U[v]? = some u → (flS U)[v * 2]? = some (.int .i64 u.1) ∧ (flS U)[v * 2 + 1]? = some (.int .i64 u.2)
  | [], v, u, h => by simp at h
  | x :: U, 0, u, h => by simp at h; subst h; simp [flS]
  | x :: U, v + 1, u, h => by
    have ih := flS_at U v u (by simpa using h)
    have e : flS (x :: U) = .int .i64 x.1 :: .int .i64 x.2 :: flS U := by simp [flS]
    rw [e, show (v + 1) * 2 = v * 2 + 1 + 1 by omega]
    exact ⟨by simpa using ih.1, by simpa using ih.2⟩

/-- The spots gathered ahead of block b's instruction k. -/
structure Gath (F : FV) (U : List (Int × Int)) (b k : Nat) : Prop where
  len : U.length = lastOf F b + giv (F.I b) k + 1
  par : ∀ v, v ≤ F.par.n → U[v]? = some (0, -1)
  val : ∀ b' k', b' < F.blk.n → k' < (F.B b').n → (F.I b' k').ty ≠ 0 → Bef F b k b' k' → U[idx F b' k']? = some ((b' : Int), (k' : Int))

theorem gath_start (F : FV) : Gath F (List.replicate (F.par.n + 1) ((0 : Int), (-1 : Int))) 0 0 := by
  refine ⟨by simp [lastOf, cnt, giv], fun v hv => by rw [List.getElem?_replicate, if_pos (by omega)], fun b' k' _ _ _ h => by rcases h with h | ⟨_, h⟩ <;> omega⟩

theorem gath_next {F : FV} {U : List (Int × Int)} {b : Nat} (h : Gath F U b (F.B b).n) : Gath F U (b + 1) 0 := by
  refine ⟨by rw [h.len, lastOf_next]; simp [giv], h.par, fun b' k' h1 h2 h3 h4 => h.val b' k' h1 h2 h3 ?_⟩
  rcases h4 with h4 | ⟨_, h4⟩
  · by_cases e : b' = b
    · subst e; exact .inr ⟨rfl, h2⟩
    · exact .inl (by omega)
  · omega

theorem gath_skip {F : FV} {U : List (Int × Int)} {b k : Nat} (h : Gath F U b k) (ht : (F.I b k).ty = 0) : Gath F U b (k + 1) := by
  refine ⟨by rw [h.len, giv]; simp [ht], h.par, fun b' k' h1 h2 h3 h4 => h.val b' k' h1 h2 h3 ?_⟩
  rcases h4 with h4 | ⟨rfl, h4⟩
  · exact .inl h4
  · by_cases e : k' = k
    · subst e; exact absurd ht h3
    · exact .inr ⟨rfl, by omega⟩

theorem gath_add {F : FV} {U : List (Int × Int)} {b k : Nat} (h : Gath F U b k) (ht : (F.I b k).ty ≠ 0) : Gath F (U ++ [((b : Int), (k : Int))]) b (k + 1) := by
  refine ⟨by rw [List.length_append, h.len, giv]; simp [ht]; omega, fun v hv => ?_, fun b' k' h1 h2 h3 h4 => ?_⟩
  · rw [List.getElem?_append_left (by have := h.len; have := lastOf_par F b; omega)]; exact h.par v hv
  · have old : Bef F b k b' k' → (U ++ [((b : Int), (k : Int))])[idx F b' k']? = some ((b' : Int), (k' : Int)) := fun q => by
      have e := h.val b' k' h1 h2 h3 q
      rw [List.getElem?_append_left (List.getElem?_eq_some_iff.1 e).1]; exact e
    rcases h4 with h4 | ⟨rfl, h4⟩
    · exact old (.inl h4)
    · by_cases e : k' = k
      · subst e
        rw [List.getElem?_append_right (by rw [h.len, idx_eq F ht]; omega), h.len, idx_eq F ht]
        simp
      · exact old (.inr ⟨rfl, by omega⟩)

theorem owns_sps {w : World} {g c base : Nat} (h : w.rowIs g 143 (c * 2) (sps c)) (hb : base ≤ g) (hc : c ≤ 16) : w.ownsRow base 143 2 (.slice (some ⟨g, 0, none⟩) c c) c (flS (List.replicate c ((0 : Int), (-1 : Int)))) := by
  have e : (List.range (c * 2)).map (sps c) = flS (List.replicate c ((0 : Int), (-1 : Int))) := by
    apply List.ext_getElem?
    intro i
    have hl : (flS (List.replicate c ((0 : Int), (-1 : Int)))).length = c * 2 := by simp [flS, List.length_flatMap]
    by_cases hi : i < c * 2
    · obtain ⟨v, hv⟩ : ∃ v, v = i / 2 := ⟨_, rfl⟩
      have q := flS_at (List.replicate c ((0 : Int), (-1 : Int))) v (0, -1) (by rw [List.getElem?_replicate, if_pos (by omega)])
      have h2 : i = v * 2 ∨ i = v * 2 + 1 := by omega
      rcases h2 with rfl | rfl
      · rw [q.1]; simp [hi, sps]
      · rw [q.2]; simp [hi, sps]
    · rw [List.getElem?_eq_none (by simp; omega), List.getElem?_eq_none (by rw [hl]; omega)]
  have hg := row_list h
  rw [e] at hg
  have hl : (flS (List.replicate c ((0 : Int), (-1 : Int)))).length = c * 2 := by rw [← e]; simp
  exact ⟨hl, .inr ⟨g, c, _, rfl, hb, hg, Nat.le_refl _, by unfold maxLen; omega, by simpa using hl, by simp [← hl]⟩⟩

theorem given_of {F : FV} {w w0 : World} {v : Value} {U : List (Int × Int)} (h : Gath F U F.blk.n 0) (ho : w.ownsRow w0.heap.size 143 2 v U.length (flS U)) (hb : Below w0.heap.size w0 w) : GivenIs F w0 (.returned v) w := by
  have hl : U.length = allV F + 1 := by rw [h.len, lastOf_all]; simp [giv]
  have hh := ho
  rcases ho.2 with ⟨rfl, e⟩ | ⟨g, cap, cur, rfl, q1, q2, q3, q4⟩
  · omega
  · refine ⟨g, cap, fun x => (U.getD x (0, 0)).1, fun x => (U.getD x (0, 0)).2, by rw [hl], ⟨fun x hx => ?_, fun x hx => ?_, fun x hx => ?_, fun b' k' h1 h2 h3 => ?_⟩, by omega, q1, hb⟩
    · have e : U[x]? = some (U.getD x (0, 0)) := by simp [List.getD, show x < U.length by omega]
      have := hh.cellAt (g := g) (x * 2) (by omega)
      rw [this, (flS_at U x _ e).1]
    · have e : U[x]? = some (U.getD x (0, 0)) := by simp [List.getD, show x < U.length by omega]
      have := hh.cellAt (g := g) (x * 2 + 1) (by omega)
      rw [this, (flS_at U x _ e).2]
    · have e := h.par x hx
      simp [List.getD, e]
    · have e := h.val b' k' h1 h2 h3 (.inl h1)
      simp [List.getD, e]

end Go.Proofs.Ytbmfimojhcdnbaa.Wf

/-
  wf: wf.givenAt.
-/
namespace Go.Proofs.Ytbmfimojhcdnbaa.Wf
open Go.RowKit View Rd Num Opn Copy Srt Go.Proofs.Ytbmfimojhcdnbaa.Mod Go.Proofs.Ytbmfimojhcdnbaa.Chk Go.Proofs.Ytbmfimojhcdnbaa.Flo Go.Proofs.Ytbmfimojhcdnbaa.Dm

set_option linter.unusedVariables false

theorem append_spot {ops : Array Oper} {rest : List Oper} {o : Oper} {a : Act} {Q : Exit → Act → World → Prop} {w : World} (hgd : o.guard = none) (s x : Operand)
    (ho : o.op = .call { callee := .builtin .append, args := #[s, x], argTypes := #[137, 137] })
    (base : Nat) (v : Value) (n : Nat) (xs : List Value) (hs : a.eval s = v) (y z : Int) (hown : w.ownsRow base 143 2 v n xs)
    (hx : a.eval x = .slice (some ⟨w.heap.size, 0, none⟩) 1 1)
    (hsm : n ≤ 1000000) (hbase : base ≤ w.heap.size)
    (h : ∀ v' w', w'.ownsRow base 143 2 v' (n + 1) (xs ++ [.int .i64 y, .int .i64 z]) → (w.alloc (.cells #[.int .i64 y, .int .i64 z] 143)).grownBy w' v.ownBlock → wpList Try.prog ops Q rest (a.put o.dst v') w') : wpList Try.prog ops Q (o :: rest) a (w.alloc (.cells #[.int .i64 y, .int .i64 z] 143)) := by
  obtain ⟨i0, hi, hz0, hz1, hz2⟩ := info_parts infoSpot
  refine wpList_append_own_at _ hgd s x 137 ho base 143 i0 (.agg #[.int .i64 0, .int .i64 0]) 2 16 (by kernel_rfl) hi hz0 hz1 hz2 rfl (by decide) v _ _ hs (hown.alloc _) ⟨w.heap.size, 0, none⟩ 1 1 [.int .i64 y, .int .i64 z] hx rfl (cell_two_new _ _ _ _) (by intro u hu; simp at hu; rcases hu with rfl | rfl <;> rfl) (by simp only [maxLen]; omega) (by omega) (by simp; omega) ?_
  intro v' w' h1 h2 _ h4
  exact h v' w' h1 h2

set_option maxRecDepth 10000 in
set_option maxHeartbeats 4000000 in
theorem givenAt_any (F : FV) (hl : Light F) : GivenKept F := by
  intro w hF
  have gb := hl.blk
  have gp := hl.par
  have gv := allV_le hl
  obtain ⟨W, hW⟩ : ∃ W, w.alloc (.cells (fcells F) 33) = W := ⟨_, rfl⟩
  have FW := hid (show FuncAt W w.heap.size F by rw [← hW]; exact FuncAt.alloc w F)
  have HF := hid (show In W F by rw [← hW]; exact hF.on (new (same w) _))
  have LW := hid (show Below w.heap.size w W by rw [← hW]; exact new (same w) _)
  have HL := hid hl
  have sW : W.heap.size = w.heap.size + 1 := by rw [← hW]; simp
  obtain ⟨W1, hW1⟩ : ∃ W1, W.alloc (.cells #[.int .i64 0, .int .i64 (-1)] 143) = W1 := ⟨_, rfl⟩
  have L1 := hid (show Below W.heap.size W W1 by rw [← hW1]; exact new (same _) _)
  have X1 := hid (show W1.cell? ⟨w.heap.size + 1, 0, none⟩ = some (.int .i64 0) ∧ W1.cell? ⟨w.heap.size + 1, 1, none⟩ = some (.int .i64 (-1)) by rw [← sW, ← hW1]; exact ⟨by simp, by simp⟩)
  have f2 := cell_on L1.out FW.out.c2
  obtain ⟨P, hP⟩ : ∃ P, F.par.n + 1 = P := ⟨_, rfl⟩
  have hP16 : P ≤ 16 := by omega
  have hP1 : 1 ≤ P := by omega
  have q1 : IntKind.i64.wrap ((F.par.n : Int) + 1) = (P : Int) := by simp only [IntKind.wrap_i64]; omega
  have q2 : wrap64 ((F.par.n : Int) + 1) = (P : Int) := by unfold wrap64; omega
  have HP := hid hP
  clear hF hl hP
  go_enter Try.func122, Try.ntmps122
  go_wp2_with fail
  refine (repeat_spot (w.heap.size + 1) P hP16 hP1 W1 X1.out.1 X1.out.2).mono ?_
  rintro e w2 ⟨g, rfl, hr, hg, hb⟩
  have hz1 := L1.out.size
  have O2 := hid (owns_sps (base := W.heap.size) hr (by omega) hP16)
  have B2 := hid (View.more L1.out hb)
  have f4 := (FW.out.on B2.out).c4
  have G2 := hid (show Gath F (List.replicate P ((0 : Int), (-1 : Int))) 0 0 by rw [← HP.out]; exact gath_start F)
  clear hr hg hb f2 q1 q2 hW hW1 X1 hz1
  go_wp2_with fail
  clear f4
  go_loopw [3, 18] (fun nv iv wr => ∃ (j : Nat) (U : List (Int × Int)), j ≤ F.blk.n ∧ iv = .int .i64 j ∧ Gath F U j 0 ∧ wr.ownsRow W.heap.size 143 2 nv U.length (flS U) ∧ Below W.heap.size W wr) (fun _ iv _ => F.blk.n - (intOf iv).toNat)
  case atStart => exact ⟨0, _, Nat.zero_le _, rfl, G2.out, by simpa using O2.out, B2.out⟩
  case round =>
    clear O2 B2 G2
    obtain ⟨j, U, hj, rfl, hga, hown, hb⟩ := hrel
    have HA := hid (And.intro hga (And.intro hown hb))
    by_cases lj : j < F.blk.n
    · obtain ⟨rb, ro, hrx, hrc0⟩ := HF.out.blk.at lj
      have hrc := cell_on hb hrc0
      have gi := HL.out.ins j lj
      have hLa : lastOf F j ≤ allV F := by rw [← lastOf_all]; exact lastOf_mono F hj
      have L0 := hid (show Below W.heap.size W (wr.alloc (.cells #[.slice (F.B j).a (F.B j).n (F.B j).c] 37)) from new HA.out.2.2 _)
      have O0 := hid (HA.out.2.1.alloc (.cells #[.slice (F.B j).a (F.B j).n (F.B j).c] 37))
      clear hga hown hb hrc0
      go_wp2_with fail
      clear hrc
      go_loopw [3, 26] (fun nv iv wx => ∃ (k : Nat) (U : List (Int × Int)), k ≤ (F.B j).n ∧ iv = .int .i64 k ∧ Gath F U j k ∧ wx.ownsRow W.heap.size 143 2 nv U.length (flS U) ∧ Below W.heap.size W wx) (fun _ iv _ => (F.B j).n - (intOf iv).toNat)
      case atStart => exact ⟨0, U, Nat.zero_le _, rfl, HA.out.1, O0.out, L0.out⟩
      case round =>
        clear O0 L0 HA
        obtain ⟨k, U, hk, rfl, hga, hown, hb⟩ := hrel
        have HK := hid (And.intro hga (And.intro hown hb))
        by_cases lk : k < (F.B j).n
        · obtain ⟨ib, io, hiy, c0, c1, c2, c3, c4, c5, c6⟩ := ((HF.out.ins j lj).on hb).at lk
          have hgk := giv_le (F.I j) k
          have hUl : U.length ≤ 20000 := by have := hga.len; omega
          have hsz := hb.size
          clear hga hown hb
          have OX := hid (HK.out.2.1.alloc (.cells (F.I j k).cells 39))
          have LX := hid (show Below W.heap.size W (wr.alloc (.cells (F.I j k).cells 39)) from new HK.out.2.2 _)
          by_cases hty : (F.I j k).ty = 0
          · have t1 : ((F.I j k).ty != 0) = false := by simp [hty]
            have HG := hid (gath_skip HK.out.1 hty)
            clear hty hgk
            go_wp2_with fail
            go_round
            case rel =>
              first
                | exact ⟨k + 1, U, by omega, by go_num, HG.out, OX.out, LX.out⟩
                | ((repeat apply Exists.intro); exact ⟨⟨k + 1, U, by omega, by go_num, HG.out, OX.out, LX.out⟩, rfl⟩)
            case measure => simp [intOf]; omega
          · have t1 : ((F.I j k).ty != 0) = true := by simp [hty]
            have HG := hid (gath_add HK.out.1 hty)
            clear hty hgk
            go_wp2_with (at_builtin; refine append_spot rfl (.tmp 34) (.tmp 38) rfl W.heap.size _ U.length (flS U) rfl (j : Int) (k : Int) OX.out (by rw [World.size_alloc]; rfl) (by omega) (by simp; omega) ?_; intro v6 w6 o6 g6; have O6 := hid (And.intro o6 g6); clear o6 g6)
            go_round
            case rel =>
              have o7 : w6.ownsRow W.heap.size 143 2 v6 (U ++ [((j : Int), (k : Int))]).length (flS (U ++ [((j : Int), (k : Int))])) := by
                rw [flS_snoc, List.length_append]; exact O6.out.1
              have b7 : Below W.heap.size W w6 := (new LX.out _).grown O6.out.2 (by simp; omega) (fun q hq => (OX.out.lt q hq).1)
              first
                | exact ⟨k + 1, _, by omega, by go_num, HG.out, o7, b7⟩
                | ((repeat apply Exists.intro); exact ⟨⟨k + 1, _, by omega, by go_num, HG.out, o7, b7⟩, rfl⟩)
            case measure => simp [intOf]; omega
        · obtain rfl : k = (F.B j).n := by omega
          have HG := hid (gath_next hga)
          clear hga hown hb
          go_wp2_with fail
          go_round
          case rel =>
            first
              | exact ⟨j + 1, U, by omega, by go_num, HG.out, HK.out.2.1, HK.out.2.2⟩
              | ((repeat apply Exists.intro); exact ⟨⟨j + 1, U, by omega, by go_num, HG.out, HK.out.2.1, HK.out.2.2⟩, rfl⟩)
          case measure => simp [intOf]; omega
    · obtain rfl : j = F.blk.n := by omega
      clear hga hown hb
      go_wp2_with fail
      go_ret
      exact given_of (w0 := w) HA.out.1 ⟨HA.out.2.1.1, HA.out.2.1.2.imp id (fun ⟨g, cap, cur, e, q1, r⟩ => ⟨g, cap, cur, e, by omega, r⟩)⟩ (View.more LW.out HA.out.2.2)

theorem useFault_all (M : MV) (w : World) (hM : InM w M) (hs : SmallM M) (hj : ∀ i, i < M.fns.n → Jng (M.F i)) (hf : FormM M) (hfl : FlowM M) (h0 : ∀ i, i < M.fns.n → 0 < (M.F i).blk.n) : Calls Try.prog 52 #[M.val] w fun e w' => Ans (fun r => r = true ↔ ¬ UseM M) w e w' :=
  useFault_any M w hM hs hj hf hfl h0 (fun i hi => givenAt_any _ (hs.light i hi))

end Go.Proofs.Ytbmfimojhcdnbaa.Wf

/-
  wf: whether an Ins gives and takes those types.
-/
namespace Go.Proofs.Ytbmfimojhcdnbaa.Wf
open Go.RowKit View Rd Num Opn Copy Srt Go.Proofs.Ytbmfimojhcdnbaa.Mod Go.Proofs.Ytbmfimojhcdnbaa.Chk

set_option linter.unusedVariables false

/-- An Ins beside the types of its function's values. -/
abbrev tval (v : IV) (s : Sl) : Value := .agg #[.int .i64 v.op, .int .i64 v.ty, .int .i64 v.to, .int .i64 v.sym, .int .i64 v.num, .slice v.args.a v.args.n v.args.c, .slice v.into.a v.into.n v.into.c, .slice s.a s.n s.c]

/-- It gives that type and takes just values of those types. -/
def IsT (v : IV) (got : Nat → Int) (gives : Int) (n : Nat) (g : Nat → Int) : Prop := v.ty = gives ∧ v.args.n = n ∧ ∀ i, i < n → got i = g i

set_option maxHeartbeats 1000000 in
theorem eqf_any (s t : Sl) (f g T : Nat → Int) (c : Addr) (w : World) (hn : s.n ≤ 20) (hs : ∀ wx, Below w.heap.size w wx → Ints wx s f) (ht : ∀ wx, Below w.heap.size w wx → Ints wx t g)
    (hc : ∀ k, k < s.n → ∀ wx, Below w.heap.size w wx → Calls Try.prog 144 #[.int .i64 (f k), .int .i64 (g k), .pointer (some c)] wx fun e w' => Ans (fun r => r = true ↔ T k = g k) wx e w') :
    Calls Try.prog 143 #[.slice s.a s.n s.c, .slice t.a t.n t.c, .func (.func 144) #[] #[.pointer (some c)]] w fun e w' => Ans (fun r => r = true ↔ s.n = t.n ∧ ∀ i, i < t.n → T i = g i) w e w' := by
  by_cases h : s.n = t.n
  · have hn' : ((s.n : Int) != (t.n : Int)) = false := by simp [h]
    have HN := hid h
    clear h
    go_enter Try.func143, Try.ntmps143
    go_wp2_with fail
    go_loopw [17] (fun iv wr => ∃ k : Nat, k ≤ s.n ∧ iv = .int .i64 k ∧ (∀ i, i < k → T i = g i) ∧ Below w.heap.size w wr) (fun iv _ => s.n - (intOf iv).toNat)
    case atStart => exact ⟨0, Nat.zero_le _, rfl, fun i hi => by omega, same w⟩
    case round =>
      obtain ⟨k, hk, rfl, hall, hb⟩ := hrel
      have HA := hid (And.intro hall hb)
      by_cases lk : k < s.n
      · have lk' : k < t.n := by have := HN.out; omega
        obtain ⟨b1, o1, hx1, hc1⟩ := (hs wr hb).at lk
        obtain ⟨b2, o2, hx2, hc2⟩ := (ht wr hb).at lk'
        clear hall hb
        go_wp2_with fail
        refine (hc k lk _ HA.out.2).mono ?_
        rintro e w2 ⟨r, rfl, hr, hb2⟩
        have HR := hid hr
        have B2 := hid (View.more HA.out.2 hb2)
        clear hr hb2 hc1 hc2
        cases r with
        | false =>
          have D := hid (show ¬ (s.n = t.n ∧ ∀ i, i < t.n → T i = g i) from fun h => by have := HR.out.2 (h.2 k lk'); cases this)
          go_wp2_with fail
          go_ret
          exact ⟨false, rfl, ⟨fun h => (by cases h), fun h => absurd h D.out⟩, B2.out⟩
        | true =>
          have P := hid (HR.out.1 rfl)
          go_wp2_with fail
          go_round
          case rel => exact ⟨k + 1, by omega, by go_num, upto1 HA.out.1 P.out, B2.out⟩
          case measure => simp [intOf]; omega
      · obtain rfl : k = s.n := by omega
        clear hall hb
        go_wp2_with fail
        go_ret
        exact ⟨true, rfl, ⟨fun _ => ⟨HN.out, fun i hi => HA.out.1 i (by have := HN.out; omega)⟩, fun _ => rfl⟩, HA.out.2⟩
  · have hn' : ((s.n : Int) != (t.n : Int)) = true := by simp; omega
    have HN := hid h
    clear h
    go_enter Try.func143, Try.ntmps143
    go_wp2_with fail
    go_ret
    exact ⟨false, rfl, ⟨fun h => (by cases h), fun h => absurd h.1 HN.out⟩, same w⟩

theorem isc_any (c : Nat) (s : Sl) (T : Nat → Int) (x y : Int) (w : World) (h0 : 0 ≤ x) (h1 : x < s.n) (hc : w.cell? ⟨c, 7, none⟩ = some (.slice s.a s.n s.c)) (hT : Ints w s T) :
    Calls Try.prog 144 #[.int .i64 x, .int .i64 y, .pointer (some ⟨c, 0, none⟩)] w fun e w' => Ans (fun r => r = true ↔ T x.toNat = y) w e w' := by
  obtain ⟨a, rfl⟩ : ∃ a : Nat, x = a := ⟨x.toNat, by omega⟩
  have la : a < s.n := by omega
  obtain ⟨tb, to_, htx, htc⟩ := hT.at la
  clear hT h0 h1
  by_cases h : T a = y
  · have t1 : (T a == y) = true := by simpa using h
    have HT := hid h
    clear h
    go_enter Try.func144, Try.ntmps144
    go_wp2_with fail
    go_ret
    exact ⟨true, rfl, ⟨fun _ => by simpa using HT.out, fun _ => rfl⟩, same w⟩
  · have t1 : (T a == y) = false := by simpa using h
    have HT := hid h
    clear h
    go_enter Try.func144, Try.ntmps144
    go_wp2_with fail
    go_ret
    exact ⟨false, rfl, ⟨fun h => (by cases h), fun h => absurd (by simpa using h) HT.out⟩, same w⟩

set_option maxHeartbeats 1000000 in
theorem is_any (v : IV) (s t : Sl) (A T g : Nat → Int) (gives : Int) (w : World) (hA : Ints w v.args A) (hT : Ints w s T) (ht : Ints w t g) (hr : ∀ i, i < v.args.n → 0 ≤ A i ∧ A i < s.n) (h20 : v.args.n ≤ 20) :
    Calls Try.prog 125 #[tval v s, .int .i64 gives, .slice t.a t.n t.c] w fun e w' => Ans (fun r => r = true ↔ IsT v (fun i => T (A i).toNat) gives t.n g) w e w' := by
  obtain ⟨W, hW⟩ : ∃ W, w.alloc (.cells #[.int .i64 v.op, .int .i64 v.ty, .int .i64 v.to, .int .i64 v.sym, .int .i64 v.num, .slice v.args.a v.args.n v.args.c, .slice v.into.a v.into.n v.into.c, .slice s.a s.n s.c] 118) = W := ⟨_, rfl⟩
  have LW := hid (show Below w.heap.size w W by rw [← hW]; exact new (same w) _)
  have X := hid (show W.cell? ⟨w.heap.size, 1, none⟩ = some (.int .i64 v.ty) ∧ W.cell? ⟨w.heap.size, 5, none⟩ = some (.slice v.args.a v.args.n v.args.c) ∧ W.cell? ⟨w.heap.size, 7, none⟩ = some (.slice s.a s.n s.c) by rw [← hW]; exact ⟨by simp, by simp, by simp⟩)
  obtain ⟨x1, x5, x7⟩ := X.out
  have IA := hid (hA.on LW.out)
  have IT := hid (hT.on LW.out)
  have Ig := hid (ht.on LW.out)
  have HR := hid hr
  clear hA hT ht hr
  by_cases h : v.ty = gives
  · have t1 : (v.ty == gives) = true := by simpa using h
    have HT := hid h
    clear h
    go_enter Try.func125, Try.ntmps125
    go_wp2_with (go_at_call 143; refine (eqf_any v.args t A g (fun i => T (A i).toNat) ⟨w.heap.size, 0, none⟩ W h20 (fun wx h => IA.out.on h) (fun wx h => Ig.out.on h) (fun k hk wx h => isc_any w.heap.size s T (A k) (g k) wx (HR.out k hk).1 (HR.out k hk).2 (cell_on h X.out.2.2) (IT.out.on h))).mono ?_; rintro e w1 ⟨r, rfl, hr, hb⟩; have H := hid hr; have B := hid hb; clear hr hb)
    go_ret
    exact ⟨r, rfl, H.out.trans ⟨fun h => ⟨HT.out, h⟩, fun h => h.2⟩, View.more LW.out B.out⟩
  · have t1 : (v.ty == gives) = false := by simpa using h
    have HT := hid h
    clear h
    go_enter Try.func125, Try.ntmps125
    go_wp2_with fail
    go_ret
    exact ⟨false, rfl, ⟨fun h => (by cases h), fun h => absurd h.1 HT.out⟩, LW.out⟩

end Go.Proofs.Ytbmfimojhcdnbaa.Wf

/-
  What an Op asks of types, Op by Op.
-/
namespace Go.Proofs.Ytbmfimojhcdnbaa.Chk
open Go.RowKit View Rd Num Opn Copy Go.Proofs.Ytbmfimojhcdnbaa.Mod

set_option linter.unusedVariables false

theorem fi_1 {M : MV} {F : FV} {v : IV} {gn : Nat} {g : Nat → Int} (h : v.op = 1) : FitI M F v gn g ↔ (v.ty = 1 ∨ v.ty = 2 ∧ (v.num = 0 ∨ v.num = 1)) := by
  unfold FitI
  simp only [h]
  exact Iff.rfl

theorem fi_2 {M : MV} {F : FV} {v : IV} {gn : Nat} {g : Nat → Int} (h : v.op = 2) : FitI M F v gn g ↔ (v.ty = 4) := by
  unfold FitI
  simp only [h]
  exact Iff.rfl

theorem fi_3 {M : MV} {F : FV} {v : IV} {gn : Nat} {g : Nat → Int} (h : v.op = 3) : FitI M F v gn g ↔ (v.ty = 3) := by
  unfold FitI
  simp only [h]
  exact Iff.rfl

theorem fi_4 {M : MV} {F : FV} {v : IV} {gn : Nat} {g : Nat → Int} (h : v.op = 4) : FitI M F v gn g ↔ (v.ty = 1 ∧ g 0 = 1 ∧ g 1 = 1) := by
  unfold FitI
  simp only [h]
  exact Iff.rfl

theorem fi_5 {M : MV} {F : FV} {v : IV} {gn : Nat} {g : Nat → Int} (h : v.op = 5) : FitI M F v gn g ↔ (v.ty = 1 ∧ g 0 = 1 ∧ g 1 = 1) := by
  unfold FitI
  simp only [h]
  exact Iff.rfl

theorem fi_6 {M : MV} {F : FV} {v : IV} {gn : Nat} {g : Nat → Int} (h : v.op = 6) : FitI M F v gn g ↔ (v.ty = 1 ∧ g 0 = 1 ∧ g 1 = 1) := by
  unfold FitI
  simp only [h]
  exact Iff.rfl

theorem fi_7 {M : MV} {F : FV} {v : IV} {gn : Nat} {g : Nat → Int} (h : v.op = 7) : FitI M F v gn g ↔ (v.ty = 1 ∧ g 0 = 1 ∧ g 1 = 1) := by
  unfold FitI
  simp only [h]
  exact Iff.rfl

theorem fi_8 {M : MV} {F : FV} {v : IV} {gn : Nat} {g : Nat → Int} (h : v.op = 8) : FitI M F v gn g ↔ (v.ty = 1 ∧ g 0 = 1 ∧ g 1 = 1) := by
  unfold FitI
  simp only [h]
  exact Iff.rfl

theorem fi_9 {M : MV} {F : FV} {v : IV} {gn : Nat} {g : Nat → Int} (h : v.op = 9) : FitI M F v gn g ↔ (v.ty = 1 ∧ g 0 = 1 ∧ g 1 = 1) := by
  unfold FitI
  simp only [h]
  exact Iff.rfl

theorem fi_10 {M : MV} {F : FV} {v : IV} {gn : Nat} {g : Nat → Int} (h : v.op = 10) : FitI M F v gn g ↔ (v.ty = 1 ∧ g 0 = 1 ∧ g 1 = 1) := by
  unfold FitI
  simp only [h]
  exact Iff.rfl

theorem fi_11 {M : MV} {F : FV} {v : IV} {gn : Nat} {g : Nat → Int} (h : v.op = 11) : FitI M F v gn g ↔ (v.ty = 1 ∧ g 0 = 1 ∧ g 1 = 1) := by
  unfold FitI
  simp only [h]
  exact Iff.rfl

theorem fi_12 {M : MV} {F : FV} {v : IV} {gn : Nat} {g : Nat → Int} (h : v.op = 12) : FitI M F v gn g ↔ (v.ty = 1 ∧ g 0 = 1 ∧ g 1 = 1) := by
  unfold FitI
  simp only [h]
  exact Iff.rfl

theorem fi_13 {M : MV} {F : FV} {v : IV} {gn : Nat} {g : Nat → Int} (h : v.op = 13) : FitI M F v gn g ↔ (v.ty = 1 ∧ g 0 = 1 ∧ g 1 = 1) := by
  unfold FitI
  simp only [h]
  exact Iff.rfl

theorem fi_14 {M : MV} {F : FV} {v : IV} {gn : Nat} {g : Nat → Int} (h : v.op = 14) : FitI M F v gn g ↔ (v.ty = 2 ∧ g 0 = 1 ∧ g 1 = 1) := by
  unfold FitI
  simp only [h]
  exact Iff.rfl

theorem fi_15 {M : MV} {F : FV} {v : IV} {gn : Nat} {g : Nat → Int} (h : v.op = 15) : FitI M F v gn g ↔ (v.ty = 2 ∧ g 0 = 1 ∧ g 1 = 1) := by
  unfold FitI
  simp only [h]
  exact Iff.rfl

theorem fi_16 {M : MV} {F : FV} {v : IV} {gn : Nat} {g : Nat → Int} (h : v.op = 16) : FitI M F v gn g ↔ (v.ty = 2 ∧ g 0 = 2) := by
  unfold FitI
  simp only [h]
  exact Iff.rfl

theorem fi_17 {M : MV} {F : FV} {v : IV} {gn : Nat} {g : Nat → Int} (h : v.op = 17) : FitI M F v gn g ↔ (g 0 = 2 ∧ g 1 = v.ty ∧ g 2 = v.ty) := by
  unfold FitI
  simp only [h]
  exact Iff.rfl

theorem fi_18 {M : MV} {F : FV} {v : IV} {gn : Nat} {g : Nat → Int} (h : v.op = 18) : FitI M F v gn g ↔ (v.ty = 3) := by
  unfold FitI
  simp only [h]
  exact Iff.rfl

theorem fi_19 {M : MV} {F : FV} {v : IV} {gn : Nat} {g : Nat → Int} (h : v.op = 19) : FitI M F v gn g ↔ (v.ty = 3 ∧ g 0 = 3 ∧ g 1 = 1) := by
  unfold FitI
  simp only [h]
  exact Iff.rfl

theorem fi_20 {M : MV} {F : FV} {v : IV} {gn : Nat} {g : Nat → Int} (h : v.op = 20) : FitI M F v gn g ↔ (v.ty = 1 ∧ g 0 = 3) := by
  unfold FitI
  simp only [h]
  exact Iff.rfl

theorem fi_21 {M : MV} {F : FV} {v : IV} {gn : Nat} {g : Nat → Int} (h : v.op = 21) : FitI M F v gn g ↔ (g 0 = 3 ∧ g 1 = 1) := by
  unfold FitI
  simp only [h]
  exact Iff.rfl

theorem fi_22 {M : MV} {F : FV} {v : IV} {gn : Nat} {g : Nat → Int} (h : v.op = 22) : FitI M F v gn g ↔ (((M.F v.sym.toNat).par.n = gn ∧ ∀ i, i < gn → g i = (M.F v.sym.toNat).P i) ∧ v.ty = (M.F v.sym.toNat).res) := by
  unfold FitI
  simp only [h]
  exact Iff.rfl

theorem fi_23 {M : MV} {F : FV} {v : IV} {gn : Nat} {g : Nat → Int} (h : v.op = 23) : FitI M F v gn g ↔ (((M.E v.sym.toNat).par.n = gn ∧ ∀ i, i < gn → g i = M.EP v.sym.toNat i) ∧ v.ty = (M.E v.sym.toNat).res) := by
  unfold FitI
  simp only [h]
  exact Iff.rfl

theorem fi_24 {M : MV} {F : FV} {v : IV} {gn : Nat} {g : Nat → Int} (h : v.op = 24) : FitI M F v gn g ↔ (v.ty = 4 ∧ g 0 = 1) := by
  unfold FitI
  simp only [h]
  exact Iff.rfl

theorem fi_25 {M : MV} {F : FV} {v : IV} {gn : Nat} {g : Nat → Int} (h : v.op = 25) : FitI M F v gn g ↔ (g 0 = 4 ∧ v.ty ≠ 3) := by
  unfold FitI
  simp only [h]
  exact Iff.rfl

theorem fi_26 {M : MV} {F : FV} {v : IV} {gn : Nat} {g : Nat → Int} (h : v.op = 26) : FitI M F v gn g ↔ (∀ i, i < gn → g i = v.ty) := by
  unfold FitI
  simp only [h]
  exact Iff.rfl

theorem fi_27 {M : MV} {F : FV} {v : IV} {gn : Nat} {g : Nat → Int} (h : v.op = 27) : FitI M F v gn g ↔ (True) := by
  unfold FitI
  simp only [h]
  exact Iff.rfl

theorem fi_28 {M : MV} {F : FV} {v : IV} {gn : Nat} {g : Nat → Int} (h : v.op = 28) : FitI M F v gn g ↔ (g 0 = 2) := by
  unfold FitI
  simp only [h]
  exact Iff.rfl

theorem fi_29 {M : MV} {F : FV} {v : IV} {gn : Nat} {g : Nat → Int} (h : v.op = 29) : FitI M F v gn g ↔ (if F.res = 0 then gn = 0 else gn = 1 ∧ g 0 = F.res) := by
  unfold FitI
  simp only [h]
  exact Iff.rfl

theorem fi_30 {M : MV} {F : FV} {v : IV} {gn : Nat} {g : Nat → Int} (h : v.op = 30) : FitI M F v gn g ↔ (True) := by
  unfold FitI
  simp only [h]
  exact Iff.rfl

end Go.Proofs.Ytbmfimojhcdnbaa.Chk
