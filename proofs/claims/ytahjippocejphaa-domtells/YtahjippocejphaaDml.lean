/-
  By the document: plnref3.Over, walked.
-/
import Derived.Test.YtahjippocejphaaDmk
namespace Go.Proofs.Ytahjippocejphaa.Dm
open Go.RowKit View Rd Copy Num Ty Srt Go.Proofs.Ytahjippocejphaa.Flo Go.Proofs.Ytahjippocejphaa.Lt

set_option linter.unusedVariables false

/-- A row of numbers, and what it is. -/
def OverRef (F : FV) (w : World) (e : Ending) (w' : World) : Prop := ∃ (g : Nat) (ov : Nat → Int), e = .returned (.slice (some ⟨g, 0, none⟩) F.blk.n F.blk.n) ∧ Ro w' g F.blk.n ov ∧ OverIs F ov ∧ w.heap.size ≤ g ∧ Below w.heap.size w w'

/-- Told up to block k. -/
def OvK (F : FV) (ov : Nat → Int) (k : Nat) : Prop := ∀ b, b < k → LowK F b F.blk.n (ov b)

theorem overIs_of {F : FV} (hl : Light F) {ov : Nat → Int} (h : OvK F ov F.blk.n) : OverIs F ov := by
  refine ⟨fun b hb hb0 hw => ?_, fun b hb hx => ?_⟩
  · obtain ⟨L, par, hgr⟩ := gro_ex hl (by omega)
    exact ((h b hb).fin hgr (by omega)).1 hb0 hw
  · obtain ⟨L, par, hgr⟩ := gro_ex hl (by omega)
    exact ((h b hb).fin hgr (by omega)).2 hx

set_option maxRecDepth 10000 in
set_option maxHeartbeats 4000000 in
theorem over_ref (F : FV) (w : World) (hF : In w F) (hl : Light F) : Calls Try.prog 29 #[F.val] w fun e w' => OverRef F w e w' := by
  have HF := hid hF
  have HL := hid hl
  have gb := hl.blk
  have hmk := run_make_row' (P := Try.prog) 30 3 (.int .i64 0) 8 underlying30 info3 rfl .i64 .i64 F.blk.n (by omega) (by omega)
  clear hF hl
  go_enter Try.func29, Try.ntmps29
  go_wp2_with fail
  clear hmk
  obtain ⟨w1, hw1⟩ : ∃ w1, (w.alloc (.cells (fcells F) 33)).alloc (.cells (madeCells #[.int .i64 0] F.blk.n) 3) = w1 := ⟨_, rfl⟩
  obtain ⟨O, hO⟩ : ∃ O, w.heap.size + 1 = O := ⟨_, rfl⟩
  have B1 := hid (show Below w.heap.size w w1 by rw [← hw1]; exact new (new (same w) _) _)
  have RO1 := hid (show Ro w1 O F.blk.n (fun _ => 0) by
    rw [← hw1, ← hO]
    have := World.rowIs_made (w.alloc (.cells (fcells F) 33)) (.int .i64 0) F.blk.n 3
    simp only [World.size_alloc] at this
    exact Ro.of_row this)
  rw [hw1, hO]
  clear hw1
  refine (doms_ref F _ (HF.out.on B1.out) HL.out).mono ?_
  rintro e w2 ⟨Q, R, D, rfl, hsq, hD, hb2⟩
  have B2 := hid (View.more B1.out hb2)
  have SQ := hid hsq
  have HD := hid hD
  have RO2 := hid (RO1.out.on hb2)
  have ol := RO1.out.lt
  have QG := hid (show ∀ i, i < F.blk.n → w1.heap.size ≤ R i from hsq.ge)
  have sq0 : Hid (∀ wx : World, (∀ k, k ≠ O → k < w2.heap.size → wx.heap[k]? = w2.heap[k]?) → Q ≠ O → Sq wx Q w1.heap.size F.blk.n F.blk.n R D) := fun wx h hQ => SQ.out.keep (fun b hb => by
    rcases hb with rfl | ⟨i, hi, rfl⟩
    · exact h _ hQ SQ.out.row.lt
    · exact h _ (by have := QG.out i hi; omega) (SQ.out.rows i hi).lt)
  clear hsq hD hb2
  have QO := hid (show 0 < F.blk.n → Q ≠ O from fun h0 e => by
    have q1 := SQ.out.row.cell h0
    have q2 := RO2.out.cell 0 h0
    rw [e, q2] at q1
    rw [if_pos h0] at q1
    cases q1)
  go_wp2_with fail
  go_loopw [5] (fun iv wr => ∃ (b : Nat) (ov : Nat → Int), b ≤ F.blk.n ∧ iv = .int .i64 b ∧ Ro wr O F.blk.n ov ∧ OvK F ov b ∧ (∀ k, k ≠ O → k < w2.heap.size → wr.heap[k]? = w2.heap[k]?) ∧ Below w.heap.size w wr) (fun iv _ => F.blk.n - (intOf iv).toNat)
  case atStart => exact ⟨0, _, Nat.zero_le _, rfl, RO2.out, fun b hb => by omega, fun _ _ _ => rfl, B2.out⟩
  case round =>
    obtain ⟨b, ov, hb, rfl, hro, hok, hfr, hbl⟩ := hrel
    have HS := hid (And.intro hro (And.intro hok (And.intro hfr hbl)))
    by_cases lb : b < F.blk.n
    · have i1 := int_at (g := O) (c := F.blk.n) lb
      have p1 := hro.cell b lb
      have z1 := hro.fz b
      have hQO := QO.out (by omega)
      obtain ⟨L, par, hgr⟩ := gro_ex HL.out (by omega)
      have GR := hid hgr
      have ST := hid (show Ro (wr.setCell ⟨O, b, none⟩ (.int .i64 (-1))) O F.blk.n (fun i => if i = b then -1 else ov i) ∧ LowK F b 0 (-1) ∧ (∀ k, k ≠ O → k < w2.heap.size → (wr.setCell ⟨O, b, none⟩ (.int .i64 (-1))).heap[k]? = w2.heap[k]?) ∧ Below w.heap.size w (wr.setCell ⟨O, b, none⟩ (.int .i64 (-1))) from ⟨hro.set lb (-1), .inl ⟨rfl, fun d hd => by omega⟩, fun k h1 h2 => by rw [Below.heap_setCell _ _ _ _ h1]; exact hfr k h1 h2, hbl.setCell (by show _ ≤ O; omega) _⟩)
      clear hro hok hfr hbl hgr
      go_wp2_with fail
      go_loopw [6] (fun iv wx => ∃ (k : Nat) (cv : Int), k ≤ F.blk.n ∧ iv = .int .i64 k ∧ Ro wx O F.blk.n (fun i => if i = b then cv else ov i) ∧ LowK F b k cv ∧ (∀ k, k ≠ O → k < w2.heap.size → wx.heap[k]? = w2.heap[k]?) ∧ Below w.heap.size w wx) (fun iv _ => F.blk.n - (intOf iv).toNat)
      case atStart => exact ⟨0, -1, Nat.zero_le _, rfl, ST.out.1, ST.out.2.1, ST.out.2.2.1, ST.out.2.2.2⟩
      case round =>
        clear ST p1 z1
        obtain ⟨k, cv, hk, rfl, hro, hlow, hfr, hbl⟩ := hrel
        have IS := hid (And.intro hro (And.intro hlow (And.intro hfr hbl)))
        by_cases lk : k < F.blk.n
        · have sq := sq0.out wr hfr hQO
          have p1 := hro.cell b lb
          rw [if_pos rfl] at p1
          have z1 := hro.fz b
          have i2 := rows_at (g := Q) lk
          have p2 := sq.row.cell lk
          rw [if_pos lk] at p2
          have i3 := bool_at (g := R k) lb
          have p3 := (sq.rows k lk).cell lb
          have DK := hid (HD.out k lk b lb)
          have SQW := hid sq
          clear hro hlow hfr hbl sq
          by_cases hkb : k = b
          · have t1 : ((k : Int) == (b : Int)) = true := by simp [hkb]
            have HK := hid hkb
            clear hkb
            go_wp2_with fail
            go_round
            case rel => exact ⟨k + 1, cv, by omega, by go_num, IS.out.1, IS.out.2.1.skip (.inl HK.out), IS.out.2.2.1, IS.out.2.2.2⟩
            case measure => simp [intOf]; omega
          have t1 : ((k : Int) == (b : Int)) = false := by simp; omega
          cases hd : D k b with
          | false =>
            rw [hd] at p3
            have HN := hid (show ¬ DomR F k b from fun h => by have := DK.out.2 h; rw [hd] at this; cases this)
            clear hd
            go_wp2_with fail
            go_round
            case rel => exact ⟨k + 1, cv, by omega, by go_num, IS.out.1, IS.out.2.1.skip (.inr HN.out), IS.out.2.2.1, IS.out.2.2.2⟩
            case measure => simp [intOf]; omega
          | true =>
          rw [hd] at p3
          have HY := hid (DK.out.1 hd)
          clear hd
          have FIN := hid (show ∀ (h : LowK F b (k + 1) (k : Int)), ∃ (k' : Nat) (cv : Int), k' ≤ F.blk.n ∧ Value.int .i64 ((k : Int) + 1) = .int .i64 k' ∧ Ro (wr.setCell ⟨O, b, none⟩ (.int .i64 k)) O F.blk.n (fun i => if i = b then cv else ov i) ∧ LowK F b k' cv ∧ (∀ r, r ≠ O → r < w2.heap.size → (wr.setCell ⟨O, b, none⟩ (.int .i64 k)).heap[r]? = w2.heap[r]?) ∧ Below w.heap.size w (wr.setCell ⟨O, b, none⟩ (.int .i64 k)) from fun h => ⟨k + 1, k, by omega, by go_num, (IS.out.1.set lb k).congr (fun i _ => by by_cases e : i = b <;> simp [e]), h, fun q h1 h2 => by rw [Below.heap_setCell _ _ _ _ h1]; exact IS.out.2.2.1 q h1 h2, IS.out.2.2.2.setCell (by show _ ≤ O; omega) _⟩)
          by_cases hc : cv < 0
          · have t2 : decide (cv < 0) = true := by simpa using hc
            have hc1 : cv = -1 := by
              rcases IS.out.2.1 with ⟨h, _⟩ | ⟨x, h, _⟩
              · exact h
              · omega
            have F1 := hid (FIN.out (IS.out.2.1.take GR.out lk hkb HY.out (.inl hc1)))
            clear hc1
            go_wp2_with fail
            go_round
            case rel => exact F1.out
            case measure => simp [intOf]; omega
          have t2 : decide (cv < 0) = false := by simpa using hc
          obtain ⟨x, hx, hxn⟩ : ∃ x : Nat, cv = x ∧ x < F.blk.n := by
            rcases IS.out.2.1 with ⟨h, _⟩ | ⟨x, h, h2, _⟩
            · omega
            · exact ⟨x, h, h2⟩
          subst hx
          have i4 := rows_at (g := Q) hxn
          have p4 := SQW.out.row.cell hxn
          rw [if_pos hxn] at p4
          have i5 := bool_at (g := R x) lk
          have p5 := (SQW.out.rows x hxn).cell lk
          have DX := hid (HD.out x hxn k lk)
          cases hd : D x k with
          | false =>
            rw [hd] at p5
            have HN := hid (show ¬ DomR F x k from fun h => by have := DX.out.2 h; rw [hd] at this; cases this)
            clear hd
            go_wp2_with fail
            go_round
            case rel => exact ⟨k + 1, x, by omega, by go_num, IS.out.1, IS.out.2.1.stay GR.out HY.out HN.out, IS.out.2.2.1, IS.out.2.2.2⟩
            case measure => simp [intOf]; omega
          | true =>
            rw [hd] at p5
            have F1 := hid (FIN.out (IS.out.2.1.take GR.out lk hkb HY.out (.inr ⟨x, rfl, DX.out.1 hd⟩)))
            clear hd
            go_wp2_with fail
            go_round
            case rel => exact F1.out
            case measure => simp [intOf]; omega
        · obtain rfl : k = F.blk.n := by omega
          clear hro hlow hfr hbl
          go_wp2_with fail
          have FIN := hid (show ∃ (b' : Nat) (ov' : Nat → Int), b' ≤ F.blk.n ∧ Value.int .i64 ((b : Int) + 1) = .int .i64 b' ∧ Ro wr O F.blk.n ov' ∧ OvK F ov' b' ∧ (∀ k, k ≠ O → k < w2.heap.size → wr.heap[k]? = w2.heap[k]?) ∧ Below w.heap.size w wr from ⟨b + 1, _, by omega, by go_num, IS.out.1, fun d hd => by
            by_cases e : d = b
            · subst e; simp only [if_true]; exact IS.out.2.1
            · simp only [if_neg e]; exact HS.out.2.1 d (by omega), IS.out.2.2.1, IS.out.2.2.2⟩)
          go_round
          case rel =>
            first
              | exact FIN.out
              | ((repeat apply Exists.intro); exact ⟨FIN.out, rfl⟩)
          case measure => simp [intOf]; omega
    · obtain rfl : b = F.blk.n := by omega
      clear hro hok hfr hbl
      go_wp2_with fail
      go_ret
      exact ⟨O, ov, rfl, HS.out.1, overIs_of HL.out HS.out.2.1, by omega, HS.out.2.2.2⟩

end Go.Proofs.Ytahjippocejphaa.Dm
