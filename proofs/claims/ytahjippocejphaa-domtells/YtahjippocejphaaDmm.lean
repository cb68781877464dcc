/-
  dom.Under: of each block those whose nearest one it is.
-/
import Derived.Test.YtahjippocejphaaDmi
namespace Go.Proofs.Ytahjippocejphaa.Dm
open Go.RowKit View Rd Copy Num Ty Srt Go.Proofs.Ytahjippocejphaa.Flo Go.Proofs.Ytahjippocejphaa.Lt

set_option linter.unusedVariables false

/-- Of the first k blocks those whose Over is a. -/
def undL (ov : Nat → Int) (k a : Nat) : List Nat := (List.range k).filter (fun b => decide (ov b = (a : Int)))

theorem undL_next (ov : Nat → Int) (k a : Nat) : undL ov (k + 1) a = undL ov k a ++ if ov k = (a : Int) then [k] else [] := by
  unfold undL
  rw [List.range_succ, List.filter_append]
  by_cases h : ov k = (a : Int) <;> simp [h]

theorem undL_le (ov : Nat → Int) (k a : Nat) : (undL ov k a).length ≤ k := by
  unfold undL
  have := List.length_filter_le (fun b => decide (ov b = (a : Int))) (List.range k)
  simpa using this

theorem overIs_cases {F : FV} {ov : Nat → Int} (h : OverIs F ov) {k : Nat} (hk : k < F.blk.n) : ov k = -1 ∨ ∃ a : Nat, a < F.blk.n ∧ ov k = a := by
  by_cases h0 : k = 0
  · exact .inl (h.none k hk (.inl h0))
  · by_cases hw : Go.Proofs.Ytahjippocejphaa.Flo.Way (su F) 0 k
    · obtain ⟨a, h1, h2, _⟩ := h.some k hk h0 hw
      exact .inr ⟨a, h1, h2⟩
    · exact .inl (h.none k hk (.inr hw))

/-- What Under hands back. -/
def UnderGives (F : FV) (w : World) (e : Ending) (w' : World) : Prop := ∃ (M : Nat) (R : Nat → Sl) (ov : Nat → Int), e = .returned (.slice (some ⟨M, 0, none⟩) F.blk.n F.blk.n) ∧ Pv w' M F.blk.n R (undL ov F.blk.n) ∧ OverIs F ov ∧ w.heap.size ≤ M ∧ Below w.heap.size w w'

set_option maxRecDepth 10000 in
set_option maxHeartbeats 2000000 in
theorem under_any (F : FV) (w : World) (hF : In w F) (hl : Light F) (hj : Jng F) (h0 : 0 < F.blk.n) : Calls Try.prog 31 #[F.val] w fun e w' => UnderGives F w e w' := by
  have HF := hid hF
  have HL := hid hl
  have HJ := hid hj
  have gb := hl.blk
  have hmk := run_make_row' (P := Try.prog) 56 30 (.slice none 0 0) 24 underlying56 info30 rfl .i64 .i64 F.blk.n (by omega) (by omega)
  clear hF hl hj
  go_enter Try.func31, Try.ntmps31
  go_wp2_with fail
  clear hmk
  obtain ⟨w1, hw1⟩ : ∃ w1, (w.alloc (.cells (fcells F) 33)).alloc (.cells (madeCells #[.slice none 0 0] F.blk.n) 30) = w1 := ⟨_, rfl⟩
  obtain ⟨M, hM⟩ : ∃ M, w.heap.size + 1 = M := ⟨_, rfl⟩
  have B1 := hid (show Below w.heap.size w w1 by rw [← hw1]; exact new (new (same w) _) _)
  have P1 := hid (show Pv w1 M F.blk.n (fun _ => ⟨none, 0, 0⟩) (fun _ => []) by
    rw [← hw1, ← hM]
    refine ⟨?_, fun i hi => by simp; exact World.ownsRow_nil _ _ _ _, fun i j _ _ _ g h => by simp [Value.ownBlock] at h⟩
    have := World.rowIs_made (w.alloc (.cells (fcells F) 33)) (.slice none 0 0) F.blk.n 30
    simpa using this)
  have FA1 := hid (show FuncAt w1 w.heap.size F by rw [← hw1]; exact (FuncAt.alloc w F).on (new (same _) _))
  have Z1 := hid (show w1.heap.size = w.heap.size + 2 by rw [← hw1]; simp)
  simp only [hw1, hM]
  clear hw1
  obtain ⟨c0, c1, c2, c3, c4⟩ := FA1.out
  go_wp2_with fail
  refine (over_any F _ (HF.out.on B1.out) HL.out HJ.out h0).mono ?_
  rintro e w2 ⟨go, co, ov, rfl, hro, hov, hgo, hb2⟩
  have RO := hid hro
  have OV := hid hov
  have P2 := hid (P1.out.on hb2)
  have B2 := hid (View.more B1.out hb2)
  have gol := hro.lt
  have z1 := Z1.out
  have z2 := hb2.size
  clear hro hov hb2 c0 c1 c2 c3 c4
  go_wp2_with fail
  go_loopw [13] (fun iv wr => ∃ (k : Nat) (R : Nat → Sl), k ≤ F.blk.n ∧ iv = .int .i64 k ∧ Pv wr M F.blk.n R (undL ov k) ∧ (∀ i, i < F.blk.n → ∀ g, (Sl.val (R i)).ownBlock = some g → w2.heap.size ≤ g) ∧ Ro wr go F.blk.n ov ∧ w2.heap.size ≤ wr.heap.size ∧ Below w.heap.size w wr) (fun iv _ => F.blk.n - (intOf iv).toNat)
  case atStart => exact ⟨0, _, Nat.zero_le _, rfl, P2.out.congr (fun i _ => by simp [undL]), fun i _ g h => by simp [Value.ownBlock] at h, RO.out, Nat.le_refl _, B2.out⟩
  case round =>
    clear P2 RO B2 P1 FA1
    obtain ⟨k, R, hk, rfl, hp, hfar, hro, hsz, hbl⟩ := hrel
    have HS := hid (And.intro hp (And.intro hfar (And.intro hro hbl)))
    by_cases lk : k < F.blk.n
    · have i1 := int_at (g := go) (c := co) lk
      have p1 := hro.cell k lk
      rcases overIs_cases OV.out lk with hm | ⟨a, han, ha⟩
      · rw [hm] at p1
        have HM := hid hm
        clear hp hfar hro hbl hm
        go_wp2_with fail
        go_round
        case rel => exact ⟨k + 1, R, by omega, by go_num, HS.out.1.congr (fun i _ => by rw [undL_next, HM.out, if_neg (by omega)]; simp), HS.out.2.1, HS.out.2.2.1, hsz, HS.out.2.2.2⟩
        case measure => simp [intOf]; omega
      · rw [ha] at p1
        have HA := hid ha
        have i2 := row_at (M := M) han
        have p2 := hp.row.cell han
        have z2' := hp.row.frozen a
        have hml := hp.row.lt
        have hul := undL_le ov k a
        clear hp hfar hro hbl ha
        go_wp2_with (at_builtin; refine append_at rfl (.tmp 25) (.tmp 27) rfl (M + 1) (Sl.val (R a)) (ints (undL ov k a)) rfl k (HS.out.1.own a han) rfl (by simp; omega) (by omega) ?_; intro v2 w3 hown2 hgr2 hat2; obtain ⟨s2, rfl⟩ := owns_sl hown2; have hkM : w3.heap[M]? = (wr.alloc (.cells #[.int .i64 k] 3)).heap[M]? := hgr2.block _ (by simp; omega) (fun e => by have := ((HS.out.1.own a han).lt _ e.symm).1; omega); have hr2 : w3.rowIs M 30 F.blk.n (fun i => Sl.val (R i)) := World.rowIs.of_block (World.rowIs.alloc HS.out.1.row (.cells #[.int .i64 k] 3)) hkM; have hrc2 := hr2.cell han; have hrf2 := hr2.frozen a; have OW := hid (And.intro hown2 (And.intro hgr2 hat2)); clear hown2 hgr2 hat2 hkM hr2)
        have hz3 := OW.out.2.1.size
        simp only [World.size_alloc] at hz3
        go_round
        case rel =>
          obtain ⟨o1, o2, o3⟩ := OW.out
          have hP := HS.out.1.step han o1 o2 o3
          have hk3 : ∀ q, q < wr.heap.size → some q ≠ (Sl.val (R a)).ownBlock → w3.heap[q]? = wr.heap[q]? := fun q h1 h2 => by rw [o2.block q (by simp; omega) h2, Below.heap_alloc _ _ _ h1]
          refine ⟨k + 1, _, by omega, by go_num, hP.congr (fun i _ => ?_), fun i hi g hg => ?_, ?_, by simp; omega, ((new HS.out.2.2.2 _).grown o2 (by simp; have := HS.out.2.2.2.size; omega) (fun q hq => by have := ((HS.out.1.own a han).lt q hq).1; omega)).setCell (by show _ ≤ M; omega) _⟩
          · rw [undL_next, HA.out]
            by_cases e : i = a
            · subst e; simp
            · rw [if_neg e, if_neg (by omega)]; simp
          · by_cases e : i = a
            · simp only [if_pos e] at hg
              rcases o3 with h | h
              · rw [h] at hg; exact HS.out.2.1 a han g hg
              · rw [h] at hg; have := Option.some.inj hg; omega
            · simp only [if_neg e] at hg; exact HS.out.2.1 i hi g hg
          · refine (HS.out.2.2.1.at_block (hk3 go (by omega) (fun e => by have := HS.out.2.1 a han go e.symm; omega))).setOther (by show go ≠ M; omega) _
        case measure => simp [intOf]; omega
    · obtain rfl : k = F.blk.n := by omega
      clear hp hfar hro hbl
      go_wp2_with fail
      go_ret
      exact ⟨M, R, ov, rfl, HS.out.1, OV.out, by omega, HS.out.2.2.2⟩

end Go.Proofs.Ytahjippocejphaa.Dm
