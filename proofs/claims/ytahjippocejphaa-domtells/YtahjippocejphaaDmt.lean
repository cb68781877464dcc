/-
  By the document: plnref3.Front, walked.
-/
import Derived.Test.YtahjippocejphaaDms
import Derived.Test.YtahjippocejphaaDmq
import Derived.Test.YtahjippocejphaaDmr
namespace Go.Proofs.Ytahjippocejphaa.Dm
open Go.RowKit View Rd Copy Num Ty Srt Go.Proofs.Ytahjippocejphaa.Flo Go.Proofs.Ytahjippocejphaa.Lt

set_option linter.unusedVariables false

theorem FSt.drewN {F : FV} {M : Nat} {w w4 wr : World} {R : Nat → Sl} {Lf : Nat → List Nat} (h : FSt F M w w4 wr R Lf) (q : Nat) : FSt F M w w4 (wr.drewN q) R Lf :=
  have b := below_drewN' wr q
  ⟨h.1.on b, h.2.1, ⟨Nat.le_trans h.2.2.1.size b.size, fun i hi => by rw [b.block i (by have := h.2.2.1.size; have := hi.1; omega)]; exact h.2.2.1.block i hi⟩, View.more h.2.2.2 b⟩

set_option maxRecDepth 10000 in
set_option maxHeartbeats 20000000 in
theorem front_ref (F : FV) (w : World) (hF : In w F) (hl : Light F) : Calls Try.prog 34 #[F.val] w fun e w' => FrontGives F w e w' := by
  have HF := hid hF
  have HL := hid hl
  have gb := hl.blk
  have hmk := run_make_row' (P := Try.prog) 56 30 (.slice none 0 0) 24 underlying56 info30 rfl .i64 .i64 F.blk.n (by omega) (by omega)
  clear hF hl
  go_enter Try.func34, Try.ntmps34
  go_wp2_with fail
  clear hmk
  obtain ⟨w1, hw1⟩ : ∃ w1, (w.alloc (.cells (fcells F) 33)).alloc (.cells (madeCells #[.slice none 0 0] F.blk.n) 30) = w1 := ⟨_, rfl⟩
  obtain ⟨M, hM⟩ : ∃ M, w.heap.size + 1 = M := ⟨_, rfl⟩
  have B1 := hid (show Below w.heap.size w w1 by rw [← hw1]; exact new (new (same w) _) _)
  have P1 := hid (show Pv w1 M F.blk.n (fun _ => ⟨none, 0, 0⟩) (fun _ => []) by
    rw [← hw1, ← hM]
    refine ⟨?_, fun i hi => by simp; exact World.ownsRow_nil _ _ _ _, fun i j _ _ _ g h => by simp [Value.ownBlock] at h⟩
    have := World.rowIs_made (w.alloc (.cells (fcells F) 33)) (.slice none 0 0) F.blk.n 30
    simpa using this)
  have FA1 := hid (show FuncAt w1 w.heap.size F by rw [← hw1]; exact (FuncAt.alloc w F).on (new (same _) _))
  have Z1 := hid (show w1.heap.size = w.heap.size + 2 by rw [← hw1]; simp)
  simp only [hw1, hM]
  clear hw1
  have f0 : ∀ wx, Below w1.heap.size w1 wx → wx.cell? ⟨w.heap.size, 0, none⟩ = some (.string F.name) := fun wx h => (FA1.out.on h).c0
  have f1 : ∀ wx, Below w1.heap.size w1 wx → wx.cell? ⟨w.heap.size, 1, none⟩ = some (.bool F.out) := fun wx h => (FA1.out.on h).c1
  have f2 : ∀ wx, Below w1.heap.size w1 wx → wx.cell? ⟨w.heap.size, 2, none⟩ = some (.slice F.par.a F.par.n F.par.c) := fun wx h => (FA1.out.on h).c2
  have f3 : ∀ wx, Below w1.heap.size w1 wx → wx.cell? ⟨w.heap.size, 3, none⟩ = some (.int .i64 F.res) := fun wx h => (FA1.out.on h).c3
  have f4 : ∀ wx, Below w1.heap.size w1 wx → wx.cell? ⟨w.heap.size, 4, none⟩ = some (.slice F.blk.a F.blk.n F.blk.c) := fun wx h => (FA1.out.on h).c4
  have st0 : Below w1.heap.size w1 w1.drew := Below.drew (same _)
  go_region_held3 (fun wx => Below w1.heap.size w1 wx) (first | exact st0 | exact st1 | exact st2 | exact st3)
    (first
      | (go_at_call 24; refine (doms_ref F _ (HF.out.on (View.more B1.out st0)) HL.out).mono ?_; rintro e w2 ⟨Q, RQ, D, rfl, hsq, hD, hb2⟩; have st1 : Below w1.heap.size w1 w2 := View.more st0 hb2; have SQ := hid hsq; have HD := hid hD; clear hsq hD hb2)
      | (go_at_call 38; refine (reach_ref F _ (HF.out.on (View.more B1.out st1)) HL.out).mono ?_; rintro e w3 ⟨fr, ⟨gr, rfl, hrr, hgr, hb3⟩, hfr⟩; have st2 : Below w1.heap.size w1 w3 := View.more st1 hb3; have RR := hid hrr; have HFR := hid hfr; have SQ3 := hid (SQ.out.on hb3); have z3 := hb3.size; have grl := hrr.lt; clear hrr hb3 hfr)
      | (go_at_call 37; refine (prev_ref F _ (HF.out.on (View.more B1.out st2)) HL.out).mono ?_; rintro e w4 ⟨Mp, Rp, rfl, hpp, hMp, hb4⟩; have st3 : Below w1.heap.size w1 w4 := View.more st2 hb4; have PP := hid hpp; have SQ4 := hid (SQ3.out.on hb4); have RR4 := hid (RR.out.of_block (hb4.block _ RR.out.lt)); have z4 := hb4.size; have mpl := hpp.row.lt; clear hpp hb4))
  have B4 := hid (View.more B1.out st3)
  have P4 := hid (P1.out.on st3)
  have z1 := Z1.out
  have hs12 := st1.size
  clear f0 f1 f2 f3 f4 SQ SQ3 RR
  go_wp2_with fail
  have hM1 : M < w1.heap.size := by omega
  have hm4 : M < w4.heap.size := by omega
  have hrm : gr ≠ M := by omega
  have hr4 : gr < w4.heap.size := by omega
  have hpm : Mp ≠ M := by omega
  have hMpM : M < Mp := by omega
  have QM := hid (show 0 < F.blk.n → Q ≠ M from fun h0 e => by
    have q1 := SQ4.out.row.cell h0
    have q2 := P4.out.row.cell h0
    rw [e, q2] at q1
    rw [if_pos h0] at q1
    cases q1)
  have QG := hid (show ∀ i, i < F.blk.n → w1.heap.size ≤ RQ i from SQ4.out.ge)
  have QL := hid (show ∀ i, i < F.blk.n → RQ i < w4.heap.size from fun i hi => (SQ4.out.rows i hi).lt)
  have QQ := hid (show Q < w4.heap.size from SQ4.out.row.lt)
  have WR := hid (show 0 < F.blk.n → ∀ i, i < F.blk.n → (fr i = true ↔ Go.Proofs.Ytahjippocejphaa.Flo.Way (su F) 0 i) from fun h0 i hi => by
    rw [HFR.out i hi, suL_neg (show (-1 : Int) < 0 by decide)]
    simp [isB, h0])
  clear st0 st1 st2 st3 hs12
  go_loopw [7] (fun iv wr => ∃ (a : Nat) (R : Nat → Sl), a ≤ F.blk.n ∧ iv = .int .i64 a ∧ FSt F M w w4 wr R (frG F F.blk.n a 0)) (fun iv _ => F.blk.n - (intOf iv).toNat)
  case atStart => exact ⟨0, _, Nat.zero_le _, rfl, P4.out.congr (fun i _ => (frG_start F _ i).symm), fun i _ g h => by simp [Value.ownBlock] at h, Kept.refl _ _, B4.out⟩
  case round =>
    clear P4 B4
    obtain ⟨a, R, hk, rfl, hst⟩ := hrel
    have HS := hid hst
    clear hst
    by_cases la : a < F.blk.n
    · have hQM := QM.out (by omega)
      have ia := bool_at (g := gr) la
      have iq := rows_at (g := Q) la
      have im := row_at (M := M) la
      go_wp2_with fail
      go_loopw [8] (fun iv wx => ∃ (b : Nat) (R : Nat → Sl), b ≤ F.blk.n ∧ iv = .int .i64 b ∧ FSt F M w w4 wx R (frG F F.blk.n a b)) (fun iv _ => F.blk.n - (intOf iv).toNat)
      case atStart => exact ⟨0, R, Nat.zero_le _, rfl, HS.out⟩
      case round =>
        clear HS
        obtain ⟨b, R, hb, rfl, hst⟩ := hrel
        have HS := hid hst
        by_cases lb : b < F.blk.n
        · have pa : wr.cell? ⟨gr, a, none⟩ = some (.bool (fr a)) := cell_kept hst.2.2.1 ⟨hr4, hrm⟩ (RR4.out.cell la)
          have pb : wr.cell? ⟨gr, b, none⟩ = some (.bool (fr b)) := cell_kept hst.2.2.1 ⟨hr4, hrm⟩ (RR4.out.cell lb)
          have ib := bool_at (g := gr) lb
          have iab := bool_at (g := RQ a) lb
          have pq : wr.cell? ⟨Q, a, none⟩ = some (.slice (some ⟨RQ a, 0, none⟩) F.blk.n F.blk.n) := cell_kept hst.2.2.1 ⟨QQ.out, hQM⟩ (by have := SQ4.out.row.cell la; rw [if_pos la] at this; exact this)
          have pab : wr.cell? ⟨RQ a, b, none⟩ = some (.bool (D a b)) := cell_kept hst.2.2.1 ⟨QL.out a la, by have := QG.out a la; show RQ a ≠ M; omega⟩ ((SQ4.out.rows a la).cell lb)
          have WA := hid (WR.out (by omega) a la)
          have WB := hid (WR.out (by omega) b lb)
          have DAB := hid (HD.out a la b lb)
          clear hst
          have SKIP := hid (show ¬ FrA F b (pvL F F.blk.n b).length a → FSt F M w w4 wr R (frG F F.blk.n a (b + 1)) from fun h => ⟨HS.out.1.congr (fun x _ => frG_skip h _ x), HS.out.2⟩)
          cases ha : fr a with
          | false =>
            rw [ha] at pa
            have H1 := hid (SKIP.out (not_frA_a (fun h => by have := WA.out.2 h; rw [ha] at this; cases this)))
            clear ha
            go_wp2_with fail
            go_round
            case rel => exact ⟨b + 1, R, by omega, by go_num, H1.out⟩
            case measure => simp [intOf]; omega
          | true =>
          rw [ha] at pa
          clear ha
          cases hb' : fr b with
          | false =>
            rw [hb'] at pb
            have H1 := hid (SKIP.out (not_frA_b (Nat.le_refl _) (fun h => by have := WB.out.2 h; rw [hb'] at this; cases this)))
            clear hb'
            go_wp2_with fail
            go_round
            case rel => exact ⟨b + 1, R, by omega, by go_num, H1.out⟩
            case measure => simp [intOf]; omega
          | true =>
          rw [hb'] at pb
          clear hb'
          have INN : Hid ((a = b ∨ D a b = false) → a = b ∨ ¬ DomR F a b) := fun h => by
            rcases h with h | h
            · exact .inl h
            · exact .inr fun q => by have := DAB.out.2 q; rw [h] at this; cases this
          by_cases hsk : D a b = true ∧ a ≠ b
          · have t1 : ((a : Int) != (b : Int)) = true := by simp; omega
            have H1 := hid (SKIP.out (not_frA_over hsk.2 (DAB.out.1 hsk.1)))
            rw [hsk.1] at pab
            clear hsk
            go_wp2_with fail
            go_round
            case rel => exact ⟨b + 1, R, by omega, by go_num, H1.out⟩
            case measure => simp [intOf]; omega
          have hin : a = b ∨ ¬ DomR F a b := INN.out (by
            by_cases e : a = b
            · exact .inl e
            · right; cases hd : D a b
              · rfl
              · exact absurd ⟨hd, e⟩ hsk)
          have HIN := hid hin
          have RI := hid (show Ints w4 (Rp b) (fun i => (((pvL F F.blk.n b).getD i 0 : Nat) : Int)) ∧ (Rp b).n = (pvL F F.blk.n b).length ∧ Mine (Mp + 1) w4.heap.size w4 (Rp b) by
            obtain ⟨s, hs, hn, hI, hmi⟩ := ints_of_owns (PP.out.own b lb) (by simp; have := pvL_le F F.blk.n b; omega)
            have e : Rp b = s := by
              have h1 : (Rp b).a = s.a ∧ (Rp b).n = s.n ∧ (Rp b).c = s.c := by simpa [Sl.val] using hs
              cases hR : Rp b; cases s; rw [hR] at h1; simp at h1; simp [h1]
            rw [e]
            exact ⟨hI.congr (fun i hi => getD_ints _ _ (by rw [hn] at hi; simpa using hi)), by simpa using hn, hmi⟩)
          have rn20 : (Rp b).n ≤ 16 := by rw [RI.out.2.1]; have := pvL_le F F.blk.n b; omega
          have ipb := row_at (M := Mp) lb
          have hcs : (D a b = true ∧ ((a : Int) != (b : Int)) = false) ∨ D a b = false := by
            cases hd : D a b
            · exact .inr rfl
            · exact .inl ⟨rfl, by by_cases e : a = b; simp [e]; exact absurd ⟨hd, e⟩ hsk⟩
          clear hin hsk
          rcases hcs with ⟨hd, t1⟩ | hd
          · rw [hd] at pab
            clear hd
            go_wp2_with fail
            go_loopw [9] (fun iv wx => ∃ (i : Nat) (R : Nat → Sl), i ≤ (Rp b).n ∧ iv = .int .i64 i ∧ FSt F M w w4 wx R (frG F F.blk.n a b) ∧ ∀ j, j < i → ¬ DomR F a ((pvL F F.blk.n b).getD j 0)) (fun iv _ => (Rp b).n - (intOf iv).toNat)
            case atStart => exact ⟨0, R, Nat.zero_le _, rfl, HS.out, fun j h => by omega⟩
            case round =>
              clear HS SKIP pa pb pq pab
              obtain ⟨i, R, hi, rfl, hst, hno⟩ := hrel
              have HS := hid hst
              have HNO := hid hno
              have ppb : wr.cell? ⟨Mp, b, none⟩ = some (Sl.val (Rp b)) := cell_kept hst.2.2.1 ⟨mpl, hpm⟩ (PP.out.row.cell lb)
              by_cases li : i < (Rp b).n
              · obtain ⟨ib2, io, hix, hci⟩ := (RI.out.1.kept' RI.out.2.2 hst.2.2.1 (fun q h1 h2 => ⟨h2, by omega⟩)).at li
                obtain ⟨p, hp⟩ : ∃ p, (pvL F F.blk.n b).getD i 0 = p := ⟨_, rfl⟩
                rw [hp] at hci
                have hil : i < (pvL F F.blk.n b).length := by rw [← RI.out.2.1]; exact li
                have hpn : p < F.blk.n := by rw [← hp]; exact (mem_pvL.1 (getD_mem hil)).1
                have pq : wr.cell? ⟨Q, a, none⟩ = some (.slice (some ⟨RQ a, 0, none⟩) F.blk.n F.blk.n) := cell_kept hst.2.2.1 ⟨QQ.out, hQM⟩ (by have := SQ4.out.row.cell la; rw [if_pos la] at this; exact this)
                have ip := bool_at (g := RQ a) hpn
                have pap : wr.cell? ⟨RQ a, p, none⟩ = some (.bool (D a p)) := cell_kept hst.2.2.1 ⟨QL.out a la, by have := QG.out a la; show RQ a ≠ M; omega⟩ ((SQ4.out.rows a la).cell hpn)
                have DAP := hid (HD.out a la p hpn)
                have p2 := hst.1.row.cell la
                have z2' := hst.1.row.frozen a
                have hml := hst.1.row.lt
                have hsz := hst.2.2.1.size
                have hul := frG_le F (a := a) (x := a) (Nat.le_of_lt lb)
                have HP := hid hp
                have HIL := hid hil
                clear hst hno hp hil
                cases hd : D a p with
                | false =>
                  rw [hd] at pap
                  have NO := hid (show ¬ DomR F a p from fun q => by have := DAP.out.2 q; rw [hd] at this; cases this)
                  clear hd
                  go_wp2_with fail
                  go_quiet (fail)
                  have HS5 := hid (HS.out.drewN nq)
                  go_wp2_with fail
                  go_round
                  case rel => exact ⟨i + 1, R, by omega, by go_num, HS5.out, fun j hj => by
                    by_cases e : j = i
                    · subst e; rw [HP.out]; exact NO.out
                    · exact HNO.out j (by omega)⟩
                  case measure => simp [intOf]; omega
                | true =>
                  rw [hd] at pap
                  have YES := hid (show FrA F b (pvL F F.blk.n b).length a from (frA_iff HIN.out).2 ⟨i, HIL.out, by rw [HP.out]; exact DAP.out.1 hd⟩)
                  clear hd
                  go_wp2_with fail
                  go_quiet (fail)
                  have hs5 := HS.out.drewN nq
                  obtain ⟨wd, hwd⟩ : ∃ wd, wr.drewN nq = wd := ⟨_, rfl⟩
                  rw [hwd] at hs5
                  simp only [hwd]
                  have H5 := hid hs5
                  clear hwd p2 z2' hml hsz HS ppb hci pq pap
                  have p2 := hs5.1.row.cell la
                  have z2' := hs5.1.row.frozen a
                  have hml := hs5.1.row.lt
                  have hsz := hs5.2.2.1.size
                  clear hs5
                  go_wp2_with (at_builtin; refine append_at rfl (.tmp 85) (.tmp 87) rfl (M + 1) (Sl.val (R a)) (ints (frG F F.blk.n a b a)) rfl b (H5.out.1.own a la) rfl (by simp; omega) (by omega) ?_; intro v2 w5 hown2 hgr2 hat2; obtain ⟨s2, rfl⟩ := owns_sl hown2; have hkM : w5.heap[M]? = (wd.alloc (.cells #[.int .i64 b] 3)).heap[M]? := hgr2.block _ (by simp; omega) (fun e => by have := ((H5.out.1.own a la).lt _ e.symm).1; omega); have hr2 : w5.rowIs M 30 F.blk.n (fun i => Sl.val (R i)) := World.rowIs.of_block (World.rowIs.alloc H5.out.1.row (.cells #[.int .i64 b] 3)) hkM; have hrc2 := hr2.cell la; have hrf2 := hr2.frozen a; have OW := hid (And.intro hown2 (And.intro hgr2 hat2)); clear hown2 hgr2 hat2 hkM hr2)
                  have hz3 := OW.out.2.1.size
                  simp only [World.size_alloc] at hz3
                  have FIN := hid (show FSt F M w w4 (w5.setCell ⟨M, a, none⟩ (Sl.val s2)) (fun i => if i = a then s2 else R i) (frG F F.blk.n a (b + 1)) by
                    obtain ⟨o1, o2, o3⟩ := OW.out
                    have hP := H5.out.1.step la o1 o2 o3
                    have hk3 : ∀ q, q < wd.heap.size → some q ≠ (Sl.val (R a)).ownBlock → w5.heap[q]? = wd.heap[q]? := fun q h1 h2 => by rw [o2.block q (by simp; omega) h2, Below.heap_alloc _ _ _ h1]
                    refine ⟨hP.congr (fun x _ => frG_put YES.out _ x), fun i hi g hg => ?_, ⟨by simp; omega, fun q hq => ?_⟩, ((new H5.out.2.2.2 _).grown o2 (by simp; have := H5.out.2.2.2.size; omega) (fun q hq => by have := ((H5.out.1.own a la).lt q hq).1; omega)).setCell (by show _ ≤ M; omega) _⟩
                    · by_cases e : i = a
                      · simp only [if_pos e] at hg
                        rcases o3 with h | h
                        · rw [h] at hg; exact H5.out.2.1 a la g hg
                        · rw [h] at hg; have := Option.some.inj hg; omega
                      · simp only [if_neg e] at hg; exact H5.out.2.1 i hi g hg
                    · rw [Below.heap_setCell _ _ _ _ hq.2, hk3 q (by have := hq.1; omega) (fun e => by have := H5.out.2.1 a la q e.symm; have := hq.1; omega)]
                      exact H5.out.2.2.1.block q hq)
                  go_round
                  case rel =>
                    first
                      | exact ⟨b + 1, _, by omega, by go_num, FIN.out⟩
                      | ((repeat apply Exists.intro); exact ⟨⟨b + 1, _, by omega, by go_num, FIN.out⟩, rfl⟩)
                  case measure => simp [intOf]; omega
              · obtain rfl : i = (Rp b).n := by omega
                have FIN := hid (show FSt F M w w4 wr R (frG F F.blk.n a (b + 1)) from ⟨HS.out.1.congr (fun x _ => frG_skip (fun h => by obtain ⟨j, h1, h2⟩ := (frA_iff HIN.out).1 h; exact HNO.out j (by rw [RI.out.2.1]; exact h1) h2) _ x), HS.out.2⟩)
                clear hst hno
                go_wp2_with fail
                go_round
                case rel =>
                  first
                    | exact ⟨b + 1, R, by omega, by go_num, FIN.out⟩
                    | ((repeat apply Exists.intro); exact ⟨⟨b + 1, R, by omega, by go_num, FIN.out⟩, rfl⟩)
                case measure => simp [intOf]; omega
          · rw [hd] at pab
            clear hd
            go_wp2_with fail
            go_loopw [9] (fun iv wx => ∃ (i : Nat) (R : Nat → Sl), i ≤ (Rp b).n ∧ iv = .int .i64 i ∧ FSt F M w w4 wx R (frG F F.blk.n a b) ∧ ∀ j, j < i → ¬ DomR F a ((pvL F F.blk.n b).getD j 0)) (fun iv _ => (Rp b).n - (intOf iv).toNat)
            case atStart => exact ⟨0, R, Nat.zero_le _, rfl, HS.out, fun j h => by omega⟩
            case round =>
              clear HS SKIP pa pb pq pab
              obtain ⟨i, R, hi, rfl, hst, hno⟩ := hrel
              have HS := hid hst
              have HNO := hid hno
              have ppb : wr.cell? ⟨Mp, b, none⟩ = some (Sl.val (Rp b)) := cell_kept hst.2.2.1 ⟨mpl, hpm⟩ (PP.out.row.cell lb)
              by_cases li : i < (Rp b).n
              · obtain ⟨ib2, io, hix, hci⟩ := (RI.out.1.kept' RI.out.2.2 hst.2.2.1 (fun q h1 h2 => ⟨h2, by omega⟩)).at li
                obtain ⟨p, hp⟩ : ∃ p, (pvL F F.blk.n b).getD i 0 = p := ⟨_, rfl⟩
                rw [hp] at hci
                have hil : i < (pvL F F.blk.n b).length := by rw [← RI.out.2.1]; exact li
                have hpn : p < F.blk.n := by rw [← hp]; exact (mem_pvL.1 (getD_mem hil)).1
                have pq : wr.cell? ⟨Q, a, none⟩ = some (.slice (some ⟨RQ a, 0, none⟩) F.blk.n F.blk.n) := cell_kept hst.2.2.1 ⟨QQ.out, hQM⟩ (by have := SQ4.out.row.cell la; rw [if_pos la] at this; exact this)
                have ip := bool_at (g := RQ a) hpn
                have pap : wr.cell? ⟨RQ a, p, none⟩ = some (.bool (D a p)) := cell_kept hst.2.2.1 ⟨QL.out a la, by have := QG.out a la; show RQ a ≠ M; omega⟩ ((SQ4.out.rows a la).cell hpn)
                have DAP := hid (HD.out a la p hpn)
                have p2 := hst.1.row.cell la
                have z2' := hst.1.row.frozen a
                have hml := hst.1.row.lt
                have hsz := hst.2.2.1.size
                have hul := frG_le F (a := a) (x := a) (Nat.le_of_lt lb)
                have HP := hid hp
                have HIL := hid hil
                clear hst hno hp hil
                cases hd : D a p with
                | false =>
                  rw [hd] at pap
                  have NO := hid (show ¬ DomR F a p from fun q => by have := DAP.out.2 q; rw [hd] at this; cases this)
                  clear hd
                  go_wp2_with fail
                  go_quiet (fail)
                  have HS5 := hid (HS.out.drewN nq)
                  go_wp2_with fail
                  go_round
                  case rel => exact ⟨i + 1, R, by omega, by go_num, HS5.out, fun j hj => by
                    by_cases e : j = i
                    · subst e; rw [HP.out]; exact NO.out
                    · exact HNO.out j (by omega)⟩
                  case measure => simp [intOf]; omega
                | true =>
                  rw [hd] at pap
                  have YES := hid (show FrA F b (pvL F F.blk.n b).length a from (frA_iff HIN.out).2 ⟨i, HIL.out, by rw [HP.out]; exact DAP.out.1 hd⟩)
                  clear hd
                  go_wp2_with fail
                  go_quiet (fail)
                  have hs5 := HS.out.drewN nq
                  obtain ⟨wd, hwd⟩ : ∃ wd, wr.drewN nq = wd := ⟨_, rfl⟩
                  rw [hwd] at hs5
                  simp only [hwd]
                  have H5 := hid hs5
                  clear hwd p2 z2' hml hsz HS ppb hci pq pap
                  have p2 := hs5.1.row.cell la
                  have z2' := hs5.1.row.frozen a
                  have hml := hs5.1.row.lt
                  have hsz := hs5.2.2.1.size
                  clear hs5
                  go_wp2_with (at_builtin; refine append_at rfl (.tmp 85) (.tmp 87) rfl (M + 1) (Sl.val (R a)) (ints (frG F F.blk.n a b a)) rfl b (H5.out.1.own a la) rfl (by simp; omega) (by omega) ?_; intro v2 w5 hown2 hgr2 hat2; obtain ⟨s2, rfl⟩ := owns_sl hown2; have hkM : w5.heap[M]? = (wd.alloc (.cells #[.int .i64 b] 3)).heap[M]? := hgr2.block _ (by simp; omega) (fun e => by have := ((H5.out.1.own a la).lt _ e.symm).1; omega); have hr2 : w5.rowIs M 30 F.blk.n (fun i => Sl.val (R i)) := World.rowIs.of_block (World.rowIs.alloc H5.out.1.row (.cells #[.int .i64 b] 3)) hkM; have hrc2 := hr2.cell la; have hrf2 := hr2.frozen a; have OW := hid (And.intro hown2 (And.intro hgr2 hat2)); clear hown2 hgr2 hat2 hkM hr2)
                  have hz3 := OW.out.2.1.size
                  simp only [World.size_alloc] at hz3
                  have FIN := hid (show FSt F M w w4 (w5.setCell ⟨M, a, none⟩ (Sl.val s2)) (fun i => if i = a then s2 else R i) (frG F F.blk.n a (b + 1)) by
                    obtain ⟨o1, o2, o3⟩ := OW.out
                    have hP := H5.out.1.step la o1 o2 o3
                    have hk3 : ∀ q, q < wd.heap.size → some q ≠ (Sl.val (R a)).ownBlock → w5.heap[q]? = wd.heap[q]? := fun q h1 h2 => by rw [o2.block q (by simp; omega) h2, Below.heap_alloc _ _ _ h1]
                    refine ⟨hP.congr (fun x _ => frG_put YES.out _ x), fun i hi g hg => ?_, ⟨by simp; omega, fun q hq => ?_⟩, ((new H5.out.2.2.2 _).grown o2 (by simp; have := H5.out.2.2.2.size; omega) (fun q hq => by have := ((H5.out.1.own a la).lt q hq).1; omega)).setCell (by show _ ≤ M; omega) _⟩
                    · by_cases e : i = a
                      · simp only [if_pos e] at hg
                        rcases o3 with h | h
                        · rw [h] at hg; exact H5.out.2.1 a la g hg
                        · rw [h] at hg; have := Option.some.inj hg; omega
                      · simp only [if_neg e] at hg; exact H5.out.2.1 i hi g hg
                    · rw [Below.heap_setCell _ _ _ _ hq.2, hk3 q (by have := hq.1; omega) (fun e => by have := H5.out.2.1 a la q e.symm; have := hq.1; omega)]
                      exact H5.out.2.2.1.block q hq)
                  go_round
                  case rel =>
                    first
                      | exact ⟨b + 1, _, by omega, by go_num, FIN.out⟩
                      | ((repeat apply Exists.intro); exact ⟨⟨b + 1, _, by omega, by go_num, FIN.out⟩, rfl⟩)
                  case measure => simp [intOf]; omega
              · obtain rfl : i = (Rp b).n := by omega
                have FIN := hid (show FSt F M w w4 wr R (frG F F.blk.n a (b + 1)) from ⟨HS.out.1.congr (fun x _ => frG_skip (fun h => by obtain ⟨j, h1, h2⟩ := (frA_iff HIN.out).1 h; exact HNO.out j (by rw [RI.out.2.1]; exact h1) h2) _ x), HS.out.2⟩)
                clear hst hno
                go_wp2_with fail
                go_round
                case rel =>
                  first
                    | exact ⟨b + 1, R, by omega, by go_num, FIN.out⟩
                    | ((repeat apply Exists.intro); exact ⟨⟨b + 1, R, by omega, by go_num, FIN.out⟩, rfl⟩)
                case measure => simp [intOf]; omega
        · obtain rfl : b = F.blk.n := by omega
          clear hst
          go_wp2_with fail
          go_round
          case rel => exact ⟨a + 1, R, by omega, by go_num, HS.out.1.congr (fun x _ => frG_row F _ a x), HS.out.2⟩
          case measure => simp [intOf]; omega
    · obtain rfl : a = F.blk.n := by omega
      go_wp2_with fail
      go_ret
      exact ⟨M, R, rfl, HS.out.1.congr (fun x hx => by unfold frG; rw [if_pos hx]), by omega, HS.out.2.2.2⟩

end Go.Proofs.Ytahjippocejphaa.Dm
