/-
  How often each value is used, by the document: plnref3.Uses.
-/
import Derived.Test.YthaedlnefikigaaUseIr
namespace Go.Proofs.Ythaedlnefikigaa.Use
open Go.RowKit View Rd Copy Srt Ty

set_option linter.unusedVariables false

set_option maxRecDepth 10000 in
set_option maxHeartbeats 1000000 in
theorem uses_ref (F : FV) (w : World) (hF : In w F) (hl : Light F) :
    Calls Try.prog 23 #[F.val] w fun e w' => Usage F w e w' := by
  obtain ⟨i0, hi, hz0, hz1, hz2⟩ := info_parts info3
  have HF := hid hF
  have HL := hid hl
  have gb := hl.blk
  have hle : F.par.n + cnt (fun j => giv (F.I j) (F.B j).n) F.blk.n ≤ 10000 := by
    have := cnt_le (n := fun j => giv (F.I j) (F.B j).n) (m := 90) (j := F.blk.n) (fun i hi => Nat.le_trans (giv_le _ _) (hl.ins i (by omega)))
    have := hl.par; have := hl.blk; omega
  have HV := hid (values_ref F _ (hF.on (new (same w) (.cells (fcells F) 36))) hl)
  obtain ⟨V, hV⟩ : ∃ V, F.par.n + cnt (fun j => giv (F.I j) (F.B j).n) F.blk.n = V := ⟨_, rfl⟩
  have HVV := hid hV
  have hle2 : V ≤ 10000 := by omega
  clear hF hl hle hV
  go_enter Try.func23, Try.ntmps23
  go_wp2_with fail
  refine HV.out.mono ?_
  rintro e w1 ⟨rfl, hb1⟩
  have hVi : ((F.par.n : Int) + (cnt (fun j => giv (F.I j) (F.B j).n) F.blk.n : Nat)) = (V : Int) := by have := HVV.out; omega
  rw [hVi]
  clear hVi HV
  have hf1 : FuncAt w1 w.heap.size F := (FuncAt.alloc w F).on hb1
  have hb2 := more (new (same w) _) hb1
  have hwl : w.heap.size < w1.heap.size := World.block_lt_of_cell? _ _ hf1.c0
  have HFA := hid hf1
  have HB2 := hid hb2
  have HWL := hid hwl
  have HI := hid (And.intro hi (And.intro hz0 (And.intro hz1 hz2)))
  clear hb1 hf1 hb2 hwl hi hz0 hz1 hz2
  go_wp2_with (at_make; refine wpList_make_full _ rfl (.tmp 10) (.tmp 10) 33 rfl w1.heap.size 3 i0 (.int .i64 0) 1 underlying33 HI.out.1 HI.out.2.1 HI.out.2.2.1 .i64 .i64 _ _ (V + 1) rfl rfl (by omega) (by omega) (by rw [HI.out.2.2.2]; omega) (by simp only [maxLen]; omega) (Nat.le_refl _) ?_; intro w2 hown2 hgr2)
  have b3 : Below w.heap.size w w2 := HB2.out.grown hgr2 (Nat.le_of_lt HWL.out) (fun k hk => by cases hk)
  have g2 : w1.heap.size < w2.heap.size := (hown2.lt w1.heap.size rfl).2
  rw [made_zero] at hown2
  obtain ⟨s, hs, hsn, his, hm⟩ := ints_of_owns hown2 (by omega)
  have hsa : s = ⟨some ⟨w1.heap.size, 0, none⟩, V + 1, V + 1⟩ := by
    obtain ⟨a, n, c⟩ := s
    simp only at hs
    cases hs
    rfl
  subst hsa
  have fz : ∀ i, w2.frozen? ⟨w1.heap.size, i, none⟩ = false := by
    obtain ⟨g, h1, h2, h3, h4⟩ := hm (by simp)
    simp at h1
    subst h1
    exact h4
  have f2 : FuncAt w2 w.heap.size F := FuncAt.grown HFA.out hgr2 (fun k hk => by cases hk)
  have so0 : Sofar F w1.heap.size (V + 1) (fun v => allOcc F v 0) w2 w2 := ⟨his.congr (fun i hi => by simp [allOcc, cnt, List.getD, List.getElem?_replicate]; split <;> rfl), Turn.refl _ _⟩
  obtain ⟨g, hg⟩ : ∃ g, w1.heap.size = g := ⟨_, rfl⟩
  have hwl := HWL.out
  rw [hg] at so0 fz g2 hwl
  rw [hg]
  have SO0 := hid so0
  have FZ := hid fz
  have B3 := hid b3
  have F2 := hid f2
  have G2 := hid (And.intro hwl g2)
  clear so0 his hs hsn hm fz b3 hown2 hgr2 g2 HB2 HFA HWL hwl hg f2
  have KF : Hid (∀ wr, Turn (fun b => b = g) w2 wr → FuncAt wr w.heap.size F) := fun wr t => F2.out.kept t.kept ⟨World.block_lt_of_cell? _ _ F2.out.c0, by have := G2.out.1; omega⟩
  go_wp2_with fail
  go_loopw [4] (fun i wr => ∃ j : Nat, j ≤ F.blk.n ∧ i = .int .i64 j ∧ Sofar F g (V + 1) (fun v => allOcc F v j) w2 wr) (fun i _ => F.blk.n - (intOf i).toNat)
  case atStart => exact ⟨0, Nat.zero_le _, rfl, SO0.out⟩
  case round =>
    clear SO0
    obtain ⟨j, hj, rfl, so⟩ := hrel
    obtain ⟨c0, c1, c2, c3, c4⟩ := KF.out wr so.2
    have SO := hid so
    clear so
    by_cases hlt : j < F.blk.n
    · have g5 := HL.out.ins j hlt
      go_wp2_with fail
      go_loopw [5] (fun i wx => ∃ t : Nat, t ≤ (F.B j).n ∧ i = .int .i64 t ∧ Sofar F g (V + 1) (fun v => allOcc F v j + rowOcc (F.A j) (F.I j) v t) w2 wx) (fun i _ => (F.B j).n - (intOf i).toNat)
      case atStart => exact ⟨0, Nat.zero_le _, rfl, SO.out.1.congr (fun v _ => by simp [rowOcc, cnt]), SO.out.2⟩
      case round =>
        clear SO c0 c1 c2 c3 c4
        obtain ⟨t, ht, rfl, so⟩ := hrel
        obtain ⟨c0, c1, c2, c3, c4⟩ := KF.out wr so.2
        have hb : Below w.heap.size w wr := turn_below B3.out so.2 (Nat.le_of_lt G2.out.1) B3.out.size
        obtain ⟨bb, oo, hix, hck⟩ := (HF.out.blk.on hb).at hlt
        have SO := hid so
        clear so
        by_cases htl : t < (F.B j).n
        · obtain ⟨ib, io, hiy, d0, d1, d2, d3, d4, d5, d6⟩ := ((HF.out.ins j hlt).on hb).at htl
          have g6 := HL.out.args j hlt t htl
          clear hb
          go_wp2_with fail
          go_loopw [7] (fun i wx => ∃ k : Nat, k ≤ (F.I j t).args.n ∧ i = .int .i64 k ∧ Sofar F g (V + 1) (fun v => allOcc F v j + rowOcc (F.A j) (F.I j) v t + occ (F.A j t) v k) w2 wx) (fun i _ => (F.I j t).args.n - (intOf i).toNat)
          case atStart => exact ⟨0, Nat.zero_le _, rfl, SO.out.1.congr (fun v _ => by simp [occ]), SO.out.2⟩
          case round =>
            clear SO c0 c1 c2 c3 c4 hck d0 d1 d2 d3 d4 d5 d6 hix hiy
            obtain ⟨k, hk, rfl, so⟩ := hrel
            have hb : Below w.heap.size w wr := turn_below B3.out so.2 (Nat.le_of_lt G2.out.1) B3.out.size
            have SO := hid so
            clear so
            by_cases hkl : k < (F.I j t).args.n
            · obtain ⟨b1, o1, hiz, hc⟩ := ((HF.out.args j hlt t htl).on hb).at hkl
              have HB := hid hb
              clear hb
              have fin : Hid (∀ wx, Ints wx ⟨some ⟨g, 0, none⟩, V + 1, V + 1⟩ (fun v => ((allOcc F v j + rowOcc (F.A j) (F.I j) v t + occ (F.A j t) v (k + 1) : Nat) : Int)) → Turn (fun b => b = g) w2 wx → Sofar F g (V + 1) (fun v => allOcc F v j + rowOcc (F.A j) (F.I j) v t + occ (F.A j t) v (k + 1)) w2 wx) := fun _ a b => ⟨a, b⟩
              by_cases h0 : F.A j t k < 0
              · have r0 : decide (0 ≤ F.A j t k) = false := by simp; omega
                have r1 : decide (F.A j t k < 0) = true := by simpa using h0
                go_wp2_with fail
                go_round
                case rel => exact ⟨k + 1, by omega, by go_num, fin.out _ (SO.out.1.congr (fun v _ => by rw [occ, if_neg (by omega)]; simp)) SO.out.2⟩
                case measure => simp [intOf]; omega
              by_cases h1 : (V : Int) + 1 ≤ F.A j t k
              · have r0 : decide (0 ≤ F.A j t k) = true := by simp; omega
                have r3 : 0 ≤ F.A j t k := by omega
                have r2 : decide (F.A j t k < (V : Int) + 1) = false := by simp; omega
                go_wp2_with fail
                go_round
                case rel => exact ⟨k + 1, by omega, by go_num, fin.out _ (SO.out.1.congr (fun v hv => by have : v < V + 1 := hv; rw [occ, if_neg (by omega)]; simp)) SO.out.2⟩
                case measure => simp [intOf]; omega
              obtain ⟨v, hv⟩ : ∃ v : Nat, F.A j t k = v := ⟨(F.A j t k).toNat, by omega⟩
              have hvs : v < V + 1 := by omega
              obtain ⟨x1, y1⟩ := own_at SO.out.1 (g := g) rfl (k := v) hvs
              simp only at x1
              have x2 : ∀ wx, (Instr.indexAt 33 (.slice (some ⟨g, 0, none⟩) (V + 1) (V + 1)) (.int .i64 (F.A j t k))).run Try.prog wx = .ok (.pointer (some ⟨g, v, none⟩)) wx := by rw [hv]; exact x1
              have f1 : wr.frozen? ⟨g, v, none⟩ = false := by rw [SO.out.2.froz _ G2.out.2]; exact FZ.out v
              obtain ⟨C, hC⟩ : ∃ C, allOcc F v j + rowOcc (F.A j) (F.I j) v t + occ (F.A j t) v k = C := ⟨_, rfl⟩
              have hCb : C ≤ 1001000 := by
                have h1 := allOcc_le HL.out v j hj
                have h2 := rowOcc_le (A := F.A j) (I := F.I j) v t (fun k hk => HL.out.args j hlt k (by omega))
                have h3 := occ_le (F.A j t) v k
                omega
              simp only [hC] at y1
              have r0 : decide (0 ≤ F.A j t k) = true := by simp; omega
              have r2 : decide (F.A j t k < (V : Int) + 1) = true := by simp; omega
              have r3 : 0 ≤ F.A j t k := by omega
              have r4 : F.A j t k < (V : Int) + 1 := by omega
              have HVA := hid hv
              have HC := hid hC
              clear hv hC x1 h0 h1
              go_wp2_with fail
              go_round
              case rel =>
                refine ⟨k + 1, by omega, by go_num, fin.out _ ((own_set SO.out.1 (g := g) rfl (k := v) hvs ((C : Int) + 1)).congr (fun z hz => ?_)) (SO.out.2.setCell (x := ⟨g, v, none⟩) (.inl rfl) _)⟩
                by_cases e : z = v
                · subst e
                  rw [if_pos rfl, occ, if_pos HVA.out]
                  have := HC.out
                  omega
                · rw [if_neg e, occ, if_neg (fun h => e (by have := HVA.out; omega))]
                  simp
              case measure => simp [intOf]; omega
            · obtain rfl : k = (F.I j t).args.n := by omega
              go_wp2_with fail
              go_round
              case rel => exact ⟨t + 1, by omega, by go_num, SO.out.1.congr (fun v _ => by show ((_ : Nat) : Int) = ((allOcc F v j + rowOcc (F.A j) (F.I j) v (t + 1) : Nat) : Int); rw [rowOcc_next, ← Nat.add_assoc]), SO.out.2⟩
              case measure => simp [intOf]; omega
        · obtain rfl : t = (F.B j).n := by omega
          go_wp2_with fail
          go_round
          case rel => exact ⟨j + 1, by omega, by go_num, SO.out⟩
          case measure => simp [intOf]; omega
    · obtain rfl : j = F.blk.n := by omega
      have hb : Below w.heap.size w wr := turn_below B3.out SO.out.2 (Nat.le_of_lt G2.out.1) B3.out.size
      go_wp2_with fail
      go_ret
      exact ⟨⟨some ⟨g, 0, none⟩, V + 1, V + 1⟩, rfl, by rw [HVV.out], SO.out.1, hb⟩

end Go.Proofs.Ythaedlnefikigaa.Use
