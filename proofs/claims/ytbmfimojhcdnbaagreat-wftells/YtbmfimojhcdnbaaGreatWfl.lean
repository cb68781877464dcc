/-
  wf: a block's row, and where its end leads.
-/
import Derived.Test.YtbmfimojhcdnbaaGreatJ12
import Derived.Test.YtbmfimojhcdnbaaGreatChkW
namespace Go.Proofs.YtbmfimojhcdnbaaGreat.Wf
open Go.RowKit View Rd Num Opn Copy Srt Go.Proofs.YtbmfimojhcdnbaaGreat.Mod Go.Proofs.YtbmfimojhcdnbaaGreat.Chk

set_option linter.unusedVariables false

def RowI (s : Sl) (I : Nat → IV) (k : Nat) : Prop := endB (I k).op = decide (k = s.n - 1) ∧ ¬ (0 < k ∧ (I k).op = 26 ∧ (I (k - 1)).op ≠ 26)
def RowB (s : Sl) (I : Nat → IV) : Prop := 1 ≤ s.n ∧ ∀ k, k < s.n → RowI s I k

set_option maxRecDepth 10000 in
set_option maxHeartbeats 4000000 in
theorem rowFault_any (s : Sl) (I : Nat → IV) (w : World) (hs : Inss w s I) (hn : s.n ≤ 1000) : Calls Tryz.prog 83 #[.agg #[.slice s.a s.n s.c]] w fun e w' => Ans (fun r => r = true ↔ ¬ RowB s I) w e w' := by
  obtain ⟨W, hW⟩ : ∃ W, w.alloc (.cells #[.slice s.a s.n s.c] 47) = W := ⟨_, rfl⟩
  have BX := hid (show W.cell? ⟨w.heap.size, 0, none⟩ = some (.slice s.a s.n s.c) by rw [← hW]; simp)
  have m0 := BX.out
  have HS := hid (show Inss W s I by rw [← hW]; exact hs.on (new (same w) _))
  have LW := hid (show Below w.heap.size w W by rw [← hW]; exact new (same w) _)
  have HWW := hid hW
  have YES := hid (show ∀ wx, Below W.heap.size W wx → ¬ RowB s I → Ans (fun r => r = true ↔ ¬ RowB s I) w (.returned (.bool true)) wx from fun wx h hn => ⟨true, rfl, by simp [hn], View.more LW.out h⟩)
  clear hs hW
  have e0 : ((s.n : Int) == 0) = decide (s.n = 0) := by rw [Bool.eq_iff_iff]; simp
  have wr1 : IntKind.i64.wrap ((s.n : Int) - 1) = (s.n : Int) - 1 := by simp only [IntKind.wrap_i64]; omega
  have wr2 : wrap64 ((s.n : Int) - 1) = (s.n : Int) - 1 := by unfold wrap64; omega
  have E0 := hid e0
  clear e0
  go_enter Tryz.func83, Tryz.ntmps83
  go_wp2_with fail
  simp only [HWW.out]
  clear HWW
  go_loopw [9] (fun iv wr => ∃ k : Nat, k ≤ s.n ∧ iv = .int .i64 k ∧ (∀ t, t < k → RowI s I t) ∧ Below W.heap.size W wr) (fun iv _ => s.n - (intOf iv).toNat)
  case atStart => exact ⟨0, Nat.zero_le _, rfl, fun t ht => by omega, same _⟩
  case round =>
    obtain ⟨k, hk0, rfl, hall, hb⟩ := hrel
    have HK := hid (And.intro hall hb)
    have m0 := cell_on hb BX.out
    have hbz := World.block_lt_of_cell? _ _ m0
    by_cases lk : k < s.n
    · obtain ⟨ib, io, hiy, c0, c1, c2, c3, c4, c5, c6⟩ := (HS.out.on hb).at lk
      clear hall hb
      obtain ⟨v, hv⟩ : ∃ v, I k = v := ⟨_, rfl⟩
      rw [hv] at c0 c1 c2 c3 c4 c5 c6
      have HV := hid hv
      clear hv
      have L2 := hid (show Below W.heap.size W (wr.alloc (.cells v.cells 50)) from new HK.out.2 _)
      have ec : ∀ w1, Below (wr.alloc (.cells v.cells 50)).heap.size (wr.alloc (.cells v.cells 50)) w1 → w1.cell? ⟨wr.heap.size, 0, none⟩ = some (.int .i64 v.op) := fun w1 h => cell_on h (by simp)
      have EC := hid ec
      clear ec
      have ENDS := hid (endsW_any v.op)
      by_cases hkl : k = s.n - 1
      · have qk : ((k : Int) == (s.n : Int) - 1) = true := by simp; omega
        cases hE : endB v.op with
        | true =>
          have HEQ := hid (show endB (I k).op = decide (k = s.n - 1) by rw [HV.out, hE]; simp [hkl])
          clear hkl
          by_cases h26 : v.op = 26
          · have t26 : (v.op == 26) = true := by simp [h26]
            have HOP := hid h26
            clear h26
            rcases Nat.eq_zero_or_pos k with hkz | hk1
            · have d0 : decide ((0 : Int) < (k : Int)) = false := by simp; omega
              have d1 : decide (0 < k) = false := by simp; omega
              have HI := hid (show RowI s I k from ⟨HEQ.out, fun h => absurd h.1 (by omega)⟩)
              clear hkz
              go_wp2_with fail
              refine (ENDS.out _).mono ?_
              rintro e w9 ⟨rfl, hw9⟩
              rw [hw9, hE]
              clear hw9
              go_wp2_with fail
              go_round
              case rel => exact ⟨k + 1, by omega, by go_num, upto1 HK.out.1 HI.out, L2.out⟩
              case measure => simp [intOf]; omega
            · have d0 : decide ((0 : Int) < (k : Int)) = true := by simp; omega
              have d1 : decide (0 < k) = true := by simp; omega
              obtain ⟨i, hi⟩ : ∃ i, k = i + 1 := ⟨k - 1, by omega⟩
              obtain ⟨jb, jo, hjy, j0, _⟩ := (HS.out.on L2.out).at (show i < s.n by omega)
              have b5 : IntKind.i64.wrap ((k : Int) - 1) = (i : Int) := by simp only [IntKind.wrap_i64]; omega
              have b6 : wrap64 ((k : Int) - 1) = (i : Int) := by unfold wrap64; omega
              have b7 : (k : Int) - 1 = (i : Int) := by omega
              have HIK := hid hi
              clear hi
              by_cases hp : (I i).op = 26
              · have t5 : ((I i).op != 26) = false := by simp [hp]
                have HI := hid (show RowI s I k from ⟨HEQ.out, fun h => h.2.2 (by rw [HIK.out, Nat.add_sub_cancel]; exact hp)⟩)
                clear hp
                go_wp2_with fail
                refine (ENDS.out _).mono ?_
                rintro e w9 ⟨rfl, hw9⟩
                rw [hw9, hE]
                clear hw9
                go_wp2_with fail
                go_round
                case rel => exact ⟨k + 1, by omega, by go_num, upto1 HK.out.1 HI.out, L2.out⟩
                case measure => simp [intOf]; omega
              · have t5 : ((I i).op != 26) = true := by simp [hp]
                have HN := hid (show ¬ RowB s I from fun h => (h.2 k lk).2 ⟨hk1, by rw [HV.out]; exact HOP.out, by rw [HIK.out, Nat.add_sub_cancel]; exact hp⟩)
                clear hp
                go_wp2_with fail
                refine (ENDS.out _).mono ?_
                rintro e w9 ⟨rfl, hw9⟩
                rw [hw9, hE]
                clear hw9
                go_wp2_with fail
                go_ret
                exact YES.out _ L2.out HN.out
          · have t26 : (v.op == 26) = false := by simp [h26]
            have HI := hid (show RowI s I k from ⟨HEQ.out, fun h => h26 (by rw [← HV.out]; exact h.2.1)⟩)
            clear h26
            go_wp2_with fail
            refine (ENDS.out _).mono ?_
            rintro e w9 ⟨rfl, hw9⟩
            rw [hw9, hE]
            clear hw9
            go_wp2_with fail
            go_round
            case rel => exact ⟨k + 1, by omega, by go_num, upto1 HK.out.1 HI.out, L2.out⟩
            case measure => simp [intOf]; omega
        | false =>
          have HN := hid (show ¬ RowB s I from fun h => by have := (h.2 k lk).1; rw [HV.out, hE] at this; simp [hkl] at this)
          clear hkl
          go_wp2_with fail
          refine (ENDS.out _).mono ?_
          rintro e w9 ⟨rfl, hw9⟩
          rw [hw9, hE]
          clear hw9
          go_wp2_with fail
          go_ret
          exact YES.out _ L2.out HN.out
      · have qk : ((k : Int) == (s.n : Int) - 1) = false := by simp; omega
        cases hE : endB v.op with
        | true =>
          have HN := hid (show ¬ RowB s I from fun h => by have := (h.2 k lk).1; rw [HV.out, hE] at this; simp [hkl] at this)
          clear hkl
          go_wp2_with fail
          refine (ENDS.out _).mono ?_
          rintro e w9 ⟨rfl, hw9⟩
          rw [hw9, hE]
          clear hw9
          go_wp2_with fail
          go_ret
          exact YES.out _ L2.out HN.out
        | false =>
          have HEQ := hid (show endB (I k).op = decide (k = s.n - 1) by rw [HV.out, hE]; simp [hkl])
          clear hkl
          by_cases h26 : v.op = 26
          · have t26 : (v.op == 26) = true := by simp [h26]
            have HOP := hid h26
            clear h26
            rcases Nat.eq_zero_or_pos k with hkz | hk1
            · have d0 : decide ((0 : Int) < (k : Int)) = false := by simp; omega
              have d1 : decide (0 < k) = false := by simp; omega
              have HI := hid (show RowI s I k from ⟨HEQ.out, fun h => absurd h.1 (by omega)⟩)
              clear hkz
              go_wp2_with fail
              refine (ENDS.out _).mono ?_
              rintro e w9 ⟨rfl, hw9⟩
              rw [hw9, hE]
              clear hw9
              go_wp2_with fail
              go_round
              case rel => exact ⟨k + 1, by omega, by go_num, upto1 HK.out.1 HI.out, L2.out⟩
              case measure => simp [intOf]; omega
            · have d0 : decide ((0 : Int) < (k : Int)) = true := by simp; omega
              have d1 : decide (0 < k) = true := by simp; omega
              obtain ⟨i, hi⟩ : ∃ i, k = i + 1 := ⟨k - 1, by omega⟩
              obtain ⟨jb, jo, hjy, j0, _⟩ := (HS.out.on L2.out).at (show i < s.n by omega)
              have b5 : IntKind.i64.wrap ((k : Int) - 1) = (i : Int) := by simp only [IntKind.wrap_i64]; omega
              have b6 : wrap64 ((k : Int) - 1) = (i : Int) := by unfold wrap64; omega
              have b7 : (k : Int) - 1 = (i : Int) := by omega
              have HIK := hid hi
              clear hi
              by_cases hp : (I i).op = 26
              · have t5 : ((I i).op != 26) = false := by simp [hp]
                have HI := hid (show RowI s I k from ⟨HEQ.out, fun h => h.2.2 (by rw [HIK.out, Nat.add_sub_cancel]; exact hp)⟩)
                clear hp
                go_wp2_with fail
                refine (ENDS.out _).mono ?_
                rintro e w9 ⟨rfl, hw9⟩
                rw [hw9, hE]
                clear hw9
                go_wp2_with fail
                go_round
                case rel => exact ⟨k + 1, by omega, by go_num, upto1 HK.out.1 HI.out, L2.out⟩
                case measure => simp [intOf]; omega
              · have t5 : ((I i).op != 26) = true := by simp [hp]
                have HN := hid (show ¬ RowB s I from fun h => (h.2 k lk).2 ⟨hk1, by rw [HV.out]; exact HOP.out, by rw [HIK.out, Nat.add_sub_cancel]; exact hp⟩)
                clear hp
                go_wp2_with fail
                refine (ENDS.out _).mono ?_
                rintro e w9 ⟨rfl, hw9⟩
                rw [hw9, hE]
                clear hw9
                go_wp2_with fail
                go_ret
                exact YES.out _ L2.out HN.out
          · have t26 : (v.op == 26) = false := by simp [h26]
            have HI := hid (show RowI s I k from ⟨HEQ.out, fun h => h26 (by rw [← HV.out]; exact h.2.1)⟩)
            clear h26
            go_wp2_with fail
            refine (ENDS.out _).mono ?_
            rintro e w9 ⟨rfl, hw9⟩
            rw [hw9, hE]
            clear hw9
            go_wp2_with fail
            go_round
            case rel => exact ⟨k + 1, by omega, by go_num, upto1 HK.out.1 HI.out, L2.out⟩
            case measure => simp [intOf]; omega
    · obtain rfl : k = s.n := by omega
      clear hall hb
      by_cases h0 : s.n = 0
      · have t0 : ((s.n : Int) == 0) = true := by simp [h0]
        have t1 : (s.n == 0) = true := by simp [h0]
        have HN := hid (show ¬ RowB s I from fun h => by have := h.1; omega)
        clear h0
        go_wp2_with fail
        go_ret
        exact YES.out _ HK.out.2 HN.out
      · have t0 : ((s.n : Int) == 0) = false := by simp; omega
        have t1 : (s.n == 0) = false := by simp [h0]
        have HN := hid (show RowB s I from ⟨by omega, HK.out.1⟩)
        clear h0
        go_wp2_with fail
        go_ret
        exact ⟨false, rfl, ⟨fun h => absurd h (by simp), fun h => absurd HN.out h⟩, View.more LW.out HK.out.2⟩

end Go.Proofs.YtbmfimojhcdnbaaGreat.Wf
