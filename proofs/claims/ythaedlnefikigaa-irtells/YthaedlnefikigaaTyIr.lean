/-
  The types of a function's values, by the program: ir.Types.
-/
import Derived.Test.YthaedlnefikigaaTy
namespace Go.Proofs.Ythaedlnefikigaa.Ty
open Go.RowKit View Rd Copy

set_option linter.unusedVariables false

set_option maxHeartbeats 1000000 in
theorem types_ir (F : FV) (w : World) (hF : In w F) (hl : Light F) :
    Calls Try.prog 20 #[F.val] w fun e w' => Lists (typesL F) w e w' := by
  have HF := hid hF
  have HL := hid hl
  have gp := hl.par
  have gb := hl.blk
  have GG : Hid (∀ j, j ≤ F.blk.n → cnt (fun j => giv (F.I j) (F.B j).n) j ≤ j * 90) := fun j hj => cnt_le (fun i hi => Nat.le_trans (giv_le _ _) (hl.ins i (by omega)))
  clear hF hl
  go_enter Try.func20, Try.ntmps20
  have r0 : ((w.alloc (.cells (fcells F) 36)).alloc (.cells #[.int .i64 0] 3)).ownsRow (w.heap.size + 1) 3 1 (.slice (some ⟨w.heap.size + 1, 0, none⟩) 1 1) 1 (([0] : List Int).map (Value.int .i64)) :=
    ⟨rfl, .inr ⟨w.heap.size + 1, 1, #[.int .i64 0], rfl, Nat.le_refl _, by have := heap_alloc_new (w.alloc (.cells (fcells F) 36)) (.cells #[.int .i64 0] 3); simpa using this, Nat.le_refl _, by decide, rfl, rfl⟩⟩
  have R0 := hid r0
  clear r0
  go_wp2_with (at_builtin; refine append_in rfl (.tmp 8) (.tmp 10) rfl (w.heap.size + 1) _ 1 [0] rfl R0.out F.par F.P rfl (HF.out.par.on (new (new (same w) _) _)) (by omega) (by simp) ?_; intro v1 w1 hown1 hgr1; have f1 : FuncAt w1 w.heap.size F := (FuncAt.grown ((FuncAt.alloc w F).on (new (same _) _)) hgr1 (fun k hk => by have := (R0.out.lt k hk).1; omega)); have F1 := hid f1; obtain ⟨c0, c1, c2, c3, c4⟩ := f1)
  have b1 : Below w.heap.size w w1 := (new (new (same w) _) _).grown hgr1 (by simp; omega) (fun k hk => by have := (R0.out.lt k hk).1; omega)
  have f1 := F1.out
  have e1 : 1 + F.par.n = (pre F 0 0).length := by simp [pre, tyAll, tyRow, row_length]; omega
  have e2 : ([0] : List Int) ++ row F.P F.par.n = pre F 0 0 := by simp [pre, tyAll, tyRow]
  rw [e1, e2] at hown1
  have O1 := hid hown1
  clear e1 e2
  have FB := hid (And.intro f1 b1)
  clear hown1 hgr1 b1 R0 f1 F1
  go_wp2_with fail
  go_loopw [3, 15] (fun v i wr => ∃ j : Nat, j ≤ F.blk.n ∧ i = .int .i64 j ∧ wr.ownsRow (w.heap.size + 1) 3 1 v (pre F j 0).length ((pre F j 0).map (Value.int .i64)) ∧ w.heap.size < wr.heap.size ∧ Below w.heap.size w wr) (fun _ i _ => F.blk.n - (intOf i).toNat)
  case atStart => exact ⟨0, Nat.zero_le _, rfl, O1.out, World.block_lt_of_cell? _ _ FB.out.1.c0, FB.out.2⟩
  case round =>
    clear O1 FB c0 c1 c2 c3 c4
    obtain ⟨j, hj, rfl, hown, hws, hb⟩ := hrel
    have HO := hid hown
    clear hown
    by_cases hlt : j < F.blk.n
    · obtain ⟨bb, oo, hix, hck⟩ := (HF.out.blk.on hb).at hlt
      have g1 := GG.out j hj
      have g5 := HL.out.ins j hlt
      go_wp2_with fail
      go_loopw [3, 22] (fun v i wx => ∃ t : Nat, t ≤ (F.B j).n ∧ i = .int .i64 t ∧ wx.ownsRow (w.heap.size + 1) 3 1 v (pre F j t).length ((pre F j t).map (Value.int .i64)) ∧ w.heap.size < wx.heap.size ∧ Below w.heap.size w wx) (fun _ i _ => (F.B j).n - (intOf i).toNat)
      case atStart => exact ⟨0, Nat.zero_le _, rfl, owns_on (new (same _) _) HO.out, by simp; omega, new hb _⟩
      case round =>
        clear HO hb hck hws
        obtain ⟨t, ht, rfl, hown, hws, hb⟩ := hrel
        have HO := hid hown
        clear hown
        by_cases htl : t < (F.B j).n
        · obtain ⟨ib, io, hiy, i0, i1, i2, i3, i4, i5, i6⟩ := ((HF.out.ins j hlt).on hb).at htl
          have hlen : (pre F j t).length ≤ 1000000 := by rw [pre_length]; have := giv_le (F.I j) t; omega
          go_wp2_with fail
          refine (gives_any (F.I j t) _).mono ?_
          rintro e w2 ⟨rfl, hb2⟩
          have hb3 := more (new hb _) hb2
          have hz2 := hb2.size
          simp only [World.size_alloc] at hz2
          have HO2 := hid (owns_on hb2 (owns_on (new (same _) (.cells (F.I j t).cells 48)) HO.out))
          have d1 : w2.cell? ⟨wr.heap.size, 1, none⟩ = some (.int .i64 (F.I j t).ty) := by have := ((InsAt.alloc wr (F.I j t)).on hb2).c1; simpa using this
          clear HO i0 i1 i2 i3 i4 i5 i6 hb2
          by_cases hty : (F.I j t).ty = 0
          · have t1 : ((F.I j t).ty != 0) = false := by simp [hty]
            have HTY := hid hty
            clear hty
            go_wp2_with fail
            go_round
            case rel => exact ⟨t + 1, by omega, by go_num, by rw [pre_no F j t HTY.out]; exact HO2.out, by omega, hb3⟩
            case measure => simp [intOf]; omega
          · have t1 : ((F.I j t).ty != 0) = true := by simp [hty]
            have HTY := hid hty
            clear hty
            obtain ⟨X, hX⟩ : ∃ X, pre F j t = X := ⟨_, rfl⟩
            rw [hX] at hlen HO2
            have HX := hid hX
            clear hX
            go_wp2_with (at_builtin; refine append_one rfl (.tmp 28) (.tmp 31) rfl (w.heap.size + 1) _ X rfl (F.I j t).ty HO2.out rfl hlen (by omega) ?_; intro v3 w3 hown3 hgr3)
            have b4 : Below w.heap.size w w3 := (new hb3 _).grown hgr3 (by have := hb3.size; simp; omega) (fun k hk => by have := (HO2.out.lt k hk).1; omega)
            have z4 := hgr3.size
            simp only [World.size_alloc] at z4
            have FIN := hid (And.intro hown3 b4)
            clear hown3 hgr3 b4
            go_round
            case rel => exact ⟨t + 1, by omega, by go_num, by rw [pre_yes F j t HTY.out, HX.out]; exact FIN.out.1, by omega, FIN.out.2⟩
            case measure => simp [intOf]; omega
        · obtain rfl : t = (F.B j).n := by omega
          go_wp2_with fail
          go_round
          case rel => exact ⟨j + 1, by omega, by go_num, by rw [← pre_next]; exact HO.out, hws, hb⟩
          case measure => simp [intOf]; omega
    · obtain rfl : j = F.blk.n := by omega
      go_wp2_with fail
      go_ret
      have HO2 := HO.out
      rw [pre_all] at HO2
      obtain ⟨t, ht, hn, hi, hm⟩ := ints_of_owns HO2 (by have := GG.out F.blk.n (Nat.le_refl _); rw [typesL_length]; omega)
      exact ⟨t, by rw [← ht]; rfl, hn, hi, hm.wide (by omega) (Nat.le_refl _), hb⟩

end Go.Proofs.Ythaedlnefikigaa.Ty
