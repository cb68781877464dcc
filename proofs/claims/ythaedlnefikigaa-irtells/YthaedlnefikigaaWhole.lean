/-
  How great a module is: ir.Whole, plnref3.Whole.
-/
import Derived.Test.YthaedlnefikigaaSmall
namespace Go.Proofs.Ythaedlnefikigaa.Mod
open Go.RowKit View Rd Num Opn Copy

set_option linter.unusedVariables false

set_option maxHeartbeats 1000000 in
theorem whole_ref (M : MV) (w : World) (hM : InM w M) (hs : SmallM M) :
    Calls Try.prog 11 #[M.val] w fun e w' => e = .returned (.int .i64 (cnt (fun k => fsize (M.F k)) M.fns.n)) ∧ Below w.heap.size w w' := by
  have HM := hid hM
  have HS := hid hs
  have x4 := hs.fns
  clear hM hs
  go_enter Try.func11, Try.ntmps11
  go_wp2_with fail
  go_loopw [3, 4] (fun l i wr => ∃ k : Nat, k ≤ M.fns.n ∧ i = .int .i64 k ∧ l = .int .i64 (cnt (fun k => fsize (M.F k)) k) ∧ wr.cell? ⟨w.heap.size, 3, none⟩ = some (.slice M.fns.a M.fns.n M.fns.c) ∧ Below w.heap.size w wr) (fun _ i _ => M.fns.n - (intOf i).toNat)
  case atStart => exact ⟨0, Nat.zero_le _, rfl, rfl, by simp, new (same w) _⟩
  case round =>
    obtain ⟨k, hk, rfl, rfl, hc3, hb⟩ := hrel
    have hcn : Hid (cnt (fun k => fsize (M.F k)) k ≤ k * 90) := cnt_le (fun i hi => (HS.out.light i (by omega)).all)
    obtain ⟨L, hL⟩ : ∃ L, cnt (fun k => fsize (M.F k)) k = L := ⟨_, rfl⟩
    have hLb : L ≤ 2400 := by have := hcn.out; omega
    rw [hL]
    have HL := hid hL
    clear hL hcn
    by_cases hlt : k < M.fns.n
    · obtain ⟨b, o, hix, c0, c1, c2, c3, c4⟩ := (HM.out.on hb).fns.at underlying25 size36 hlt
      go_wp2_with fail
      refine (size_ref (M.F k) _ ((HM.out.on hb).fnI k hlt) (HS.out.light k hlt)).mono ?_
      rintro e w2 ⟨rfl, hb3⟩
      have HB := hid (And.intro (cell_on hb3 hc3) (more hb hb3))
      clear hb3
      have hsz : cnt (fun j => ((M.F k).B j).n) (M.F k).blk.n ≤ 90 := (HS.out.light k hlt).all
      obtain ⟨Z, hZ⟩ : ∃ Z, cnt (fun j => ((M.F k).B j).n) (M.F k).blk.n = Z := ⟨_, rfl⟩
      rw [hZ] at hsz ⊢
      have HZ := hid hZ
      clear hZ c0 c1 c2 c3 c4
      go_wp2_with fail
      go_round
      case rel => exact ⟨k + 1, by omega, by go_num, by rw [cnt, HL.out, show fsize (M.F k) = Z from HZ.out]; simp, HB.out.1, HB.out.2⟩
      case measure => simp [intOf]; omega
    · obtain rfl : k = M.fns.n := by omega
      go_wp2_with fail
      go_ret
      exact ⟨by rw [HL.out]; rfl, hb⟩

set_option maxHeartbeats 1000000 in
theorem whole_ir (M : MV) (w : World) (hM : InM w M) (hs : SmallM M) :
    Calls Try.prog 10 #[M.val] w fun e w' => e = .returned (.int .i64 (cnt (fun k => fsize (M.F k)) M.fns.n)) ∧ Below w.heap.size w w' := by
  have HM := hid hM
  have HS := hid hs
  have x4 := hs.fns
  clear hM hs
  go_enter Try.func10, Try.ntmps10
  go_wp2_with fail
  go_loopw [3, 9] (fun l i wr => ∃ k : Nat, k ≤ M.fns.n ∧ i = .int .i64 k ∧ l = .int .i64 (cnt (fun k => fsize (M.F k)) k) ∧ Below w.heap.size w wr) (fun _ i _ => M.fns.n - (intOf i).toNat)
  case atStart => exact ⟨0, Nat.zero_le _, rfl, rfl, new (same w) _⟩
  case round =>
    obtain ⟨k, hk, rfl, rfl, hb⟩ := hrel
    have hcn : Hid (cnt (fun k => fsize (M.F k)) k ≤ k * 90) := cnt_le (fun i hi => (HS.out.light i (by omega)).all)
    obtain ⟨L, hL⟩ : ∃ L, cnt (fun k => fsize (M.F k)) k = L := ⟨_, rfl⟩
    have hLb : L ≤ 2400 := by have := hcn.out; omega
    rw [hL]
    have HL := hid hL
    clear hL hcn
    by_cases hlt : k < M.fns.n
    · obtain ⟨b, o, hix, c0, c1, c2, c3, c4⟩ := (HM.out.on hb).fns.at underlying25 size36 hlt
      go_wp2_with fail
      have hb2 := new hb (.cells (fcells (M.F k)) 36)
      refine (size_ir (M.F k) _ (((HM.out.on hb).fnI k hlt).on (new (same _) _)) (HS.out.light k hlt)).mono ?_
      rintro e w2 ⟨rfl, hb3⟩
      have HB := hid (more hb2 hb3)
      clear hb3 hb2
      have hsz : cnt (fun j => ((M.F k).B j).n) (M.F k).blk.n ≤ 90 := (HS.out.light k hlt).all
      obtain ⟨Z, hZ⟩ : ∃ Z, cnt (fun j => ((M.F k).B j).n) (M.F k).blk.n = Z := ⟨_, rfl⟩
      rw [hZ] at hsz ⊢
      have HZ := hid hZ
      clear hZ c0 c1 c2 c3 c4
      go_wp2_with fail
      go_round
      case rel => exact ⟨k + 1, by omega, by go_num, by rw [cnt, HL.out, show fsize (M.F k) = Z from HZ.out]; simp, HB.out⟩
      case measure => simp [intOf]; omega
    · obtain rfl : k = M.fns.n := by omega
      go_wp2_with fail
      go_ret
      exact ⟨by rw [HL.out]; rfl, hb⟩

end Go.Proofs.Ythaedlnefikigaa.Mod
