/-
  plnkeep.Fit, with its true bounds.
-/
import Derived.Test.YtolipafcoolpgaaGreatJ7
namespace Go.Proofs.YtolipafcoolpgaaGreat.Chk
open Go.RowKit View Rd Num Opn Copy Ty Srt Go.Proofs.YtolipafcoolpgaaGreat.Mod Flo

set_option linter.unusedVariables false

def LightX (F : FV) : Prop := F.blk.n ≤ 16 ∧ cnt (fun j => (F.B j).n) F.blk.n ≤ 90

def SmallX (M : MV) : Prop := (∀ i, i < M.fns.n → LightX (M.F i)) ∧ cnt (fun k => fsize (M.F k)) M.fns.n ≤ 160

set_option maxHeartbeats 1000000 in
theorem light_anyX (F : FV) (w : World) (hF : In w F) :
  Calls Tryz.prog 33 #[F.val] w fun e w' => Ans (fun r => r = true → Light F ∧ LightX F) w e w' := by
 by_cases g1 : (40 : Int) < F.name.size
 ·have d1 : decide ((40 : Int) < F.name.size) = true := by simpa using g1
  go_enter Tryz.func33, Tryz.ntmps33
  go_wp2
  go_ret
  exact ⟨false, rfl, by simp, new (same w) _⟩
 have d1 : decide ((40 : Int) < F.name.size) = false := by simpa using g1
 by_cases g2 : (8 : Int) < F.par.n
 ·have d2 : decide ((8 : Int) < F.par.n) = true := by simpa using g2
  go_enter Tryz.func33, Tryz.ntmps33
  go_wp2
  go_ret
  exact ⟨false, rfl, by simp, new (same w) _⟩
 have d2 : decide ((8 : Int) < F.par.n) = false := by simpa using g2
 by_cases g3 : (16 : Int) < F.blk.n
 ·have d3 : decide ((16 : Int) < F.blk.n) = true := by simpa using g3
  go_enter Tryz.func33, Tryz.ntmps33
  go_wp2
  go_ret
  exact ⟨false, rfl, by simp, new (same w) _⟩
 have d3 : decide ((16 : Int) < F.blk.n) = false := by simpa using g3
 go_enter Tryz.func33, Tryz.ntmps33
 go_wp2
 go_loop [3, 4] (fun s i => ∃ k : Nat, k ≤ F.blk.n ∧ i = .int .i64 k ∧ s = .int .i64 (cnt (fun j => (F.B j).n) k) ∧ cnt (fun j => (F.B j).n) k ≤ 90 ∧ ∀ j, j < k → Thin F j) (fun _ i => F.blk.n - (intOf i).toNat)
 case atStart => exact ⟨0, Nat.zero_le _, rfl, rfl, by simp [cnt], fun j hj => by omega⟩
 case round =>
  obtain ⟨k, hk, rfl, rfl, hle, hall⟩ := hrel
  have HA := hid hall
  clear hall
  by_cases hlt : k < F.blk.n
  ·obtain ⟨b, o, hix, hck⟩ := hF.blk.at hlt
   have hbl := World.block_lt_of_cell? _ _ hck
   have hin := hF.ins k hlt
   have q1 := hin.1
   have q2 := hin.2.1
   by_cases g5 : (90 : Int) < cnt (fun j => (F.B j).n) k + (F.B k).n
   ·go_wp2
    go_ret
    exact ⟨false, rfl, by simp, new (same w) _⟩
   go_wp2
   go_loop [5] (fun i => ∃ t : Nat, t ≤ (F.B k).n ∧ i = .int .i64 t ∧ ∀ i, i < t → (F.I k i).args.n ≤ 20 ∧ (F.I k i).into.n ≤ 20) (fun i => (F.B k).n - (intOf i).toNat)
   case atStart => exact ⟨0, Nat.zero_le _, rfl, fun j hj => by omega⟩
   case round =>
    obtain ⟨t, ht, rfl, hall⟩ := hrel
    have HB := hid hall
    clear hall
    by_cases htl : t < (F.B k).n
    ·obtain ⟨ib, io, hiy, c0, c1, c2, c3, c4, c5, c6⟩ := hin.at htl
     have hbl' := World.block_lt_of_cell? _ _ c5
     by_cases g6 : (20 : Int) < (F.I k t).args.n
     ·have d6 : decide ((20 : Int) < (F.I k t).args.n) = true := by simpa using g6
      go_wp2
      go_ret
      exact ⟨false, rfl, by simp, new (same w) _⟩
     have d6 : decide ((20 : Int) < (F.I k t).args.n) = false := by simpa using g6
     by_cases g7 : (20 : Int) < (F.I k t).into.n
     ·have d7 : decide ((20 : Int) < (F.I k t).into.n) = true := by simpa using g7
      go_wp2
      go_ret
      exact ⟨false, rfl, by simp, new (same w) _⟩
     have d7 : decide ((20 : Int) < (F.I k t).into.n) = false := by simpa using g7
     go_wp2
     go_round
     case rel => exact ⟨t + 1, by omega, by go_num, upto HB.out ⟨by omega, by omega⟩⟩
     case measure => simp [intOf]; omega
    ·obtain rfl : t = (F.B k).n := by omega
     go_wp2
     go_round
     case rel => exact ⟨k + 1, by omega, by go_num, by simp [cnt], by rw [cnt]; omega, upto HA.out HB.out⟩
     case measure => simp [intOf]; omega
  ·obtain rfl : k = F.blk.n := by omega
   go_wp2
   go_ret
   exact ⟨true, rfl, fun _ => ⟨light_of (by omega) (by omega) (by omega) (Nat.le_trans hle (by decide)) HA.out, by omega, hle⟩, new (same w) _⟩

set_option maxRecDepth 100000 in
set_option maxHeartbeats 2000000 in
theorem small_anyX (M : MV) (w : World) (hM : InM w M) :
  Calls Tryz.prog 14 #[M.val] w fun e w' => Ans (fun r => r = true → SmallM M ∧ SmallX M) w e w' := by
 by_cases g1 : (14 : Int) < M.ext.n
 ·have d1 : decide ((14 : Int) < M.ext.n) = true := by simpa using g1
  go_enter Tryz.func14, Tryz.ntmps14
  go_wp2_with fail
  go_ret
  exact ⟨false, rfl, by simp, new (same w) _⟩
 have d1 : decide ((14 : Int) < M.ext.n) = false := by simpa using g1
 by_cases g2 : (14 : Int) < M.glo.n
 ·have d2 : decide ((14 : Int) < M.glo.n) = true := by simpa using g2
  go_enter Tryz.func14, Tryz.ntmps14
  go_wp2_with fail
  go_ret
  exact ⟨false, rfl, by simp, new (same w) _⟩
 have d2 : decide ((14 : Int) < M.glo.n) = false := by simpa using g2
 by_cases g3 : (8 : Int) < M.tab.n
 ·have d3 : decide ((8 : Int) < M.tab.n) = true := by simpa using g3
  go_enter Tryz.func14, Tryz.ntmps14
  go_wp2_with fail
  go_ret
  exact ⟨false, rfl, by simp, new (same w) _⟩
 have d3 : decide ((8 : Int) < M.tab.n) = false := by simpa using g3
 by_cases g4 : (26 : Int) < M.fns.n
 ·have d4 : decide ((26 : Int) < M.fns.n) = true := by simpa using g4
  go_enter Tryz.func14, Tryz.ntmps14
  go_wp2_with fail
  go_ret
  exact ⟨false, rfl, by simp, new (same w) _⟩
 have d4 : decide ((26 : Int) < M.fns.n) = false := by simpa using g4
 have HM := hid hM
 clear hM
 go_enter Tryz.func14, Tryz.ntmps14
 go_wp2_with fail
 go_loop [3] (fun i => ∃ k : Nat, k ≤ M.ext.n ∧ i = .int .i64 k ∧ ∀ i, i < k → (M.E i).name.size ≤ 40 ∧ (M.E i).par.n ≤ 10) (fun i => M.ext.n - (intOf i).toNat)
 case atStart => exact ⟨0, Nat.zero_le _, rfl, fun i hi => by omega⟩
 case round =>
  obtain ⟨k, hk, rfl, hall⟩ := hrel
  have HA := hid hall
  clear hall
  by_cases hlt : k < M.ext.n
  ·obtain ⟨b, o, hix, c0, c1, c2⟩ := HM.out.ext.at underlying22 size65 hlt
   have hbl := World.block_lt_of_cell? _ _ c0
   by_cases q1 : (40 : Int) < (M.E k).name.size
   ·have t1 : decide ((40 : Int) < (M.E k).name.size) = true := by simpa using q1
    go_wp2_with fail
    go_ret
    exact ⟨false, rfl, by simp, new (same w) _⟩
   have t1 : decide ((40 : Int) < (M.E k).name.size) = false := by simpa using q1
   by_cases q2 : (10 : Int) < (M.E k).par.n
   ·have t2 : decide ((10 : Int) < (M.E k).par.n) = true := by simpa using q2
    go_wp2_with fail
    go_ret
    exact ⟨false, rfl, by simp, new (same w) _⟩
   have t2 : decide ((10 : Int) < (M.E k).par.n) = false := by simpa using q2
   go_wp2_with fail
   go_round
   case rel => exact ⟨k + 1, by omega, by go_num, upto HA.out ⟨by omega, by omega⟩⟩
   case measure => simp [intOf]; omega
  ·obtain rfl : k = M.ext.n := by omega
   go_wp2_with fail
   go_loop [4] (fun i => ∃ k : Nat, k ≤ M.glo.n ∧ i = .int .i64 k ∧ ∀ i, i < k → (M.G i).name.size ≤ 40 ∧ (M.G i).cel.n ≤ 20) (fun i => M.glo.n - (intOf i).toNat)
   case atStart => exact ⟨0, Nat.zero_le _, rfl, fun i hi => by omega⟩
   case round =>
    clear hlt
    obtain ⟨k, hk, rfl, hall⟩ := hrel
    have HB := hid hall
    clear hall
    by_cases hlt : k < M.glo.n
    ·obtain ⟨b, o, hix, c0, c1⟩ := HM.out.glo.at underlying23 size47 hlt
     have hbl := World.block_lt_of_cell? _ _ c0
     by_cases q1 : (40 : Int) < (M.G k).name.size
     ·have t1 : decide ((40 : Int) < (M.G k).name.size) = true := by simpa using q1
      go_wp2_with fail
      go_ret
      exact ⟨false, rfl, by simp, new (same w) _⟩
     have t1 : decide ((40 : Int) < (M.G k).name.size) = false := by simpa using q1
     by_cases q2 : (20 : Int) < (M.G k).cel.n
     ·have t2 : decide ((20 : Int) < (M.G k).cel.n) = true := by simpa using q2
      go_wp2_with fail
      go_ret
      exact ⟨false, rfl, by simp, new (same w) _⟩
     have t2 : decide ((20 : Int) < (M.G k).cel.n) = false := by simpa using q2
     go_wp2_with fail
     go_round
     case rel => exact ⟨k + 1, by omega, by go_num, upto HB.out ⟨by omega, by omega⟩⟩
     case measure => simp [intOf]; omega
    ·obtain rfl : k = M.glo.n := by omega
     go_wp2_with fail
     go_loop [5] (fun i => ∃ k : Nat, k ≤ M.tab.n ∧ i = .int .i64 k ∧ ∀ i, i < k → (M.T i).name.size ≤ 40 ∧ (M.T i).cel.n ≤ 16) (fun i => M.tab.n - (intOf i).toNat)
     case atStart => exact ⟨0, Nat.zero_le _, rfl, fun i hi => by omega⟩
     case round =>
      clear hlt
      obtain ⟨k, hk, rfl, hall⟩ := hrel
      have HC := hid hall
      clear hall
      by_cases hlt : k < M.tab.n
      ·obtain ⟨b, o, hix, c0, c1⟩ := HM.out.tab.at underlying24 size49 hlt
       have hbl := World.block_lt_of_cell? _ _ c0
       by_cases q1 : (40 : Int) < (M.T k).name.size
       ·have t1 : decide ((40 : Int) < (M.T k).name.size) = true := by simpa using q1
        go_wp2_with fail
        go_ret
        exact ⟨false, rfl, by simp, new (same w) _⟩
       have t1 : decide ((40 : Int) < (M.T k).name.size) = false := by simpa using q1
       by_cases q2 : (16 : Int) < (M.T k).cel.n
       ·have t2 : decide ((16 : Int) < (M.T k).cel.n) = true := by simpa using q2
        go_wp2_with fail
        go_ret
        exact ⟨false, rfl, by simp, new (same w) _⟩
       have t2 : decide ((16 : Int) < (M.T k).cel.n) = false := by simpa using q2
       go_wp2_with fail
       go_round
       case rel => exact ⟨k + 1, by omega, by go_num, upto HC.out ⟨by omega, by omega⟩⟩
       case measure => simp [intOf]; omega
      ·obtain rfl : k = M.tab.n := by omega
       go_wp2_with fail
       go_loopw [6, 7] (fun l i wr => ∃ k : Nat, k ≤ M.fns.n ∧ i = .int .i64 k ∧ l = .int .i64 (cnt (fun k => fsize (M.F k)) k) ∧ (∀ i, i < k → Light (M.F i) ∧ LightX (M.F i)) ∧ wr.cell? ⟨w.heap.size, 3, none⟩ = some (.slice M.fns.a M.fns.n M.fns.c) ∧ Below w.heap.size w wr) (fun _ i _ => M.fns.n - (intOf i).toNat)
       case atStart => exact ⟨0, Nat.zero_le _, rfl, rfl, fun i hi => by omega, by simp, new (same w) _⟩
       case round =>
        clear hlt
        obtain ⟨k, hk, rfl, rfl, hall, hc3, hb⟩ := hrel
        have HD := hid hall
        clear hall
        have hcn : Hid (cnt (fun k => fsize (M.F k)) k ≤ k * 400) := cnt_le (fun i hi => (HD.out i hi).1.all)
        obtain ⟨L, hL⟩ : ∃ L, cnt (fun k => fsize (M.F k)) k = L := ⟨_, rfl⟩
        have hLb : L ≤ 10400 := by have := hcn.out; omega
        rw [hL]
        have HL := hid hL
        clear hL hcn
        by_cases hlt : k < M.fns.n
        ·obtain ⟨b, o, hix, c0, c1, c2, c3, c4⟩ := (HM.out.on hb).fns.at underlying25 size36 hlt
         go_wp2_with fail
         refine (light_anyX (M.F k) _ ((HM.out.on hb).fnI k hlt)).mono ?_
         rintro e w2 ⟨r, rfl, hr, hb2⟩
         have hb3 := more hb hb2
         cases r
         ·go_wp2_with fail
          go_ret
          exact ⟨false, rfl, by simp, hb3⟩
         have LK := hid (hr rfl).1
         have LX := hid (hr rfl).2
         have hc4 := cell_on hb2 hc3
         have c0' := cell_on hb2 c0
         have c1' := cell_on hb2 c1
         have c2' := cell_on hb2 c2
         have c3' := cell_on hb2 c3
         have c4' := cell_on hb2 c4
         clear hr hb2 c0 c1 c2 c3 c4 hc3
         go_wp2_with fail
         refine (size_ref (M.F k) _ ((HM.out.on hb3).fnI k hlt) LK.out).mono ?_
         rintro e w3 ⟨rfl, hb4⟩
         have hb5 := more hb3 hb4
         have hc5 := cell_on hb4 hc4
         have hsz : cnt (fun j => ((M.F k).B j).n) (M.F k).blk.n ≤ 400 := LK.out.all
         obtain ⟨Z, hZ⟩ : ∃ Z, cnt (fun j => ((M.F k).B j).n) (M.F k).blk.n = Z := ⟨_, rfl⟩
         rw [hZ] at hsz ⊢
         have HZ := hid hZ
         clear hZ hb4 hc4 c0' c1' c2' c3' c4'
         go_wp2_with fail
         go_round
         case rel => exact ⟨k + 1, by omega, by go_num, by rw [cnt, HL.out, show fsize (M.F k) = Z from HZ.out]; simp, upto HD.out ⟨LK.out, LX.out⟩, hc5, hb5⟩
         case measure => simp [intOf]; omega
        ·obtain rfl : k = M.fns.n := by omega
         by_cases q : L ≤ 160
         ·have q' : decide ((L : Int) ≤ 160) = true := by simp; omega
          go_wp2_with fail
          go_ret
          exact ⟨true, rfl, fun _ => ⟨⟨by omega, by omega, by omega, by omega, HA.out, HB.out, HC.out, fun i hi => (HD.out i hi).1, by rw [HL.out]; omega⟩, fun i hi => (HD.out i hi).2, by rw [HL.out]; exact q⟩, hb⟩
         ·have q' : decide ((L : Int) ≤ 160) = false := by simp; omega
          go_wp2_with fail
          go_ret
          exact ⟨false, rfl, by simp, hb⟩

set_option maxHeartbeats 1000000 in
theorem fit_anyX (M : MV) (w : World) (hM : InM w M) : Calls Tryz.prog 8 #[M.val] w fun e w' => Ans (fun r => r = true → SmallM M ∧ FitM M ∧ SmallX M) w e w' := by
 have HM := hid hM
 clear hM
 go_enter Tryz.func8, Tryz.ntmps8
 go_wp2_with fail
 refine (small_anyX M _ (HM.out.on (new (same w) _))).mono ?_
 rintro e w1 ⟨r, rfl, hr, hb⟩
 have HR := hid (show r = true → SmallM M ∧ SmallX M from hr)
 have B1 := hid (View.more (new (same w) _) hb)
 have m0 := cell_on hb (show (w.alloc (.cells (mcells M) 27)).cell? ⟨w.heap.size, 0, none⟩ = some (.slice M.ext.a M.ext.n M.ext.c) by simp)
 have m1 := cell_on hb (show (w.alloc (.cells (mcells M) 27)).cell? ⟨w.heap.size, 1, none⟩ = some (.slice M.glo.a M.glo.n M.glo.c) by simp)
 have m2 := cell_on hb (show (w.alloc (.cells (mcells M) 27)).cell? ⟨w.heap.size, 2, none⟩ = some (.slice M.tab.a M.tab.n M.tab.c) by simp)
 have m3 := cell_on hb (show (w.alloc (.cells (mcells M) 27)).cell? ⟨w.heap.size, 3, none⟩ = some (.slice M.fns.a M.fns.n M.fns.c) by simp)
 clear hr hb
 cases r with
 | false =>
  go_wp2_with fail
  go_ret
  exact ⟨false, rfl, (fun h => by cases h), B1.out⟩
 | true =>
  have HSm := hid (HR.out rfl).1
  have HSx := hid (HR.out rfl).2
  clear HR
  go_wp2_with fail
  refine (check_any M _ (HM.out.on B1.out) HSm.out).mono ?_
  rintro e w2 ⟨r, rfl, hr, hb⟩
  have HR2 := hid hr
  have B2 := hid (View.more B1.out hb)
  clear hr hb m0 m1 m2 m3
  go_wp2_with fail
  go_ret
  exact ⟨_, rfl, (fun h => ⟨HSm.out, HR2.out.1 (by simpa using h), HSx.out⟩), B2.out⟩

end Go.Proofs.YtolipafcoolpgaaGreat.Chk
