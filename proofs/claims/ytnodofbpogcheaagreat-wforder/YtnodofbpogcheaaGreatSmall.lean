/-
  Whether a module is light enough: the contract of plnkeep.Small.
-/
import Derived.Test.YtnodofbpogcheaaGreatJ2
namespace Go.Proofs.YtnodofbpogcheaaGreat.Mod
open Go.RowKit View Rd Num Opn Copy

set_option linter.unusedVariables false

def fsize (F : FV) : Nat := cnt (fun j => (F.B j).n) F.blk.n

structure SmallM (M : MV) : Prop where
 ext : M.ext.n ≤ 14
 glo : M.glo.n ≤ 14
 tab : M.tab.n ≤ 8
 fns : M.fns.n ≤ 26
 extI : ∀ i, i < M.ext.n → (M.E i).name.size ≤ 40 ∧ (M.E i).par.n ≤ 10
 gloI : ∀ i, i < M.glo.n → (M.G i).name.size ≤ 40 ∧ (M.G i).cel.n ≤ 20
 tabI : ∀ i, i < M.tab.n → (M.T i).name.size ≤ 40 ∧ (M.T i).cel.n ≤ 16
 light : ∀ k, k < M.fns.n → Light (M.F k)
 all : cnt (fun k => fsize (M.F k)) M.fns.n ≤ 400

abbrev mcells (M : MV) : Array Value := #[.slice M.ext.a M.ext.n M.ext.c, .slice M.glo.a M.glo.n M.glo.c, .slice M.tab.a M.tab.n M.tab.c, .slice M.fns.a M.fns.n M.fns.c]

set_option maxRecDepth 100000 in
set_option maxHeartbeats 2000000 in
theorem small_any (M : MV) (w : World) (hM : InM w M) :
  Calls Tryz.prog 15 #[M.val] w fun e w' => Ans (fun r => r = true → SmallM M) w e w' := by
 by_cases g1 : (14 : Int) < M.ext.n
 ·have d1 : decide ((14 : Int) < M.ext.n) = true := by simpa using g1
  go_enter Tryz.func15, Tryz.ntmps15
  go_wp2_with fail
  go_ret
  exact ⟨false, rfl, by simp, new (same w) _⟩
 have d1 : decide ((14 : Int) < M.ext.n) = false := by simpa using g1
 by_cases g2 : (14 : Int) < M.glo.n
 ·have d2 : decide ((14 : Int) < M.glo.n) = true := by simpa using g2
  go_enter Tryz.func15, Tryz.ntmps15
  go_wp2_with fail
  go_ret
  exact ⟨false, rfl, by simp, new (same w) _⟩
 have d2 : decide ((14 : Int) < M.glo.n) = false := by simpa using g2
 by_cases g3 : (8 : Int) < M.tab.n
 ·have d3 : decide ((8 : Int) < M.tab.n) = true := by simpa using g3
  go_enter Tryz.func15, Tryz.ntmps15
  go_wp2_with fail
  go_ret
  exact ⟨false, rfl, by simp, new (same w) _⟩
 have d3 : decide ((8 : Int) < M.tab.n) = false := by simpa using g3
 by_cases g4 : (26 : Int) < M.fns.n
 ·have d4 : decide ((26 : Int) < M.fns.n) = true := by simpa using g4
  go_enter Tryz.func15, Tryz.ntmps15
  go_wp2_with fail
  go_ret
  exact ⟨false, rfl, by simp, new (same w) _⟩
 have d4 : decide ((26 : Int) < M.fns.n) = false := by simpa using g4
 have HM := hid hM
 clear hM
 go_enter Tryz.func15, Tryz.ntmps15
 go_wp2_with fail
 go_loop [3] (fun i => ∃ k : Nat, k ≤ M.ext.n ∧ i = .int .i64 k ∧ ∀ i, i < k → (M.E i).name.size ≤ 40 ∧ (M.E i).par.n ≤ 10) (fun i => M.ext.n - (intOf i).toNat)
 case atStart => exact ⟨0, Nat.zero_le _, rfl, fun i hi => by omega⟩
 case round =>
  obtain ⟨k, hk, rfl, hall⟩ := hrel
  have HA := hid hall
  clear hall
  by_cases hlt : k < M.ext.n
  ·obtain ⟨b, o, hix, c0, c1, c2⟩ := HM.out.ext.at underlying22 size54 hlt
   have hbl := World.block_lt_of_cell? _ _ c0
   by_cases q1 : (40 : Int) < (M.E k).name.size
   ·have t1 : decide ((40 : Int) < (M.E k).name.size) = true := by simpa using q1
    go_wp2_with fail
    go_ret
    exact ⟨false, rfl, by simp, new (same w) _⟩
   have t1 : decide ((40 : Int) < (M.E k).name.size) = false := by simpa using q1
   by_cases q2 : (10 : Int) < (M.E k).par.n
   ·have t2 : decide ((10 : Int) < (M.E k).par.n) = true := by simpa using q2
    go_wp2_with fail
    go_ret
    exact ⟨false, rfl, by simp, new (same w) _⟩
   have t2 : decide ((10 : Int) < (M.E k).par.n) = false := by simpa using q2
   go_wp2_with fail
   go_round
   case rel => exact ⟨k + 1, by omega, by go_num, upto HA.out ⟨by omega, by omega⟩⟩
   case measure => simp [intOf]; omega
  ·obtain rfl : k = M.ext.n := by omega
   go_wp2_with fail
   go_loop [4] (fun i => ∃ k : Nat, k ≤ M.glo.n ∧ i = .int .i64 k ∧ ∀ i, i < k → (M.G i).name.size ≤ 40 ∧ (M.G i).cel.n ≤ 20) (fun i => M.glo.n - (intOf i).toNat)
   case atStart => exact ⟨0, Nat.zero_le _, rfl, fun i hi => by omega⟩
   case round =>
    clear hlt
    obtain ⟨k, hk, rfl, hall⟩ := hrel
    have HB := hid hall
    clear hall
    by_cases hlt : k < M.glo.n
    ·obtain ⟨b, o, hix, c0, c1⟩ := HM.out.glo.at underlying23 size47 hlt
     have hbl := World.block_lt_of_cell? _ _ c0
     by_cases q1 : (40 : Int) < (M.G k).name.size
     ·have t1 : decide ((40 : Int) < (M.G k).name.size) = true := by simpa using q1
      go_wp2_with fail
      go_ret
      exact ⟨false, rfl, by simp, new (same w) _⟩
     have t1 : decide ((40 : Int) < (M.G k).name.size) = false := by simpa using q1
     by_cases q2 : (20 : Int) < (M.G k).cel.n
     ·have t2 : decide ((20 : Int) < (M.G k).cel.n) = true := by simpa using q2
      go_wp2_with fail
      go_ret
      exact ⟨false, rfl, by simp, new (same w) _⟩
     have t2 : decide ((20 : Int) < (M.G k).cel.n) = false := by simpa using q2
     go_wp2_with fail
     go_round
     case rel => exact ⟨k + 1, by omega, by go_num, upto HB.out ⟨by omega, by omega⟩⟩
     case measure => simp [intOf]; omega
    ·obtain rfl : k = M.glo.n := by omega
     go_wp2_with fail
     go_loop [5] (fun i => ∃ k : Nat, k ≤ M.tab.n ∧ i = .int .i64 k ∧ ∀ i, i < k → (M.T i).name.size ≤ 40 ∧ (M.T i).cel.n ≤ 16) (fun i => M.tab.n - (intOf i).toNat)
     case atStart => exact ⟨0, Nat.zero_le _, rfl, fun i hi => by omega⟩
     case round =>
      clear hlt
      obtain ⟨k, hk, rfl, hall⟩ := hrel
      have HC := hid hall
      clear hall
      by_cases hlt : k < M.tab.n
      ·obtain ⟨b, o, hix, c0, c1⟩ := HM.out.tab.at underlying24 size49 hlt
       have hbl := World.block_lt_of_cell? _ _ c0
       by_cases q1 : (40 : Int) < (M.T k).name.size
       ·have t1 : decide ((40 : Int) < (M.T k).name.size) = true := by simpa using q1
        go_wp2_with fail
        go_ret
        exact ⟨false, rfl, by simp, new (same w) _⟩
       have t1 : decide ((40 : Int) < (M.T k).name.size) = false := by simpa using q1
       by_cases q2 : (16 : Int) < (M.T k).cel.n
       ·have t2 : decide ((16 : Int) < (M.T k).cel.n) = true := by simpa using q2
        go_wp2_with fail
        go_ret
        exact ⟨false, rfl, by simp, new (same w) _⟩
       have t2 : decide ((16 : Int) < (M.T k).cel.n) = false := by simpa using q2
       go_wp2_with fail
       go_round
       case rel => exact ⟨k + 1, by omega, by go_num, upto HC.out ⟨by omega, by omega⟩⟩
       case measure => simp [intOf]; omega
      ·obtain rfl : k = M.tab.n := by omega
       go_wp2_with fail
       go_loopw [6, 7] (fun l i wr => ∃ k : Nat, k ≤ M.fns.n ∧ i = .int .i64 k ∧ l = .int .i64 (cnt (fun k => fsize (M.F k)) k) ∧ (∀ i, i < k → Light (M.F i)) ∧ wr.cell? ⟨w.heap.size, 3, none⟩ = some (.slice M.fns.a M.fns.n M.fns.c) ∧ Below w.heap.size w wr) (fun _ i _ => M.fns.n - (intOf i).toNat)
       case atStart => exact ⟨0, Nat.zero_le _, rfl, rfl, fun i hi => by omega, by simp, new (same w) _⟩
       case round =>
        clear hlt
        obtain ⟨k, hk, rfl, rfl, hall, hc3, hb⟩ := hrel
        have HD := hid hall
        clear hall
        have hcn : Hid (cnt (fun k => fsize (M.F k)) k ≤ k * 400) := cnt_le (fun i hi => (HD.out i hi).all)
        obtain ⟨L, hL⟩ : ∃ L, cnt (fun k => fsize (M.F k)) k = L := ⟨_, rfl⟩
        have hLb : L ≤ 10400 := by have := hcn.out; omega
        rw [hL]
        have HL := hid hL
        clear hL hcn
        by_cases hlt : k < M.fns.n
        ·obtain ⟨b, o, hix, c0, c1, c2, c3, c4⟩ := (HM.out.on hb).fns.at underlying25 size36 hlt
         go_wp2_with fail
         refine (light_any (M.F k) _ ((HM.out.on hb).fnI k hlt)).mono ?_
         rintro e w2 ⟨r, rfl, hr, hb2⟩
         have hb3 := more hb hb2
         cases r
         ·go_wp2_with fail
          go_ret
          exact ⟨false, rfl, by simp, hb3⟩
         have LK := hid (hr rfl)
         have hc4 := cell_on hb2 hc3
         have c0' := cell_on hb2 c0
         have c1' := cell_on hb2 c1
         have c2' := cell_on hb2 c2
         have c3' := cell_on hb2 c3
         have c4' := cell_on hb2 c4
         clear hr hb2 c0 c1 c2 c3 c4 hc3
         go_wp2_with fail
         refine (size_ref (M.F k) _ ((HM.out.on hb3).fnI k hlt) LK.out).mono ?_
         rintro e w3 ⟨rfl, hb4⟩
         have hb5 := more hb3 hb4
         have hc5 := cell_on hb4 hc4
         have hsz : cnt (fun j => ((M.F k).B j).n) (M.F k).blk.n ≤ 400 := LK.out.all
         obtain ⟨Z, hZ⟩ : ∃ Z, cnt (fun j => ((M.F k).B j).n) (M.F k).blk.n = Z := ⟨_, rfl⟩
         rw [hZ] at hsz ⊢
         have HZ := hid hZ
         clear hZ hb4 hc4 c0' c1' c2' c3' c4'
         go_wp2_with fail
         go_round
         case rel => exact ⟨k + 1, by omega, by go_num, by rw [cnt, HL.out, show fsize (M.F k) = Z from HZ.out]; simp, upto HD.out LK.out, hc5, hb5⟩
         case measure => simp [intOf]; omega
        ·obtain rfl : k = M.fns.n := by omega
         by_cases q : L ≤ 160
         ·have q' : decide ((L : Int) ≤ 160) = true := by simp; omega
          go_wp2_with fail
          go_ret
          exact ⟨true, rfl, fun _ => ⟨by omega, by omega, by omega, by omega, HA.out, HB.out, HC.out, HD.out, by rw [HL.out]; omega⟩, hb⟩
         ·have q' : decide ((L : Int) ≤ 160) = false := by simp; omega
          go_wp2_with fail
          go_ret
          exact ⟨false, rfl, by simp, hb⟩

end Go.Proofs.YtnodofbpogcheaaGreat.Mod
