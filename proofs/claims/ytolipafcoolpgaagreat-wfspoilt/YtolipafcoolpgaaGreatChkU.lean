/-
  Types that fit, by the document: plnref3.fits at Sel, Call, Ext, Phi, Ret.
-/
import Derived.Test.YtolipafcoolpgaaGreatJ5
import Derived.Test.YtolipafcoolpgaaGreatSameR
import Derived.BigQuiet
import Derived.Deep.QuietTactic
namespace Go.Proofs.YtolipafcoolpgaaGreat.Chk
open Go.RowKit View Rd Num Opn Copy Go.Proofs.YtolipafcoolpgaaGreat.Mod

set_option linter.unusedVariables false

set_option maxRecDepth 10000 in
set_option maxHeartbeats 4000000 in
theorem fit_17 (M : MV) (F : FV) (v : IV) (s : Sl) (g : Nat → Int) (w : World) (hop : v.op = 17) (hs : Ints w s g) (hn : 3 ≤ s.n) (hm : s.n ≤ 20) : Calls Tryz.prog 112 #[M.val, F.val, v.val, .slice s.a s.n s.c] w fun e w' => Ans (fun r => r = true ↔ FitI M F v s.n g) w e w' := by
 obtain ⟨W, hW, LW, VI⟩ := fitStart M F v w
 have FA : FuncAt W (w.heap.size + 1) F := by
  rw [← hW]
  have := (FuncAt.alloc (w.alloc (.cells (mcells M) 27)) F).on (new (same _) (.cells v.cells 43))
  simpa using this
 have m0 : W.cell? ⟨w.heap.size, 0, none⟩ = some (.slice M.ext.a M.ext.n M.ext.c) := by rw [← hW]; exact cell_on (new (new (same _) _) _) (by simp)
 have m3 : W.cell? ⟨w.heap.size, 3, none⟩ = some (.slice M.fns.a M.fns.n M.fns.c) := by rw [← hW]; exact cell_on (new (new (same _) _) _) (by simp)
 obtain ⟨v0, v1, v2, v3, v4, v5, v6⟩ := VI.head
 obtain ⟨f0, f1, f2, f3, f4⟩ := FA
 rw [hop] at v0
 have IS := hid (hs.on LW.out)
 have HOP := hid hop
 have YES := hid (show ∀ wx, Below W.heap.size W wx → FitI M F v s.n g → Ans (fun r => r = true ↔ FitI M F v s.n g) w (.returned (.bool true)) wx from fun wx h hf => ⟨true, rfl, by simp [hf], View.more LW.out h⟩)
 have NO := hid (show ∀ wx, Below W.heap.size W wx → ¬ FitI M F v s.n g → Ans (fun r => r = true ↔ FitI M F v s.n g) w (.returned (.bool false)) wx from fun wx h hf => ⟨false, rfl, by simp [hf], View.more LW.out h⟩)
 obtain ⟨b0, o0, hx0, hc0⟩ := IS.out.at (k := 0) (by omega)
 have hy0 : ∀ wx, (Instr.indexAt 33 (.slice s.a s.n s.c) (.int .i64 0)).run Tryz.prog wx = .ok (.pointer (some ⟨b0, o0, none⟩)) wx := hx0
 clear hx0
 obtain ⟨b1, o1, hx1, hc1⟩ := IS.out.at (k := 1) (by omega)
 have hy1 : ∀ wx, (Instr.indexAt 33 (.slice s.a s.n s.c) (.int .i64 1)).run Tryz.prog wx = .ok (.pointer (some ⟨b1, o1, none⟩)) wx := hx1
 clear hx1
 obtain ⟨b2, o2, hx2, hc2⟩ := IS.out.at (k := 2) (by omega)
 have hy2 : ∀ wx, (Instr.indexAt 33 (.slice s.a s.n s.c) (.int .i64 2)).run Tryz.prog wx = .ok (.pointer (some ⟨b2, o2, none⟩)) wx := hx2
 clear hx2
 have U := hid (show FitI M F v s.n g ↔ g 0 = 2 ∧ g 1 = v.ty ∧ g 2 = v.ty by unfold FitI; rw [HOP.out]; simp)
 clear VI hop hs
 by_cases h0 : g 0 = 2
 ·have t0 : (g 0 == 2) = true := by simp [h0]
  by_cases h1 : g 1 = v.ty
  ·have t1 : (g 1 == v.ty) = true := by simp [h1]
   by_cases h2 : g 2 = v.ty
   ·have t2 : (g 2 == v.ty) = true := by simp [h2]
    have Y := hid (U.out.2 ⟨h0, h1, h2⟩)
    clear h0 h1 h2
    go_enter Tryz.func112, Tryz.ntmps112
    go_wp2_with fail
    go_quiet (fail)
    go_wp2_with fail
    go_ret
    exact YES.out _ (below_drewN' _ _) Y.out
   ·have t2 : (g 2 == v.ty) = false := by simp [h2]
    have Y := hid (show ¬ FitI M F v s.n g from fun h => h2 (U.out.1 h).2.2)
    clear h0 h1 h2
    go_enter Tryz.func112, Tryz.ntmps112
    go_wp2_with fail
    go_quiet (fail)
    go_wp2_with fail
    go_ret
    exact NO.out _ (below_drewN' _ _) Y.out
  ·have t1 : (g 1 == v.ty) = false := by simp [h1]
   have Y := hid (show ¬ FitI M F v s.n g from fun h => h1 (U.out.1 h).2.1)
   clear h0 h1
   go_enter Tryz.func112, Tryz.ntmps112
   go_wp2_with fail
   go_quiet (fail)
   go_wp2_with fail
   go_ret
   exact NO.out _ (below_drewN' _ _) Y.out
 ·have t0 : (g 0 == 2) = false := by simp [h0]
  have Y := hid (show ¬ FitI M F v s.n g from fun h => h0 (U.out.1 h).1)
  clear h0
  go_enter Tryz.func112, Tryz.ntmps112
  go_wp2_with fail
  go_quiet (fail)
  go_wp2_with fail
  go_ret
  exact NO.out _ (below_drewN' _ _) Y.out

set_option maxRecDepth 10000 in
set_option maxHeartbeats 4000000 in
theorem fit_22 (M : MV) (F : FV) (v : IV) (s : Sl) (g : Nat → Int) (w : World) (hop : v.op = 22) (hs : Ints w s g) (hn : 0 ≤ s.n) (hm : s.n ≤ 20) (hM : InM w M) (hsy : 0 ≤ v.sym) (hsl : v.sym < M.fns.n) (hlp : ∀ k, k < M.fns.n → (M.F k).par.n ≤ 20) : Calls Tryz.prog 112 #[M.val, F.val, v.val, .slice s.a s.n s.c] w fun e w' => Ans (fun r => r = true ↔ FitI M F v s.n g) w e w' := by
 obtain ⟨W, hW, LW, VI⟩ := fitStart M F v w
 have FA : FuncAt W (w.heap.size + 1) F := by
  rw [← hW]
  have := (FuncAt.alloc (w.alloc (.cells (mcells M) 27)) F).on (new (same _) (.cells v.cells 43))
  simpa using this
 have m0 : W.cell? ⟨w.heap.size, 0, none⟩ = some (.slice M.ext.a M.ext.n M.ext.c) := by rw [← hW]; exact cell_on (new (new (same _) _) _) (by simp)
 have m3 : W.cell? ⟨w.heap.size, 3, none⟩ = some (.slice M.fns.a M.fns.n M.fns.c) := by rw [← hW]; exact cell_on (new (new (same _) _) _) (by simp)
 obtain ⟨v0, v1, v2, v3, v4, v5, v6⟩ := VI.head
 obtain ⟨f0, f1, f2, f3, f4⟩ := FA
 rw [hop] at v0
 have IS := hid (hs.on LW.out)
 have HOP := hid hop
 have YES := hid (show ∀ wx, Below W.heap.size W wx → FitI M F v s.n g → Ans (fun r => r = true ↔ FitI M F v s.n g) w (.returned (.bool true)) wx from fun wx h hf => ⟨true, rfl, by simp [hf], View.more LW.out h⟩)
 have NO := hid (show ∀ wx, Below W.heap.size W wx → ¬ FitI M F v s.n g → Ans (fun r => r = true ↔ FitI M F v s.n g) w (.returned (.bool false)) wx from fun wx h hf => ⟨false, rfl, by simp [hf], View.more LW.out h⟩)
 obtain ⟨t, ht⟩ : ∃ t : Nat, v.sym = t := ⟨v.sym.toNat, by omega⟩
 have lt : t < M.fns.n := by omega
 have htn : v.sym.toNat = t := by omega
 have U := hid (show FitI M F v s.n g ↔ Eqs s (M.F t).par g (M.F t).P ∧ v.ty = (M.F t).res by
  unfold FitI; rw [HOP.out, htn]; simp
  intro _
  exact ⟨fun h => ⟨h.1.symm, h.2⟩, fun h => ⟨h.1.symm, h.2⟩⟩)
 rw [ht] at v3
 obtain ⟨rb, ro, hrx, r0, r1, r2, r3, r4⟩ := (hM.on LW.out).fns.at underlying25 size36 lt
 have IP := hid (show Ints W (M.F t).par (M.F t).P from ((hM.fnI t lt).par).on LW.out)
 have HT := hid ht
 clear VI hop hs hM hsy hsl hlp ht htn
 by_cases hq : Eqs s (M.F t).par g (M.F t).P
 ·have HQ := hid hq
  by_cases h1 : v.ty = (M.F t).res
  ·have t1 : (v.ty == (M.F t).res) = true := by simp [h1]
   have Y := hid (U.out.2 ⟨hq, h1⟩)
   clear hq h1
   go_enter Tryz.func112, Tryz.ntmps112
   go_wp2_with fail
   go_quiet (first | (go_at_call 50; refine Calls.quiet_of (ints_yes s (M.F t).par g (M.F t).P _ (IS.out.on (below_drewN' _ _)) (IP.out.on (below_drewN' _ _)) (by omega) HQ.out)))
   go_wp2_with fail
   go_ret
   exact YES.out _ (below_drewN' _ _) Y.out
  ·have t1 : (v.ty == (M.F t).res) = false := by simp [h1]
   have Y := hid (show ¬ FitI M F v s.n g from fun h => h1 (U.out.1 h).2)
   clear hq h1
   go_enter Tryz.func112, Tryz.ntmps112
   go_wp2_with fail
   go_quiet (first | (go_at_call 50; refine Calls.quiet_of (ints_yes s (M.F t).par g (M.F t).P _ (IS.out.on (below_drewN' _ _)) (IP.out.on (below_drewN' _ _)) (by omega) HQ.out)))
   go_wp2_with fail
   go_ret
   exact NO.out _ (below_drewN' _ _) Y.out
 ·have HQ := hid hq
  have Y := hid (show ¬ FitI M F v s.n g from fun h => hq (U.out.1 h).1)
  clear hq
  go_enter Tryz.func112, Tryz.ntmps112
  go_wp2_with fail
  go_quiet (first | (go_at_call 50; refine Calls.quiet_of (ints_no s (M.F t).par g (M.F t).P _ (IS.out.on (below_drewN' _ _)) (IP.out.on (below_drewN' _ _)) (by omega) HQ.out)))
  go_wp2_with fail
  go_ret
  exact NO.out _ (below_drewN' _ _) Y.out

set_option maxRecDepth 10000 in
set_option maxHeartbeats 4000000 in
theorem fit_23 (M : MV) (F : FV) (v : IV) (s : Sl) (g : Nat → Int) (w : World) (hop : v.op = 23) (hs : Ints w s g) (hn : 0 ≤ s.n) (hm : s.n ≤ 20) (hM : InM w M) (hsy : 0 ≤ v.sym) (hsl : v.sym < M.ext.n) (hlp : ∀ k, k < M.ext.n → (M.E k).par.n ≤ 20) : Calls Tryz.prog 112 #[M.val, F.val, v.val, .slice s.a s.n s.c] w fun e w' => Ans (fun r => r = true ↔ FitI M F v s.n g) w e w' := by
 obtain ⟨W, hW, LW, VI⟩ := fitStart M F v w
 have FA : FuncAt W (w.heap.size + 1) F := by
  rw [← hW]
  have := (FuncAt.alloc (w.alloc (.cells (mcells M) 27)) F).on (new (same _) (.cells v.cells 43))
  simpa using this
 have m0 : W.cell? ⟨w.heap.size, 0, none⟩ = some (.slice M.ext.a M.ext.n M.ext.c) := by rw [← hW]; exact cell_on (new (new (same _) _) _) (by simp)
 have m3 : W.cell? ⟨w.heap.size, 3, none⟩ = some (.slice M.fns.a M.fns.n M.fns.c) := by rw [← hW]; exact cell_on (new (new (same _) _) _) (by simp)
 obtain ⟨v0, v1, v2, v3, v4, v5, v6⟩ := VI.head
 obtain ⟨f0, f1, f2, f3, f4⟩ := FA
 rw [hop] at v0
 have IS := hid (hs.on LW.out)
 have HOP := hid hop
 have YES := hid (show ∀ wx, Below W.heap.size W wx → FitI M F v s.n g → Ans (fun r => r = true ↔ FitI M F v s.n g) w (.returned (.bool true)) wx from fun wx h hf => ⟨true, rfl, by simp [hf], View.more LW.out h⟩)
 have NO := hid (show ∀ wx, Below W.heap.size W wx → ¬ FitI M F v s.n g → Ans (fun r => r = true ↔ FitI M F v s.n g) w (.returned (.bool false)) wx from fun wx h hf => ⟨false, rfl, by simp [hf], View.more LW.out h⟩)
 obtain ⟨t, ht⟩ : ∃ t : Nat, v.sym = t := ⟨v.sym.toNat, by omega⟩
 have lt : t < M.ext.n := by omega
 have htn : v.sym.toNat = t := by omega
 have U := hid (show FitI M F v s.n g ↔ Eqs s (M.E t).par g (M.EP t) ∧ v.ty = (M.E t).res by
  unfold FitI; rw [HOP.out, htn]; simp
  intro _
  exact ⟨fun h => ⟨h.1.symm, h.2⟩, fun h => ⟨h.1.symm, h.2⟩⟩)
 rw [ht] at v3
 obtain ⟨rb, ro, hrx, r0, r1, r2⟩ := (hM.on LW.out).ext.at underlying22 size65 lt
 have IP := hid (show Ints W (M.E t).par (M.EP t) from (hM.extP t lt).on LW.out)
 have HT := hid ht
 clear VI hop hs hM hsy hsl hlp ht htn
 by_cases hq : Eqs s (M.E t).par g (M.EP t)
 ·have HQ := hid hq
  by_cases h1 : v.ty = (M.E t).res
  ·have t1 : (v.ty == (M.E t).res) = true := by simp [h1]
   have Y := hid (U.out.2 ⟨hq, h1⟩)
   clear hq h1
   go_enter Tryz.func112, Tryz.ntmps112
   go_wp2_with fail
   go_quiet (first | (go_at_call 50; refine Calls.quiet_of (ints_yes s (M.E t).par g (M.EP t) _ (IS.out.on (below_drewN' _ _)) (IP.out.on (below_drewN' _ _)) (by omega) HQ.out)))
   go_wp2_with fail
   go_ret
   exact YES.out _ (below_drewN' _ _) Y.out
  ·have t1 : (v.ty == (M.E t).res) = false := by simp [h1]
   have Y := hid (show ¬ FitI M F v s.n g from fun h => h1 (U.out.1 h).2)
   clear hq h1
   go_enter Tryz.func112, Tryz.ntmps112
   go_wp2_with fail
   go_quiet (first | (go_at_call 50; refine Calls.quiet_of (ints_yes s (M.E t).par g (M.EP t) _ (IS.out.on (below_drewN' _ _)) (IP.out.on (below_drewN' _ _)) (by omega) HQ.out)))
   go_wp2_with fail
   go_ret
   exact NO.out _ (below_drewN' _ _) Y.out
 ·have HQ := hid hq
  have Y := hid (show ¬ FitI M F v s.n g from fun h => hq (U.out.1 h).1)
  clear hq
  go_enter Tryz.func112, Tryz.ntmps112
  go_wp2_with fail
  go_quiet (first | (go_at_call 50; refine Calls.quiet_of (ints_no s (M.E t).par g (M.EP t) _ (IS.out.on (below_drewN' _ _)) (IP.out.on (below_drewN' _ _)) (by omega) HQ.out)))
  go_wp2_with fail
  go_ret
  exact NO.out _ (below_drewN' _ _) Y.out

set_option maxRecDepth 10000 in
set_option maxHeartbeats 4000000 in
theorem fit_29 (M : MV) (F : FV) (v : IV) (s : Sl) (g : Nat → Int) (w : World) (hop : v.op = 29) (hs : Ints w s g) (hn : 0 ≤ s.n) (hm : s.n ≤ 20) : Calls Tryz.prog 112 #[M.val, F.val, v.val, .slice s.a s.n s.c] w fun e w' => Ans (fun r => r = true ↔ FitI M F v s.n g) w e w' := by
 obtain ⟨W, hW, LW, VI⟩ := fitStart M F v w
 have FA : FuncAt W (w.heap.size + 1) F := by
  rw [← hW]
  have := (FuncAt.alloc (w.alloc (.cells (mcells M) 27)) F).on (new (same _) (.cells v.cells 43))
  simpa using this
 have m0 : W.cell? ⟨w.heap.size, 0, none⟩ = some (.slice M.ext.a M.ext.n M.ext.c) := by rw [← hW]; exact cell_on (new (new (same _) _) _) (by simp)
 have m3 : W.cell? ⟨w.heap.size, 3, none⟩ = some (.slice M.fns.a M.fns.n M.fns.c) := by rw [← hW]; exact cell_on (new (new (same _) _) _) (by simp)
 obtain ⟨v0, v1, v2, v3, v4, v5, v6⟩ := VI.head
 obtain ⟨f0, f1, f2, f3, f4⟩ := FA
 rw [hop] at v0
 have IS := hid (hs.on LW.out)
 have HOP := hid hop
 have YES := hid (show ∀ wx, Below W.heap.size W wx → FitI M F v s.n g → Ans (fun r => r = true ↔ FitI M F v s.n g) w (.returned (.bool true)) wx from fun wx h hf => ⟨true, rfl, by simp [hf], View.more LW.out h⟩)
 have NO := hid (show ∀ wx, Below W.heap.size W wx → ¬ FitI M F v s.n g → Ans (fun r => r = true ↔ FitI M F v s.n g) w (.returned (.bool false)) wx from fun wx h hf => ⟨false, rfl, by simp [hf], View.more LW.out h⟩)
 have U := hid (show FitI M F v s.n g ↔ (if F.res = 0 then s.n = 0 else s.n = 1 ∧ g 0 = F.res) by unfold FitI; rw [HOP.out]; simp)
 clear VI hop hs
 by_cases hr : F.res = 0
 ·have tr : (F.res == 0) = true := by simp [hr]
  have U2 := hid (show FitI M F v s.n g ↔ s.n = 0 by rw [U.out, if_pos hr])
  clear hr
  by_cases h0 : s.n = 0
  ·have t0 : ((s.n : Int) == 0) = true := by simp [h0]
   have Y := hid (U2.out.2 h0)
   clear h0
   go_enter Tryz.func112, Tryz.ntmps112
   go_wp2_with fail
   go_ret
   exact YES.out _ (same _) Y.out
  ·have t0 : ((s.n : Int) == 0) = false := by simp [h0]
   have Y := hid (show ¬ FitI M F v s.n g from fun h => h0 (U2.out.1 h))
   clear h0
   go_enter Tryz.func112, Tryz.ntmps112
   go_wp2_with fail
   go_ret
   exact NO.out _ (same _) Y.out
 ·have tr : (F.res == 0) = false := by simp [hr]
  have U2 := hid (show FitI M F v s.n g ↔ s.n = 1 ∧ g 0 = F.res by rw [U.out, if_neg hr])
  clear hr
  by_cases h1 : s.n = 1
  ·have t1 : ((s.n : Int) == 1) = true := by simp [h1]
   obtain ⟨b0, o0, hx0, hc0⟩ := IS.out.at (k := 0) (by omega)
   have hy0 : ∀ wx, (Instr.indexAt 33 (.slice s.a s.n s.c) (.int .i64 0)).run Tryz.prog wx = .ok (.pointer (some ⟨b0, o0, none⟩)) wx := hx0
   clear hx0
   by_cases h2 : g 0 = F.res
   ·have t2 : (g 0 == F.res) = true := by simp [h2]
    have Y := hid (U2.out.2 ⟨h1, h2⟩)
    clear h1 h2
    go_enter Tryz.func112, Tryz.ntmps112
    go_wp2_with fail
    go_quiet (fail)
    go_wp2_with fail
    go_ret
    exact YES.out _ (below_drewN' _ _) Y.out
   ·have t2 : (g 0 == F.res) = false := by simp [h2]
    have Y := hid (show ¬ FitI M F v s.n g from fun h => h2 (U2.out.1 h).2)
    clear h1 h2
    go_enter Tryz.func112, Tryz.ntmps112
    go_wp2_with fail
    go_quiet (fail)
    go_wp2_with fail
    go_ret
    exact NO.out _ (below_drewN' _ _) Y.out
  ·have t1 : ((s.n : Int) == 1) = false := by simp; omega
   have Y := hid (show ¬ FitI M F v s.n g from fun h => h1 (U2.out.1 h).1)
   clear h1
   go_enter Tryz.func112, Tryz.ntmps112
   go_wp2_with fail
   go_quiet (fail)
   go_wp2_with fail
   go_ret
   exact NO.out _ (below_drewN' _ _) Y.out

set_option maxRecDepth 10000 in
set_option maxHeartbeats 4000000 in
theorem fit_26 (M : MV) (F : FV) (v : IV) (s : Sl) (g : Nat → Int) (w : World) (hop : v.op = 26) (hs : Ints w s g) (hn : 0 ≤ s.n) (hm : s.n ≤ 20) : Calls Tryz.prog 112 #[M.val, F.val, v.val, .slice s.a s.n s.c] w fun e w' => Ans (fun r => r = true ↔ FitI M F v s.n g) w e w' := by
 obtain ⟨W, hW, LW, VI⟩ := fitStart M F v w
 have FA : FuncAt W (w.heap.size + 1) F := by
  rw [← hW]
  have := (FuncAt.alloc (w.alloc (.cells (mcells M) 27)) F).on (new (same _) (.cells v.cells 43))
  simpa using this
 have m0 : W.cell? ⟨w.heap.size, 0, none⟩ = some (.slice M.ext.a M.ext.n M.ext.c) := by rw [← hW]; exact cell_on (new (new (same _) _) _) (by simp)
 have m3 : W.cell? ⟨w.heap.size, 3, none⟩ = some (.slice M.fns.a M.fns.n M.fns.c) := by rw [← hW]; exact cell_on (new (new (same _) _) _) (by simp)
 obtain ⟨v0, v1, v2, v3, v4, v5, v6⟩ := VI.head
 obtain ⟨f0, f1, f2, f3, f4⟩ := FA
 rw [hop] at v0
 have IS := hid (hs.on LW.out)
 have HOP := hid hop
 have YES := hid (show ∀ wx, Below W.heap.size W wx → FitI M F v s.n g → Ans (fun r => r = true ↔ FitI M F v s.n g) w (.returned (.bool true)) wx from fun wx h hf => ⟨true, rfl, by simp [hf], View.more LW.out h⟩)
 have NO := hid (show ∀ wx, Below W.heap.size W wx → ¬ FitI M F v s.n g → Ans (fun r => r = true ↔ FitI M F v s.n g) w (.returned (.bool false)) wx from fun wx h hf => ⟨false, rfl, by simp [hf], View.more LW.out h⟩)
 have U := hid (show FitI M F v s.n g ↔ ∀ i, i < s.n → g i = v.ty by unfold FitI; rw [HOP.out]; simp)
 have V1 := hid v1
 clear VI hop hs
 go_enter Tryz.func112, Tryz.ntmps112
 go_wp2_with fail
 go_loopw [9] (fun iv wr => ∃ k : Nat, k ≤ s.n ∧ iv = .int .i64 k ∧ (∀ i, i < k → g i = v.ty) ∧ ∃ q, wr = W.drewN q) (fun iv _ => s.n - (intOf iv).toNat)
 case atStart => exact ⟨0, Nat.zero_le _, rfl, fun i hi => by omega, 0, rfl⟩
 case round =>
  obtain ⟨k, hk, rfl, hall, q, rfl⟩ := hrel
  have HA := hid hall
  clear hall
  by_cases lk : k < s.n
  ·obtain ⟨b0, o0, hx0, hc0⟩ := IS.out.at lk
   by_cases h0 : g k = v.ty
   ·have t0 : (g k != v.ty) = false := by simp [h0]
    have H0 := hid h0
    clear h0
    go_wp2_with fail
    go_quiet (fail)
    go_wp2_with fail
    go_round
    case rel => exact ⟨k + 1, by omega, by go_num, upto1 HA.out H0.out, _, rfl⟩
    case measure => simp [intOf]; omega
   ·have t0 : (g k != v.ty) = true := by simp [h0]
    have Y := hid (show ¬ FitI M F v s.n g from fun h => h0 (U.out.1 h k lk))
    clear h0
    go_wp2_with fail
    go_quiet (fail)
    go_wp2_with fail
    go_ret
    exact NO.out _ (below_drewN (below_drewN' _ _) _) Y.out
  ·obtain rfl : k = s.n := by omega
   go_wp2_with fail
   go_ret
   exact YES.out _ (below_drewN' _ _) (U.out.2 HA.out)

end Go.Proofs.YtolipafcoolpgaaGreat.Chk
