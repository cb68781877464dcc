/-
  ChkT, ChkT0: laid together.
-/
import Derived.Test.YtolipafcoolpgaaGreatChkM
/-
  Types that fit, in plain words.
-/
namespace Go.Proofs.YtolipafcoolpgaaGreat.Chk
open Go.RowKit View Rd Num Opn Copy Go.Proofs.YtolipafcoolpgaaGreat.Mod

set_option linter.unusedVariables false

def FitI (M : MV) (F : FV) (v : IV) (gn : Nat) (g : Nat → Int) : Prop :=
 if v.op = 1 then v.ty = 1 ∨ v.ty = 2 ∧ (v.num = 0 ∨ v.num = 1)
 else if v.op = 2 then v.ty = 4
 else if v.op = 3 ∨ v.op = 18 then v.ty = 3
 else if 4 ≤ v.op ∧ v.op ≤ 13 then v.ty = 1 ∧ g 0 = 1 ∧ g 1 = 1
 else if v.op = 14 ∨ v.op = 15 then v.ty = 2 ∧ g 0 = 1 ∧ g 1 = 1
 else if v.op = 16 then v.ty = 2 ∧ g 0 = 2
 else if v.op = 17 then g 0 = 2 ∧ g 1 = v.ty ∧ g 2 = v.ty
 else if v.op = 19 then v.ty = 3 ∧ g 0 = 3 ∧ g 1 = 1
 else if v.op = 20 then v.ty = 1 ∧ g 0 = 3
 else if v.op = 21 then g 0 = 3 ∧ g 1 = 1
 else if v.op = 22 then ((M.F v.sym.toNat).par.n = gn ∧ ∀ i, i < gn → g i = (M.F v.sym.toNat).P i) ∧ v.ty = (M.F v.sym.toNat).res
 else if v.op = 23 then ((M.E v.sym.toNat).par.n = gn ∧ ∀ i, i < gn → g i = M.EP v.sym.toNat i) ∧ v.ty = (M.E v.sym.toNat).res
 else if v.op = 24 then v.ty = 4 ∧ g 0 = 1
 else if v.op = 25 then g 0 = 4 ∧ v.ty ≠ 3
 else if v.op = 26 then ∀ i, i < gn → g i = v.ty
 else if v.op = 28 then g 0 = 2
 else if v.op = 29 then if F.res = 0 then gn = 0 else gn = 1 ∧ g 0 = F.res
 else True

theorem fitStart (M : MV) (F : FV) (v : IV) (w : World) : ∃ W, ((w.alloc (.cells (mcells M) 27)).alloc (.cells (fcells F) 36)).alloc (.cells v.cells 43) = W ∧ Hid (Below w.heap.size w W) ∧ InsAt W (w.heap.size + 1 + 1) 0 v := by
 obtain ⟨W, hW⟩ : ∃ W, ((w.alloc (.cells (mcells M) 27)).alloc (.cells (fcells F) 36)).alloc (.cells v.cells 43) = W := ⟨_, rfl⟩
 have LW := hid (show Below w.heap.size w W by rw [← hW]; exact new (new (new (same w) _) _) _)
 have VI : InsAt W (w.heap.size + 1 + 1) 0 v := by
  rw [← hW]
  have := InsAt.alloc ((w.alloc (.cells (mcells M) 27)).alloc (.cells (fcells F) 36)) v
  simpa using this
 exact ⟨W, hW, LW, VI⟩

theorem ix0 {w : World} {s : Sl} {g : Nat → Int} (h : Ints w s g) (hk : 0 < s.n) : ∃ b o, (∀ wx, (Instr.indexAt 33 (.slice s.a s.n s.c) (.int .i64 0)).run Tryz.prog wx = .ok (.pointer (some ⟨b, o, none⟩)) wx) ∧ w.cell? ⟨b, o, none⟩ = some (.int .i64 (g 0)) := h.at hk

theorem ix1 {w : World} {s : Sl} {g : Nat → Int} (h : Ints w s g) (hk : 1 < s.n) : ∃ b o, (∀ wx, (Instr.indexAt 33 (.slice s.a s.n s.c) (.int .i64 1)).run Tryz.prog wx = .ok (.pointer (some ⟨b, o, none⟩)) wx) ∧ w.cell? ⟨b, o, none⟩ = some (.int .i64 (g 1)) := h.at hk

theorem ix2 {w : World} {s : Sl} {g : Nat → Int} (h : Ints w s g) (hk : 2 < s.n) : ∃ b o, (∀ wx, (Instr.indexAt 33 (.slice s.a s.n s.c) (.int .i64 2)).run Tryz.prog wx = .ok (.pointer (some ⟨b, o, none⟩)) wx) ∧ w.cell? ⟨b, o, none⟩ = some (.int .i64 (g 2)) := h.at hk

set_option maxRecDepth 10000 in
set_option maxHeartbeats 4000000 in
theorem fit_1 (M : MV) (F : FV) (v : IV) (s : Sl) (g : Nat → Int) (w : World) (hop : v.op = 1) (hs : Ints w s g) (hn : 0 ≤ s.n) : Calls Tryz.prog 112 #[M.val, F.val, v.val, .slice s.a s.n s.c] w fun e w' => Ans (fun r => r = true ↔ FitI M F v s.n g) w e w' := by
 obtain ⟨W, hW, LW, VI⟩ := fitStart M F v w
 obtain ⟨v0, v1, v2, v3, v4, v5, v6⟩ := VI.head
 rw [hop] at v0
 have IS := hs.on LW.out
 have HOP := hid hop
 clear VI hop
 have HN := hid hn
 clear hs hn IS
 go_enter Tryz.func112, Tryz.ntmps112
 go_wp2
 all_goals go_ret
 all_goals refine ⟨_, rfl, ?_, LW.out⟩
 all_goals have hop := HOP.out
 all_goals clear LW HN HOP
 all_goals go_light
 all_goals (unfold FitI; rw [hop]; simp [*] <;> simp_all)

set_option maxRecDepth 10000 in
set_option maxHeartbeats 4000000 in
theorem fit_5 (M : MV) (F : FV) (v : IV) (s : Sl) (g : Nat → Int) (w : World) (hop : v.op = 5) (hs : Ints w s g) (hn : 2 ≤ s.n) : Calls Tryz.prog 112 #[M.val, F.val, v.val, .slice s.a s.n s.c] w fun e w' => Ans (fun r => r = true ↔ FitI M F v s.n g) w e w' := by
 obtain ⟨W, hW, LW, VI⟩ := fitStart M F v w
 obtain ⟨v0, v1, v2, v3, v4, v5, v6⟩ := VI.head
 rw [hop] at v0
 have IS := hs.on LW.out
 have HOP := hid hop
 clear VI hop
 obtain ⟨b0, o0, hy0, hc0⟩ := ix0 IS (by omega)
 obtain ⟨b1, o1, hy1, hc1⟩ := ix1 IS (by omega)
 have HN := hid hn
 clear hs hn IS
 go_enter Tryz.func112, Tryz.ntmps112
 go_wp2
 all_goals go_ret
 all_goals refine ⟨_, rfl, ?_, LW.out⟩
 all_goals have hop := HOP.out
 all_goals clear LW HN HOP
 all_goals go_light
 all_goals (unfold FitI; rw [hop]; simp [*] <;> simp_all)

set_option maxRecDepth 10000 in
set_option maxHeartbeats 4000000 in
theorem fit_9 (M : MV) (F : FV) (v : IV) (s : Sl) (g : Nat → Int) (w : World) (hop : v.op = 9) (hs : Ints w s g) (hn : 2 ≤ s.n) : Calls Tryz.prog 112 #[M.val, F.val, v.val, .slice s.a s.n s.c] w fun e w' => Ans (fun r => r = true ↔ FitI M F v s.n g) w e w' := by
 obtain ⟨W, hW, LW, VI⟩ := fitStart M F v w
 obtain ⟨v0, v1, v2, v3, v4, v5, v6⟩ := VI.head
 rw [hop] at v0
 have IS := hs.on LW.out
 have HOP := hid hop
 clear VI hop
 obtain ⟨b0, o0, hy0, hc0⟩ := ix0 IS (by omega)
 obtain ⟨b1, o1, hy1, hc1⟩ := ix1 IS (by omega)
 have HN := hid hn
 clear hs hn IS
 go_enter Tryz.func112, Tryz.ntmps112
 go_wp2
 all_goals go_ret
 all_goals refine ⟨_, rfl, ?_, LW.out⟩
 all_goals have hop := HOP.out
 all_goals clear LW HN HOP
 all_goals go_light
 all_goals (unfold FitI; rw [hop]; simp [*] <;> simp_all)

set_option maxRecDepth 10000 in
set_option maxHeartbeats 4000000 in
theorem fit_13 (M : MV) (F : FV) (v : IV) (s : Sl) (g : Nat → Int) (w : World) (hop : v.op = 13) (hs : Ints w s g) (hn : 2 ≤ s.n) : Calls Tryz.prog 112 #[M.val, F.val, v.val, .slice s.a s.n s.c] w fun e w' => Ans (fun r => r = true ↔ FitI M F v s.n g) w e w' := by
 obtain ⟨W, hW, LW, VI⟩ := fitStart M F v w
 obtain ⟨v0, v1, v2, v3, v4, v5, v6⟩ := VI.head
 rw [hop] at v0
 have IS := hs.on LW.out
 have HOP := hid hop
 clear VI hop
 obtain ⟨b0, o0, hy0, hc0⟩ := ix0 IS (by omega)
 obtain ⟨b1, o1, hy1, hc1⟩ := ix1 IS (by omega)
 have HN := hid hn
 clear hs hn IS
 go_enter Tryz.func112, Tryz.ntmps112
 go_wp2
 all_goals go_ret
 all_goals refine ⟨_, rfl, ?_, LW.out⟩
 all_goals have hop := HOP.out
 all_goals clear LW HN HOP
 all_goals go_light
 all_goals (unfold FitI; rw [hop]; simp [*] <;> simp_all)

set_option maxRecDepth 10000 in
set_option maxHeartbeats 4000000 in
theorem fit_18 (M : MV) (F : FV) (v : IV) (s : Sl) (g : Nat → Int) (w : World) (hop : v.op = 18) (hs : Ints w s g) (hn : 0 ≤ s.n) : Calls Tryz.prog 112 #[M.val, F.val, v.val, .slice s.a s.n s.c] w fun e w' => Ans (fun r => r = true ↔ FitI M F v s.n g) w e w' := by
 obtain ⟨W, hW, LW, VI⟩ := fitStart M F v w
 obtain ⟨v0, v1, v2, v3, v4, v5, v6⟩ := VI.head
 rw [hop] at v0
 have IS := hs.on LW.out
 have HOP := hid hop
 clear VI hop
 have HN := hid hn
 clear hs hn IS
 go_enter Tryz.func112, Tryz.ntmps112
 go_wp2
 all_goals go_ret
 all_goals refine ⟨_, rfl, ?_, LW.out⟩
 all_goals have hop := HOP.out
 all_goals clear LW HN HOP
 all_goals go_light
 all_goals (unfold FitI; rw [hop]; simp [*] <;> simp_all)

set_option maxRecDepth 10000 in
set_option maxHeartbeats 4000000 in
theorem fit_24 (M : MV) (F : FV) (v : IV) (s : Sl) (g : Nat → Int) (w : World) (hop : v.op = 24) (hs : Ints w s g) (hn : 1 ≤ s.n) : Calls Tryz.prog 112 #[M.val, F.val, v.val, .slice s.a s.n s.c] w fun e w' => Ans (fun r => r = true ↔ FitI M F v s.n g) w e w' := by
 obtain ⟨W, hW, LW, VI⟩ := fitStart M F v w
 obtain ⟨v0, v1, v2, v3, v4, v5, v6⟩ := VI.head
 rw [hop] at v0
 have IS := hs.on LW.out
 have HOP := hid hop
 clear VI hop
 obtain ⟨b0, o0, hy0, hc0⟩ := ix0 IS (by omega)
 have HN := hid hn
 clear hs hn IS
 go_enter Tryz.func112, Tryz.ntmps112
 go_wp2
 all_goals go_ret
 all_goals refine ⟨_, rfl, ?_, LW.out⟩
 all_goals have hop := HOP.out
 all_goals clear LW HN HOP
 all_goals go_light
 all_goals (unfold FitI; rw [hop]; simp [*] <;> simp_all)

set_option maxRecDepth 10000 in
set_option maxHeartbeats 4000000 in
theorem fit_30 (M : MV) (F : FV) (v : IV) (s : Sl) (g : Nat → Int) (w : World) (hop : v.op = 30) (hs : Ints w s g) (hn : 0 ≤ s.n) : Calls Tryz.prog 112 #[M.val, F.val, v.val, .slice s.a s.n s.c] w fun e w' => Ans (fun r => r = true ↔ FitI M F v s.n g) w e w' := by
 obtain ⟨W, hW, LW, VI⟩ := fitStart M F v w
 obtain ⟨v0, v1, v2, v3, v4, v5, v6⟩ := VI.head
 rw [hop] at v0
 have IS := hs.on LW.out
 have HOP := hid hop
 clear VI hop
 have HN := hid hn
 clear hs hn IS
 go_enter Tryz.func112, Tryz.ntmps112
 go_wp2
 all_goals go_ret
 all_goals refine ⟨_, rfl, ?_, LW.out⟩
 all_goals have hop := HOP.out
 all_goals clear LW HN HOP
 all_goals go_light
 all_goals (unfold FitI; rw [hop]; simp [*] <;> simp_all)

end Go.Proofs.YtolipafcoolpgaaGreat.Chk
