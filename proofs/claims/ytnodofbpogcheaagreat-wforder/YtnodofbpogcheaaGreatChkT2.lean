/-
  Types that fit, by the document: plnref3.fits, part 2.
-/
import Derived.Test.YtnodofbpogcheaaGreatJ6
namespace Go.Proofs.YtnodofbpogcheaaGreat.Chk
open Go.RowKit View Rd Num Opn Copy Go.Proofs.YtnodofbpogcheaaGreat.Mod

set_option linter.unusedVariables false

set_option maxRecDepth 10000 in
set_option maxHeartbeats 4000000 in
theorem fit_3 (M : MV) (F : FV) (v : IV) (s : Sl) (g : Nat → Int) (w : World) (hop : v.op = 3) (hs : Ints w s g) (hn : 0 ≤ s.n) : Calls Tryz.prog 113 #[M.val, F.val, v.val, .slice s.a s.n s.c] w fun e w' => Ans (fun r => r = true ↔ FitI M F v s.n g) w e w' := by
 obtain ⟨W, hW⟩ : ∃ W, ((w.alloc (.cells (mcells M) 27)).alloc (.cells (fcells F) 36)).alloc (.cells v.cells 43) = W := ⟨_, rfl⟩
 have LW := hid (show Below w.heap.size w W by rw [← hW]; exact new (new (new (same w) _) _) _)
 have VI : InsAt W (w.heap.size + 1 + 1) 0 v := by
  rw [← hW]
  have := InsAt.alloc ((w.alloc (.cells (mcells M) 27)).alloc (.cells (fcells F) 36)) v
  simpa using this
 obtain ⟨v0, v1, v2, v3, v4, v5, v6⟩ := VI.head
 rw [hop] at v0
 have IS := hs.on LW.out
 have HOP := hid hop
 clear VI hop
 have HN := hid hn
 clear hs hn IS
 go_enter Tryz.func113, Tryz.ntmps113
 go_wp2
 all_goals go_ret
 all_goals refine ⟨_, rfl, ?_, LW.out⟩
 all_goals have hop := HOP.out
 all_goals clear LW HN HOP
 all_goals go_light
 all_goals (unfold FitI; rw [hop]; simp [*] <;> simp_all)

set_option maxRecDepth 10000 in
set_option maxHeartbeats 4000000 in
theorem fit_7 (M : MV) (F : FV) (v : IV) (s : Sl) (g : Nat → Int) (w : World) (hop : v.op = 7) (hs : Ints w s g) (hn : 2 ≤ s.n) : Calls Tryz.prog 113 #[M.val, F.val, v.val, .slice s.a s.n s.c] w fun e w' => Ans (fun r => r = true ↔ FitI M F v s.n g) w e w' := by
 obtain ⟨W, hW⟩ : ∃ W, ((w.alloc (.cells (mcells M) 27)).alloc (.cells (fcells F) 36)).alloc (.cells v.cells 43) = W := ⟨_, rfl⟩
 have LW := hid (show Below w.heap.size w W by rw [← hW]; exact new (new (new (same w) _) _) _)
 have VI : InsAt W (w.heap.size + 1 + 1) 0 v := by
  rw [← hW]
  have := InsAt.alloc ((w.alloc (.cells (mcells M) 27)).alloc (.cells (fcells F) 36)) v
  simpa using this
 obtain ⟨v0, v1, v2, v3, v4, v5, v6⟩ := VI.head
 rw [hop] at v0
 have IS := hs.on LW.out
 have HOP := hid hop
 clear VI hop
 obtain ⟨b0, o0, hx0, hc0⟩ := IS.at (k := 0) (by omega)
 have hy0 : ∀ wx, (Instr.indexAt 33 (.slice s.a s.n s.c) (.int .i64 0)).run Tryz.prog wx = .ok (.pointer (some ⟨b0, o0, none⟩)) wx := hx0
 clear hx0
 obtain ⟨b1, o1, hx1, hc1⟩ := IS.at (k := 1) (by omega)
 have hy1 : ∀ wx, (Instr.indexAt 33 (.slice s.a s.n s.c) (.int .i64 1)).run Tryz.prog wx = .ok (.pointer (some ⟨b1, o1, none⟩)) wx := hx1
 clear hx1
 have HN := hid hn
 clear hs hn IS
 go_enter Tryz.func113, Tryz.ntmps113
 go_wp2
 all_goals go_ret
 all_goals refine ⟨_, rfl, ?_, LW.out⟩
 all_goals have hop := HOP.out
 all_goals clear LW HN HOP
 all_goals go_light
 all_goals (unfold FitI; rw [hop]; simp [*] <;> simp_all)

set_option maxRecDepth 10000 in
set_option maxHeartbeats 4000000 in
theorem fit_11 (M : MV) (F : FV) (v : IV) (s : Sl) (g : Nat → Int) (w : World) (hop : v.op = 11) (hs : Ints w s g) (hn : 2 ≤ s.n) : Calls Tryz.prog 113 #[M.val, F.val, v.val, .slice s.a s.n s.c] w fun e w' => Ans (fun r => r = true ↔ FitI M F v s.n g) w e w' := by
 obtain ⟨W, hW⟩ : ∃ W, ((w.alloc (.cells (mcells M) 27)).alloc (.cells (fcells F) 36)).alloc (.cells v.cells 43) = W := ⟨_, rfl⟩
 have LW := hid (show Below w.heap.size w W by rw [← hW]; exact new (new (new (same w) _) _) _)
 have VI : InsAt W (w.heap.size + 1 + 1) 0 v := by
  rw [← hW]
  have := InsAt.alloc ((w.alloc (.cells (mcells M) 27)).alloc (.cells (fcells F) 36)) v
  simpa using this
 obtain ⟨v0, v1, v2, v3, v4, v5, v6⟩ := VI.head
 rw [hop] at v0
 have IS := hs.on LW.out
 have HOP := hid hop
 clear VI hop
 obtain ⟨b0, o0, hx0, hc0⟩ := IS.at (k := 0) (by omega)
 have hy0 : ∀ wx, (Instr.indexAt 33 (.slice s.a s.n s.c) (.int .i64 0)).run Tryz.prog wx = .ok (.pointer (some ⟨b0, o0, none⟩)) wx := hx0
 clear hx0
 obtain ⟨b1, o1, hx1, hc1⟩ := IS.at (k := 1) (by omega)
 have hy1 : ∀ wx, (Instr.indexAt 33 (.slice s.a s.n s.c) (.int .i64 1)).run Tryz.prog wx = .ok (.pointer (some ⟨b1, o1, none⟩)) wx := hx1
 clear hx1
 have HN := hid hn
 clear hs hn IS
 go_enter Tryz.func113, Tryz.ntmps113
 go_wp2
 all_goals go_ret
 all_goals refine ⟨_, rfl, ?_, LW.out⟩
 all_goals have hop := HOP.out
 all_goals clear LW HN HOP
 all_goals go_light
 all_goals (unfold FitI; rw [hop]; simp [*] <;> simp_all)

set_option maxRecDepth 10000 in
set_option maxHeartbeats 4000000 in
theorem fit_15 (M : MV) (F : FV) (v : IV) (s : Sl) (g : Nat → Int) (w : World) (hop : v.op = 15) (hs : Ints w s g) (hn : 2 ≤ s.n) : Calls Tryz.prog 113 #[M.val, F.val, v.val, .slice s.a s.n s.c] w fun e w' => Ans (fun r => r = true ↔ FitI M F v s.n g) w e w' := by
 obtain ⟨W, hW⟩ : ∃ W, ((w.alloc (.cells (mcells M) 27)).alloc (.cells (fcells F) 36)).alloc (.cells v.cells 43) = W := ⟨_, rfl⟩
 have LW := hid (show Below w.heap.size w W by rw [← hW]; exact new (new (new (same w) _) _) _)
 have VI : InsAt W (w.heap.size + 1 + 1) 0 v := by
  rw [← hW]
  have := InsAt.alloc ((w.alloc (.cells (mcells M) 27)).alloc (.cells (fcells F) 36)) v
  simpa using this
 obtain ⟨v0, v1, v2, v3, v4, v5, v6⟩ := VI.head
 rw [hop] at v0
 have IS := hs.on LW.out
 have HOP := hid hop
 clear VI hop
 obtain ⟨b0, o0, hx0, hc0⟩ := IS.at (k := 0) (by omega)
 have hy0 : ∀ wx, (Instr.indexAt 33 (.slice s.a s.n s.c) (.int .i64 0)).run Tryz.prog wx = .ok (.pointer (some ⟨b0, o0, none⟩)) wx := hx0
 clear hx0
 obtain ⟨b1, o1, hx1, hc1⟩ := IS.at (k := 1) (by omega)
 have hy1 : ∀ wx, (Instr.indexAt 33 (.slice s.a s.n s.c) (.int .i64 1)).run Tryz.prog wx = .ok (.pointer (some ⟨b1, o1, none⟩)) wx := hx1
 clear hx1
 have HN := hid hn
 clear hs hn IS
 go_enter Tryz.func113, Tryz.ntmps113
 go_wp2
 all_goals go_ret
 all_goals refine ⟨_, rfl, ?_, LW.out⟩
 all_goals have hop := HOP.out
 all_goals clear LW HN HOP
 all_goals go_light
 all_goals (unfold FitI; rw [hop]; simp [*] <;> simp_all)

set_option maxRecDepth 10000 in
set_option maxHeartbeats 4000000 in
theorem fit_20 (M : MV) (F : FV) (v : IV) (s : Sl) (g : Nat → Int) (w : World) (hop : v.op = 20) (hs : Ints w s g) (hn : 1 ≤ s.n) : Calls Tryz.prog 113 #[M.val, F.val, v.val, .slice s.a s.n s.c] w fun e w' => Ans (fun r => r = true ↔ FitI M F v s.n g) w e w' := by
 obtain ⟨W, hW⟩ : ∃ W, ((w.alloc (.cells (mcells M) 27)).alloc (.cells (fcells F) 36)).alloc (.cells v.cells 43) = W := ⟨_, rfl⟩
 have LW := hid (show Below w.heap.size w W by rw [← hW]; exact new (new (new (same w) _) _) _)
 have VI : InsAt W (w.heap.size + 1 + 1) 0 v := by
  rw [← hW]
  have := InsAt.alloc ((w.alloc (.cells (mcells M) 27)).alloc (.cells (fcells F) 36)) v
  simpa using this
 obtain ⟨v0, v1, v2, v3, v4, v5, v6⟩ := VI.head
 rw [hop] at v0
 have IS := hs.on LW.out
 have HOP := hid hop
 clear VI hop
 obtain ⟨b0, o0, hx0, hc0⟩ := IS.at (k := 0) (by omega)
 have hy0 : ∀ wx, (Instr.indexAt 33 (.slice s.a s.n s.c) (.int .i64 0)).run Tryz.prog wx = .ok (.pointer (some ⟨b0, o0, none⟩)) wx := hx0
 clear hx0
 have HN := hid hn
 clear hs hn IS
 go_enter Tryz.func113, Tryz.ntmps113
 go_wp2
 all_goals go_ret
 all_goals refine ⟨_, rfl, ?_, LW.out⟩
 all_goals have hop := HOP.out
 all_goals clear LW HN HOP
 all_goals go_light
 all_goals (unfold FitI; rw [hop]; simp [*] <;> simp_all)

set_option maxRecDepth 10000 in
set_option maxHeartbeats 4000000 in
theorem fit_27 (M : MV) (F : FV) (v : IV) (s : Sl) (g : Nat → Int) (w : World) (hop : v.op = 27) (hs : Ints w s g) (hn : 0 ≤ s.n) : Calls Tryz.prog 113 #[M.val, F.val, v.val, .slice s.a s.n s.c] w fun e w' => Ans (fun r => r = true ↔ FitI M F v s.n g) w e w' := by
 obtain ⟨W, hW⟩ : ∃ W, ((w.alloc (.cells (mcells M) 27)).alloc (.cells (fcells F) 36)).alloc (.cells v.cells 43) = W := ⟨_, rfl⟩
 have LW := hid (show Below w.heap.size w W by rw [← hW]; exact new (new (new (same w) _) _) _)
 have VI : InsAt W (w.heap.size + 1 + 1) 0 v := by
  rw [← hW]
  have := InsAt.alloc ((w.alloc (.cells (mcells M) 27)).alloc (.cells (fcells F) 36)) v
  simpa using this
 obtain ⟨v0, v1, v2, v3, v4, v5, v6⟩ := VI.head
 rw [hop] at v0
 have IS := hs.on LW.out
 have HOP := hid hop
 clear VI hop
 have HN := hid hn
 clear hs hn IS
 go_enter Tryz.func113, Tryz.ntmps113
 go_wp2
 all_goals go_ret
 all_goals refine ⟨_, rfl, ?_, LW.out⟩
 all_goals have hop := HOP.out
 all_goals clear LW HN HOP
 all_goals go_light
 all_goals (unfold FitI; rw [hop]; simp [*] <;> simp_all)

end Go.Proofs.YtnodofbpogcheaaGreat.Chk
