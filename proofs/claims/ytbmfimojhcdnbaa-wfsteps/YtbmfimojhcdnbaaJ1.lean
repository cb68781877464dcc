/-
  ChkT0, ChkT1, ChkT2, ChkT3, ChkV: laid together.
-/
import Derived.Test.YtbmfimojhcdnbaaChkT
import Derived.Test.YtbmfimojhcdnbaaChkU
import Derived.Test.YtbmfimojhcdnbaaChkS
/-
  Types that fit, by the document: plnref3.fits, part 0.
-/
namespace Go.Proofs.Ytbmfimojhcdnbaa.Chk
open Go.RowKit View Rd Num Opn Copy Go.Proofs.Ytbmfimojhcdnbaa.Mod

set_option linter.unusedVariables false

set_option maxRecDepth 10000 in
set_option maxHeartbeats 4000000 in
theorem fit_1 (M : MV) (F : FV) (v : IV) (s : Sl) (g : Nat → Int) (w : World) (hop : v.op = 1) (hs : Ints w s g) (hn : 0 ≤ s.n) : Calls Try.prog 72 #[M.val, F.val, v.val, .slice s.a s.n s.c] w fun e w' => Ans (fun r => r = true ↔ FitI M F v s.n g) w e w' := by
  obtain ⟨W, hW⟩ : ∃ W, ((w.alloc (.cells (mcells M) 27)).alloc (.cells (fcells F) 33)).alloc (.cells v.cells 39) = W := ⟨_, rfl⟩
  have LW := hid (show Below w.heap.size w W by rw [← hW]; exact new (new (new (same w) _) _) _)
  have VI : InsAt W (w.heap.size + 1 + 1) 0 v := by
    rw [← hW]
    have := InsAt.alloc ((w.alloc (.cells (mcells M) 27)).alloc (.cells (fcells F) 33)) v
    simpa using this
  obtain ⟨v0, v1, v2, v3, v4, v5, v6⟩ := VI.head
  rw [hop] at v0
  have IS := hs.on LW.out
  have HOP := hid hop
  clear VI hop
  have HN := hid hn
  clear hs hn IS
  go_enter Try.func72, Try.ntmps72
  go_wp2
  all_goals go_ret
  all_goals refine ⟨_, rfl, ?_, LW.out⟩
  all_goals have hop := HOP.out
  all_goals clear LW HN HOP
  all_goals go_light
  all_goals (unfold FitI; rw [hop]; simp [*] <;> simp_all)

set_option maxRecDepth 10000 in
set_option maxHeartbeats 4000000 in
theorem fit_5 (M : MV) (F : FV) (v : IV) (s : Sl) (g : Nat → Int) (w : World) (hop : v.op = 5) (hs : Ints w s g) (hn : 2 ≤ s.n) : Calls Try.prog 72 #[M.val, F.val, v.val, .slice s.a s.n s.c] w fun e w' => Ans (fun r => r = true ↔ FitI M F v s.n g) w e w' := by
  obtain ⟨W, hW⟩ : ∃ W, ((w.alloc (.cells (mcells M) 27)).alloc (.cells (fcells F) 33)).alloc (.cells v.cells 39) = W := ⟨_, rfl⟩
  have LW := hid (show Below w.heap.size w W by rw [← hW]; exact new (new (new (same w) _) _) _)
  have VI : InsAt W (w.heap.size + 1 + 1) 0 v := by
    rw [← hW]
    have := InsAt.alloc ((w.alloc (.cells (mcells M) 27)).alloc (.cells (fcells F) 33)) v
    simpa using this
  obtain ⟨v0, v1, v2, v3, v4, v5, v6⟩ := VI.head
  rw [hop] at v0
  have IS := hs.on LW.out
  have HOP := hid hop
  clear VI hop
  obtain ⟨b0, o0, hx0, hc0⟩ := IS.at (k := 0) (by omega)
  have hy0 : ∀ wx, (Instr.indexAt 28 (.slice s.a s.n s.c) (.int .i64 0)).run Try.prog wx = .ok (.pointer (some ⟨b0, o0, none⟩)) wx := hx0
  clear hx0
  obtain ⟨b1, o1, hx1, hc1⟩ := IS.at (k := 1) (by omega)
  have hy1 : ∀ wx, (Instr.indexAt 28 (.slice s.a s.n s.c) (.int .i64 1)).run Try.prog wx = .ok (.pointer (some ⟨b1, o1, none⟩)) wx := hx1
  clear hx1
  have HN := hid hn
  clear hs hn IS
  go_enter Try.func72, Try.ntmps72
  go_wp2
  all_goals go_ret
  all_goals refine ⟨_, rfl, ?_, LW.out⟩
  all_goals have hop := HOP.out
  all_goals clear LW HN HOP
  all_goals go_light
  all_goals (unfold FitI; rw [hop]; simp [*] <;> simp_all)

set_option maxRecDepth 10000 in
set_option maxHeartbeats 4000000 in
theorem fit_9 (M : MV) (F : FV) (v : IV) (s : Sl) (g : Nat → Int) (w : World) (hop : v.op = 9) (hs : Ints w s g) (hn : 2 ≤ s.n) : Calls Try.prog 72 #[M.val, F.val, v.val, .slice s.a s.n s.c] w fun e w' => Ans (fun r => r = true ↔ FitI M F v s.n g) w e w' := by
  obtain ⟨W, hW⟩ : ∃ W, ((w.alloc (.cells (mcells M) 27)).alloc (.cells (fcells F) 33)).alloc (.cells v.cells 39) = W := ⟨_, rfl⟩
  have LW := hid (show Below w.heap.size w W by rw [← hW]; exact new (new (new (same w) _) _) _)
  have VI : InsAt W (w.heap.size + 1 + 1) 0 v := by
    rw [← hW]
    have := InsAt.alloc ((w.alloc (.cells (mcells M) 27)).alloc (.cells (fcells F) 33)) v
    simpa using this
  obtain ⟨v0, v1, v2, v3, v4, v5, v6⟩ := VI.head
  rw [hop] at v0
  have IS := hs.on LW.out
  have HOP := hid hop
  clear VI hop
  obtain ⟨b0, o0, hx0, hc0⟩ := IS.at (k := 0) (by omega)
  have hy0 : ∀ wx, (Instr.indexAt 28 (.slice s.a s.n s.c) (.int .i64 0)).run Try.prog wx = .ok (.pointer (some ⟨b0, o0, none⟩)) wx := hx0
  clear hx0
  obtain ⟨b1, o1, hx1, hc1⟩ := IS.at (k := 1) (by omega)
  have hy1 : ∀ wx, (Instr.indexAt 28 (.slice s.a s.n s.c) (.int .i64 1)).run Try.prog wx = .ok (.pointer (some ⟨b1, o1, none⟩)) wx := hx1
  clear hx1
  have HN := hid hn
  clear hs hn IS
  go_enter Try.func72, Try.ntmps72
  go_wp2
  all_goals go_ret
  all_goals refine ⟨_, rfl, ?_, LW.out⟩
  all_goals have hop := HOP.out
  all_goals clear LW HN HOP
  all_goals go_light
  all_goals (unfold FitI; rw [hop]; simp [*] <;> simp_all)

set_option maxRecDepth 10000 in
set_option maxHeartbeats 4000000 in
theorem fit_13 (M : MV) (F : FV) (v : IV) (s : Sl) (g : Nat → Int) (w : World) (hop : v.op = 13) (hs : Ints w s g) (hn : 2 ≤ s.n) : Calls Try.prog 72 #[M.val, F.val, v.val, .slice s.a s.n s.c] w fun e w' => Ans (fun r => r = true ↔ FitI M F v s.n g) w e w' := by
  obtain ⟨W, hW⟩ : ∃ W, ((w.alloc (.cells (mcells M) 27)).alloc (.cells (fcells F) 33)).alloc (.cells v.cells 39) = W := ⟨_, rfl⟩
  have LW := hid (show Below w.heap.size w W by rw [← hW]; exact new (new (new (same w) _) _) _)
  have VI : InsAt W (w.heap.size + 1 + 1) 0 v := by
    rw [← hW]
    have := InsAt.alloc ((w.alloc (.cells (mcells M) 27)).alloc (.cells (fcells F) 33)) v
    simpa using this
  obtain ⟨v0, v1, v2, v3, v4, v5, v6⟩ := VI.head
  rw [hop] at v0
  have IS := hs.on LW.out
  have HOP := hid hop
  clear VI hop
  obtain ⟨b0, o0, hx0, hc0⟩ := IS.at (k := 0) (by omega)
  have hy0 : ∀ wx, (Instr.indexAt 28 (.slice s.a s.n s.c) (.int .i64 0)).run Try.prog wx = .ok (.pointer (some ⟨b0, o0, none⟩)) wx := hx0
  clear hx0
  obtain ⟨b1, o1, hx1, hc1⟩ := IS.at (k := 1) (by omega)
  have hy1 : ∀ wx, (Instr.indexAt 28 (.slice s.a s.n s.c) (.int .i64 1)).run Try.prog wx = .ok (.pointer (some ⟨b1, o1, none⟩)) wx := hx1
  clear hx1
  have HN := hid hn
  clear hs hn IS
  go_enter Try.func72, Try.ntmps72
  go_wp2
  all_goals go_ret
  all_goals refine ⟨_, rfl, ?_, LW.out⟩
  all_goals have hop := HOP.out
  all_goals clear LW HN HOP
  all_goals go_light
  all_goals (unfold FitI; rw [hop]; simp [*] <;> simp_all)

set_option maxRecDepth 10000 in
set_option maxHeartbeats 4000000 in
theorem fit_18 (M : MV) (F : FV) (v : IV) (s : Sl) (g : Nat → Int) (w : World) (hop : v.op = 18) (hs : Ints w s g) (hn : 0 ≤ s.n) : Calls Try.prog 72 #[M.val, F.val, v.val, .slice s.a s.n s.c] w fun e w' => Ans (fun r => r = true ↔ FitI M F v s.n g) w e w' := by
  obtain ⟨W, hW⟩ : ∃ W, ((w.alloc (.cells (mcells M) 27)).alloc (.cells (fcells F) 33)).alloc (.cells v.cells 39) = W := ⟨_, rfl⟩
  have LW := hid (show Below w.heap.size w W by rw [← hW]; exact new (new (new (same w) _) _) _)
  have VI : InsAt W (w.heap.size + 1 + 1) 0 v := by
    rw [← hW]
    have := InsAt.alloc ((w.alloc (.cells (mcells M) 27)).alloc (.cells (fcells F) 33)) v
    simpa using this
  obtain ⟨v0, v1, v2, v3, v4, v5, v6⟩ := VI.head
  rw [hop] at v0
  have IS := hs.on LW.out
  have HOP := hid hop
  clear VI hop
  have HN := hid hn
  clear hs hn IS
  go_enter Try.func72, Try.ntmps72
  go_wp2
  all_goals go_ret
  all_goals refine ⟨_, rfl, ?_, LW.out⟩
  all_goals have hop := HOP.out
  all_goals clear LW HN HOP
  all_goals go_light
  all_goals (unfold FitI; rw [hop]; simp [*] <;> simp_all)

set_option maxRecDepth 10000 in
set_option maxHeartbeats 4000000 in
theorem fit_24 (M : MV) (F : FV) (v : IV) (s : Sl) (g : Nat → Int) (w : World) (hop : v.op = 24) (hs : Ints w s g) (hn : 1 ≤ s.n) : Calls Try.prog 72 #[M.val, F.val, v.val, .slice s.a s.n s.c] w fun e w' => Ans (fun r => r = true ↔ FitI M F v s.n g) w e w' := by
  obtain ⟨W, hW⟩ : ∃ W, ((w.alloc (.cells (mcells M) 27)).alloc (.cells (fcells F) 33)).alloc (.cells v.cells 39) = W := ⟨_, rfl⟩
  have LW := hid (show Below w.heap.size w W by rw [← hW]; exact new (new (new (same w) _) _) _)
  have VI : InsAt W (w.heap.size + 1 + 1) 0 v := by
    rw [← hW]
    have := InsAt.alloc ((w.alloc (.cells (mcells M) 27)).alloc (.cells (fcells F) 33)) v
    simpa using this
  obtain ⟨v0, v1, v2, v3, v4, v5, v6⟩ := VI.head
  rw [hop] at v0
  have IS := hs.on LW.out
  have HOP := hid hop
  clear VI hop
  obtain ⟨b0, o0, hx0, hc0⟩ := IS.at (k := 0) (by omega)
  have hy0 : ∀ wx, (Instr.indexAt 28 (.slice s.a s.n s.c) (.int .i64 0)).run Try.prog wx = .ok (.pointer (some ⟨b0, o0, none⟩)) wx := hx0
  clear hx0
  have HN := hid hn
  clear hs hn IS
  go_enter Try.func72, Try.ntmps72
  go_wp2
  all_goals go_ret
  all_goals refine ⟨_, rfl, ?_, LW.out⟩
  all_goals have hop := HOP.out
  all_goals clear LW HN HOP
  all_goals go_light
  all_goals (unfold FitI; rw [hop]; simp [*] <;> simp_all)

set_option maxRecDepth 10000 in
set_option maxHeartbeats 4000000 in
theorem fit_30 (M : MV) (F : FV) (v : IV) (s : Sl) (g : Nat → Int) (w : World) (hop : v.op = 30) (hs : Ints w s g) (hn : 0 ≤ s.n) : Calls Try.prog 72 #[M.val, F.val, v.val, .slice s.a s.n s.c] w fun e w' => Ans (fun r => r = true ↔ FitI M F v s.n g) w e w' := by
  obtain ⟨W, hW⟩ : ∃ W, ((w.alloc (.cells (mcells M) 27)).alloc (.cells (fcells F) 33)).alloc (.cells v.cells 39) = W := ⟨_, rfl⟩
  have LW := hid (show Below w.heap.size w W by rw [← hW]; exact new (new (new (same w) _) _) _)
  have VI : InsAt W (w.heap.size + 1 + 1) 0 v := by
    rw [← hW]
    have := InsAt.alloc ((w.alloc (.cells (mcells M) 27)).alloc (.cells (fcells F) 33)) v
    simpa using this
  obtain ⟨v0, v1, v2, v3, v4, v5, v6⟩ := VI.head
  rw [hop] at v0
  have IS := hs.on LW.out
  have HOP := hid hop
  clear VI hop
  have HN := hid hn
  clear hs hn IS
  go_enter Try.func72, Try.ntmps72
  go_wp2
  all_goals go_ret
  all_goals refine ⟨_, rfl, ?_, LW.out⟩
  all_goals have hop := HOP.out
  all_goals clear LW HN HOP
  all_goals go_light
  all_goals (unfold FitI; rw [hop]; simp [*] <;> simp_all)

end Go.Proofs.Ytbmfimojhcdnbaa.Chk

/-
  Types that fit, by the document: plnref3.fits, part 1.
-/
namespace Go.Proofs.Ytbmfimojhcdnbaa.Chk
open Go.RowKit View Rd Num Opn Copy Go.Proofs.Ytbmfimojhcdnbaa.Mod

set_option linter.unusedVariables false

set_option maxRecDepth 10000 in
set_option maxHeartbeats 4000000 in
theorem fit_2 (M : MV) (F : FV) (v : IV) (s : Sl) (g : Nat → Int) (w : World) (hop : v.op = 2) (hs : Ints w s g) (hn : 0 ≤ s.n) : Calls Try.prog 72 #[M.val, F.val, v.val, .slice s.a s.n s.c] w fun e w' => Ans (fun r => r = true ↔ FitI M F v s.n g) w e w' := by
  obtain ⟨W, hW⟩ : ∃ W, ((w.alloc (.cells (mcells M) 27)).alloc (.cells (fcells F) 33)).alloc (.cells v.cells 39) = W := ⟨_, rfl⟩
  have LW := hid (show Below w.heap.size w W by rw [← hW]; exact new (new (new (same w) _) _) _)
  have VI : InsAt W (w.heap.size + 1 + 1) 0 v := by
    rw [← hW]
    have := InsAt.alloc ((w.alloc (.cells (mcells M) 27)).alloc (.cells (fcells F) 33)) v
    simpa using this
  obtain ⟨v0, v1, v2, v3, v4, v5, v6⟩ := VI.head
  rw [hop] at v0
  have IS := hs.on LW.out
  have HOP := hid hop
  clear VI hop
  have HN := hid hn
  clear hs hn IS
  go_enter Try.func72, Try.ntmps72
  go_wp2
  all_goals go_ret
  all_goals refine ⟨_, rfl, ?_, LW.out⟩
  all_goals have hop := HOP.out
  all_goals clear LW HN HOP
  all_goals go_light
  all_goals (unfold FitI; rw [hop]; simp [*] <;> simp_all)

set_option maxRecDepth 10000 in
set_option maxHeartbeats 4000000 in
theorem fit_6 (M : MV) (F : FV) (v : IV) (s : Sl) (g : Nat → Int) (w : World) (hop : v.op = 6) (hs : Ints w s g) (hn : 2 ≤ s.n) : Calls Try.prog 72 #[M.val, F.val, v.val, .slice s.a s.n s.c] w fun e w' => Ans (fun r => r = true ↔ FitI M F v s.n g) w e w' := by
  obtain ⟨W, hW⟩ : ∃ W, ((w.alloc (.cells (mcells M) 27)).alloc (.cells (fcells F) 33)).alloc (.cells v.cells 39) = W := ⟨_, rfl⟩
  have LW := hid (show Below w.heap.size w W by rw [← hW]; exact new (new (new (same w) _) _) _)
  have VI : InsAt W (w.heap.size + 1 + 1) 0 v := by
    rw [← hW]
    have := InsAt.alloc ((w.alloc (.cells (mcells M) 27)).alloc (.cells (fcells F) 33)) v
    simpa using this
  obtain ⟨v0, v1, v2, v3, v4, v5, v6⟩ := VI.head
  rw [hop] at v0
  have IS := hs.on LW.out
  have HOP := hid hop
  clear VI hop
  obtain ⟨b0, o0, hx0, hc0⟩ := IS.at (k := 0) (by omega)
  have hy0 : ∀ wx, (Instr.indexAt 28 (.slice s.a s.n s.c) (.int .i64 0)).run Try.prog wx = .ok (.pointer (some ⟨b0, o0, none⟩)) wx := hx0
  clear hx0
  obtain ⟨b1, o1, hx1, hc1⟩ := IS.at (k := 1) (by omega)
  have hy1 : ∀ wx, (Instr.indexAt 28 (.slice s.a s.n s.c) (.int .i64 1)).run Try.prog wx = .ok (.pointer (some ⟨b1, o1, none⟩)) wx := hx1
  clear hx1
  have HN := hid hn
  clear hs hn IS
  go_enter Try.func72, Try.ntmps72
  go_wp2
  all_goals go_ret
  all_goals refine ⟨_, rfl, ?_, LW.out⟩
  all_goals have hop := HOP.out
  all_goals clear LW HN HOP
  all_goals go_light
  all_goals (unfold FitI; rw [hop]; simp [*] <;> simp_all)

set_option maxRecDepth 10000 in
set_option maxHeartbeats 4000000 in
theorem fit_10 (M : MV) (F : FV) (v : IV) (s : Sl) (g : Nat → Int) (w : World) (hop : v.op = 10) (hs : Ints w s g) (hn : 2 ≤ s.n) : Calls Try.prog 72 #[M.val, F.val, v.val, .slice s.a s.n s.c] w fun e w' => Ans (fun r => r = true ↔ FitI M F v s.n g) w e w' := by
  obtain ⟨W, hW⟩ : ∃ W, ((w.alloc (.cells (mcells M) 27)).alloc (.cells (fcells F) 33)).alloc (.cells v.cells 39) = W := ⟨_, rfl⟩
  have LW := hid (show Below w.heap.size w W by rw [← hW]; exact new (new (new (same w) _) _) _)
  have VI : InsAt W (w.heap.size + 1 + 1) 0 v := by
    rw [← hW]
    have := InsAt.alloc ((w.alloc (.cells (mcells M) 27)).alloc (.cells (fcells F) 33)) v
    simpa using this
  obtain ⟨v0, v1, v2, v3, v4, v5, v6⟩ := VI.head
  rw [hop] at v0
  have IS := hs.on LW.out
  have HOP := hid hop
  clear VI hop
  obtain ⟨b0, o0, hx0, hc0⟩ := IS.at (k := 0) (by omega)
  have hy0 : ∀ wx, (Instr.indexAt 28 (.slice s.a s.n s.c) (.int .i64 0)).run Try.prog wx = .ok (.pointer (some ⟨b0, o0, none⟩)) wx := hx0
  clear hx0
  obtain ⟨b1, o1, hx1, hc1⟩ := IS.at (k := 1) (by omega)
  have hy1 : ∀ wx, (Instr.indexAt 28 (.slice s.a s.n s.c) (.int .i64 1)).run Try.prog wx = .ok (.pointer (some ⟨b1, o1, none⟩)) wx := hx1
  clear hx1
  have HN := hid hn
  clear hs hn IS
  go_enter Try.func72, Try.ntmps72
  go_wp2
  all_goals go_ret
  all_goals refine ⟨_, rfl, ?_, LW.out⟩
  all_goals have hop := HOP.out
  all_goals clear LW HN HOP
  all_goals go_light
  all_goals (unfold FitI; rw [hop]; simp [*] <;> simp_all)

set_option maxRecDepth 10000 in
set_option maxHeartbeats 4000000 in
theorem fit_14 (M : MV) (F : FV) (v : IV) (s : Sl) (g : Nat → Int) (w : World) (hop : v.op = 14) (hs : Ints w s g) (hn : 2 ≤ s.n) : Calls Try.prog 72 #[M.val, F.val, v.val, .slice s.a s.n s.c] w fun e w' => Ans (fun r => r = true ↔ FitI M F v s.n g) w e w' := by
  obtain ⟨W, hW⟩ : ∃ W, ((w.alloc (.cells (mcells M) 27)).alloc (.cells (fcells F) 33)).alloc (.cells v.cells 39) = W := ⟨_, rfl⟩
  have LW := hid (show Below w.heap.size w W by rw [← hW]; exact new (new (new (same w) _) _) _)
  have VI : InsAt W (w.heap.size + 1 + 1) 0 v := by
    rw [← hW]
    have := InsAt.alloc ((w.alloc (.cells (mcells M) 27)).alloc (.cells (fcells F) 33)) v
    simpa using this
  obtain ⟨v0, v1, v2, v3, v4, v5, v6⟩ := VI.head
  rw [hop] at v0
  have IS := hs.on LW.out
  have HOP := hid hop
  clear VI hop
  obtain ⟨b0, o0, hx0, hc0⟩ := IS.at (k := 0) (by omega)
  have hy0 : ∀ wx, (Instr.indexAt 28 (.slice s.a s.n s.c) (.int .i64 0)).run Try.prog wx = .ok (.pointer (some ⟨b0, o0, none⟩)) wx := hx0
  clear hx0
  obtain ⟨b1, o1, hx1, hc1⟩ := IS.at (k := 1) (by omega)
  have hy1 : ∀ wx, (Instr.indexAt 28 (.slice s.a s.n s.c) (.int .i64 1)).run Try.prog wx = .ok (.pointer (some ⟨b1, o1, none⟩)) wx := hx1
  clear hx1
  have HN := hid hn
  clear hs hn IS
  go_enter Try.func72, Try.ntmps72
  go_wp2
  all_goals go_ret
  all_goals refine ⟨_, rfl, ?_, LW.out⟩
  all_goals have hop := HOP.out
  all_goals clear LW HN HOP
  all_goals go_light
  all_goals (unfold FitI; rw [hop]; simp [*] <;> simp_all)

set_option maxRecDepth 10000 in
set_option maxHeartbeats 4000000 in
theorem fit_19 (M : MV) (F : FV) (v : IV) (s : Sl) (g : Nat → Int) (w : World) (hop : v.op = 19) (hs : Ints w s g) (hn : 2 ≤ s.n) : Calls Try.prog 72 #[M.val, F.val, v.val, .slice s.a s.n s.c] w fun e w' => Ans (fun r => r = true ↔ FitI M F v s.n g) w e w' := by
  obtain ⟨W, hW⟩ : ∃ W, ((w.alloc (.cells (mcells M) 27)).alloc (.cells (fcells F) 33)).alloc (.cells v.cells 39) = W := ⟨_, rfl⟩
  have LW := hid (show Below w.heap.size w W by rw [← hW]; exact new (new (new (same w) _) _) _)
  have VI : InsAt W (w.heap.size + 1 + 1) 0 v := by
    rw [← hW]
    have := InsAt.alloc ((w.alloc (.cells (mcells M) 27)).alloc (.cells (fcells F) 33)) v
    simpa using this
  obtain ⟨v0, v1, v2, v3, v4, v5, v6⟩ := VI.head
  rw [hop] at v0
  have IS := hs.on LW.out
  have HOP := hid hop
  clear VI hop
  obtain ⟨b0, o0, hx0, hc0⟩ := IS.at (k := 0) (by omega)
  have hy0 : ∀ wx, (Instr.indexAt 28 (.slice s.a s.n s.c) (.int .i64 0)).run Try.prog wx = .ok (.pointer (some ⟨b0, o0, none⟩)) wx := hx0
  clear hx0
  obtain ⟨b1, o1, hx1, hc1⟩ := IS.at (k := 1) (by omega)
  have hy1 : ∀ wx, (Instr.indexAt 28 (.slice s.a s.n s.c) (.int .i64 1)).run Try.prog wx = .ok (.pointer (some ⟨b1, o1, none⟩)) wx := hx1
  clear hx1
  have HN := hid hn
  clear hs hn IS
  go_enter Try.func72, Try.ntmps72
  go_wp2
  all_goals go_ret
  all_goals refine ⟨_, rfl, ?_, LW.out⟩
  all_goals have hop := HOP.out
  all_goals clear LW HN HOP
  all_goals go_light
  all_goals (unfold FitI; rw [hop]; simp [*] <;> simp_all)

set_option maxRecDepth 10000 in
set_option maxHeartbeats 4000000 in
theorem fit_25 (M : MV) (F : FV) (v : IV) (s : Sl) (g : Nat → Int) (w : World) (hop : v.op = 25) (hs : Ints w s g) (hn : 1 ≤ s.n) : Calls Try.prog 72 #[M.val, F.val, v.val, .slice s.a s.n s.c] w fun e w' => Ans (fun r => r = true ↔ FitI M F v s.n g) w e w' := by
  obtain ⟨W, hW⟩ : ∃ W, ((w.alloc (.cells (mcells M) 27)).alloc (.cells (fcells F) 33)).alloc (.cells v.cells 39) = W := ⟨_, rfl⟩
  have LW := hid (show Below w.heap.size w W by rw [← hW]; exact new (new (new (same w) _) _) _)
  have VI : InsAt W (w.heap.size + 1 + 1) 0 v := by
    rw [← hW]
    have := InsAt.alloc ((w.alloc (.cells (mcells M) 27)).alloc (.cells (fcells F) 33)) v
    simpa using this
  obtain ⟨v0, v1, v2, v3, v4, v5, v6⟩ := VI.head
  rw [hop] at v0
  have IS := hs.on LW.out
  have HOP := hid hop
  clear VI hop
  obtain ⟨b0, o0, hx0, hc0⟩ := IS.at (k := 0) (by omega)
  have hy0 : ∀ wx, (Instr.indexAt 28 (.slice s.a s.n s.c) (.int .i64 0)).run Try.prog wx = .ok (.pointer (some ⟨b0, o0, none⟩)) wx := hx0
  clear hx0
  have HN := hid hn
  clear hs hn IS
  go_enter Try.func72, Try.ntmps72
  go_wp2
  all_goals go_ret
  all_goals refine ⟨_, rfl, ?_, LW.out⟩
  all_goals have hop := HOP.out
  all_goals clear LW HN HOP
  all_goals go_light
  all_goals (unfold FitI; rw [hop]; simp [*] <;> simp_all)

end Go.Proofs.Ytbmfimojhcdnbaa.Chk

/-
  Types that fit, by the document: plnref3.fits, part 2.
-/
namespace Go.Proofs.Ytbmfimojhcdnbaa.Chk
open Go.RowKit View Rd Num Opn Copy Go.Proofs.Ytbmfimojhcdnbaa.Mod

set_option linter.unusedVariables false

set_option maxRecDepth 10000 in
set_option maxHeartbeats 4000000 in
theorem fit_3 (M : MV) (F : FV) (v : IV) (s : Sl) (g : Nat → Int) (w : World) (hop : v.op = 3) (hs : Ints w s g) (hn : 0 ≤ s.n) : Calls Try.prog 72 #[M.val, F.val, v.val, .slice s.a s.n s.c] w fun e w' => Ans (fun r => r = true ↔ FitI M F v s.n g) w e w' := by
  obtain ⟨W, hW⟩ : ∃ W, ((w.alloc (.cells (mcells M) 27)).alloc (.cells (fcells F) 33)).alloc (.cells v.cells 39) = W := ⟨_, rfl⟩
  have LW := hid (show Below w.heap.size w W by rw [← hW]; exact new (new (new (same w) _) _) _)
  have VI : InsAt W (w.heap.size + 1 + 1) 0 v := by
    rw [← hW]
    have := InsAt.alloc ((w.alloc (.cells (mcells M) 27)).alloc (.cells (fcells F) 33)) v
    simpa using this
  obtain ⟨v0, v1, v2, v3, v4, v5, v6⟩ := VI.head
  rw [hop] at v0
  have IS := hs.on LW.out
  have HOP := hid hop
  clear VI hop
  have HN := hid hn
  clear hs hn IS
  go_enter Try.func72, Try.ntmps72
  go_wp2
  all_goals go_ret
  all_goals refine ⟨_, rfl, ?_, LW.out⟩
  all_goals have hop := HOP.out
  all_goals clear LW HN HOP
  all_goals go_light
  all_goals (unfold FitI; rw [hop]; simp [*] <;> simp_all)

set_option maxRecDepth 10000 in
set_option maxHeartbeats 4000000 in
theorem fit_7 (M : MV) (F : FV) (v : IV) (s : Sl) (g : Nat → Int) (w : World) (hop : v.op = 7) (hs : Ints w s g) (hn : 2 ≤ s.n) : Calls Try.prog 72 #[M.val, F.val, v.val, .slice s.a s.n s.c] w fun e w' => Ans (fun r => r = true ↔ FitI M F v s.n g) w e w' := by
  obtain ⟨W, hW⟩ : ∃ W, ((w.alloc (.cells (mcells M) 27)).alloc (.cells (fcells F) 33)).alloc (.cells v.cells 39) = W := ⟨_, rfl⟩
  have LW := hid (show Below w.heap.size w W by rw [← hW]; exact new (new (new (same w) _) _) _)
  have VI : InsAt W (w.heap.size + 1 + 1) 0 v := by
    rw [← hW]
    have := InsAt.alloc ((w.alloc (.cells (mcells M) 27)).alloc (.cells (fcells F) 33)) v
    simpa using this
  obtain ⟨v0, v1, v2, v3, v4, v5, v6⟩ := VI.head
  rw [hop] at v0
  have IS := hs.on LW.out
  have HOP := hid hop
  clear VI hop
  obtain ⟨b0, o0, hx0, hc0⟩ := IS.at (k := 0) (by omega)
  have hy0 : ∀ wx, (Instr.indexAt 28 (.slice s.a s.n s.c) (.int .i64 0)).run Try.prog wx = .ok (.pointer (some ⟨b0, o0, none⟩)) wx := hx0
  clear hx0
  obtain ⟨b1, o1, hx1, hc1⟩ := IS.at (k := 1) (by omega)
  have hy1 : ∀ wx, (Instr.indexAt 28 (.slice s.a s.n s.c) (.int .i64 1)).run Try.prog wx = .ok (.pointer (some ⟨b1, o1, none⟩)) wx := hx1
  clear hx1
  have HN := hid hn
  clear hs hn IS
  go_enter Try.func72, Try.ntmps72
  go_wp2
  all_goals go_ret
  all_goals refine ⟨_, rfl, ?_, LW.out⟩
  all_goals have hop := HOP.out
  all_goals clear LW HN HOP
  all_goals go_light
  all_goals (unfold FitI; rw [hop]; simp [*] <;> simp_all)

set_option maxRecDepth 10000 in
set_option maxHeartbeats 4000000 in
theorem fit_11 (M : MV) (F : FV) (v : IV) (s : Sl) (g : Nat → Int) (w : World) (hop : v.op = 11) (hs : Ints w s g) (hn : 2 ≤ s.n) : Calls Try.prog 72 #[M.val, F.val, v.val, .slice s.a s.n s.c] w fun e w' => Ans (fun r => r = true ↔ FitI M F v s.n g) w e w' := by
  obtain ⟨W, hW⟩ : ∃ W, ((w.alloc (.cells (mcells M) 27)).alloc (.cells (fcells F) 33)).alloc (.cells v.cells 39) = W := ⟨_, rfl⟩
  have LW := hid (show Below w.heap.size w W by rw [← hW]; exact new (new (new (same w) _) _) _)
  have VI : InsAt W (w.heap.size + 1 + 1) 0 v := by
    rw [← hW]
    have := InsAt.alloc ((w.alloc (.cells (mcells M) 27)).alloc (.cells (fcells F) 33)) v
    simpa using this
  obtain ⟨v0, v1, v2, v3, v4, v5, v6⟩ := VI.head
  rw [hop] at v0
  have IS := hs.on LW.out
  have HOP := hid hop
  clear VI hop
  obtain ⟨b0, o0, hx0, hc0⟩ := IS.at (k := 0) (by omega)
  have hy0 : ∀ wx, (Instr.indexAt 28 (.slice s.a s.n s.c) (.int .i64 0)).run Try.prog wx = .ok (.pointer (some ⟨b0, o0, none⟩)) wx := hx0
  clear hx0
  obtain ⟨b1, o1, hx1, hc1⟩ := IS.at (k := 1) (by omega)
  have hy1 : ∀ wx, (Instr.indexAt 28 (.slice s.a s.n s.c) (.int .i64 1)).run Try.prog wx = .ok (.pointer (some ⟨b1, o1, none⟩)) wx := hx1
  clear hx1
  have HN := hid hn
  clear hs hn IS
  go_enter Try.func72, Try.ntmps72
  go_wp2
  all_goals go_ret
  all_goals refine ⟨_, rfl, ?_, LW.out⟩
  all_goals have hop := HOP.out
  all_goals clear LW HN HOP
  all_goals go_light
  all_goals (unfold FitI; rw [hop]; simp [*] <;> simp_all)

set_option maxRecDepth 10000 in
set_option maxHeartbeats 4000000 in
theorem fit_15 (M : MV) (F : FV) (v : IV) (s : Sl) (g : Nat → Int) (w : World) (hop : v.op = 15) (hs : Ints w s g) (hn : 2 ≤ s.n) : Calls Try.prog 72 #[M.val, F.val, v.val, .slice s.a s.n s.c] w fun e w' => Ans (fun r => r = true ↔ FitI M F v s.n g) w e w' := by
  obtain ⟨W, hW⟩ : ∃ W, ((w.alloc (.cells (mcells M) 27)).alloc (.cells (fcells F) 33)).alloc (.cells v.cells 39) = W := ⟨_, rfl⟩
  have LW := hid (show Below w.heap.size w W by rw [← hW]; exact new (new (new (same w) _) _) _)
  have VI : InsAt W (w.heap.size + 1 + 1) 0 v := by
    rw [← hW]
    have := InsAt.alloc ((w.alloc (.cells (mcells M) 27)).alloc (.cells (fcells F) 33)) v
    simpa using this
  obtain ⟨v0, v1, v2, v3, v4, v5, v6⟩ := VI.head
  rw [hop] at v0
  have IS := hs.on LW.out
  have HOP := hid hop
  clear VI hop
  obtain ⟨b0, o0, hx0, hc0⟩ := IS.at (k := 0) (by omega)
  have hy0 : ∀ wx, (Instr.indexAt 28 (.slice s.a s.n s.c) (.int .i64 0)).run Try.prog wx = .ok (.pointer (some ⟨b0, o0, none⟩)) wx := hx0
  clear hx0
  obtain ⟨b1, o1, hx1, hc1⟩ := IS.at (k := 1) (by omega)
  have hy1 : ∀ wx, (Instr.indexAt 28 (.slice s.a s.n s.c) (.int .i64 1)).run Try.prog wx = .ok (.pointer (some ⟨b1, o1, none⟩)) wx := hx1
  clear hx1
  have HN := hid hn
  clear hs hn IS
  go_enter Try.func72, Try.ntmps72
  go_wp2
  all_goals go_ret
  all_goals refine ⟨_, rfl, ?_, LW.out⟩
  all_goals have hop := HOP.out
  all_goals clear LW HN HOP
  all_goals go_light
  all_goals (unfold FitI; rw [hop]; simp [*] <;> simp_all)

set_option maxRecDepth 10000 in
set_option maxHeartbeats 4000000 in
theorem fit_20 (M : MV) (F : FV) (v : IV) (s : Sl) (g : Nat → Int) (w : World) (hop : v.op = 20) (hs : Ints w s g) (hn : 1 ≤ s.n) : Calls Try.prog 72 #[M.val, F.val, v.val, .slice s.a s.n s.c] w fun e w' => Ans (fun r => r = true ↔ FitI M F v s.n g) w e w' := by
  obtain ⟨W, hW⟩ : ∃ W, ((w.alloc (.cells (mcells M) 27)).alloc (.cells (fcells F) 33)).alloc (.cells v.cells 39) = W := ⟨_, rfl⟩
  have LW := hid (show Below w.heap.size w W by rw [← hW]; exact new (new (new (same w) _) _) _)
  have VI : InsAt W (w.heap.size + 1 + 1) 0 v := by
    rw [← hW]
    have := InsAt.alloc ((w.alloc (.cells (mcells M) 27)).alloc (.cells (fcells F) 33)) v
    simpa using this
  obtain ⟨v0, v1, v2, v3, v4, v5, v6⟩ := VI.head
  rw [hop] at v0
  have IS := hs.on LW.out
  have HOP := hid hop
  clear VI hop
  obtain ⟨b0, o0, hx0, hc0⟩ := IS.at (k := 0) (by omega)
  have hy0 : ∀ wx, (Instr.indexAt 28 (.slice s.a s.n s.c) (.int .i64 0)).run Try.prog wx = .ok (.pointer (some ⟨b0, o0, none⟩)) wx := hx0
  clear hx0
  have HN := hid hn
  clear hs hn IS
  go_enter Try.func72, Try.ntmps72
  go_wp2
  all_goals go_ret
  all_goals refine ⟨_, rfl, ?_, LW.out⟩
  all_goals have hop := HOP.out
  all_goals clear LW HN HOP
  all_goals go_light
  all_goals (unfold FitI; rw [hop]; simp [*] <;> simp_all)

set_option maxRecDepth 10000 in
set_option maxHeartbeats 4000000 in
theorem fit_27 (M : MV) (F : FV) (v : IV) (s : Sl) (g : Nat → Int) (w : World) (hop : v.op = 27) (hs : Ints w s g) (hn : 0 ≤ s.n) : Calls Try.prog 72 #[M.val, F.val, v.val, .slice s.a s.n s.c] w fun e w' => Ans (fun r => r = true ↔ FitI M F v s.n g) w e w' := by
  obtain ⟨W, hW⟩ : ∃ W, ((w.alloc (.cells (mcells M) 27)).alloc (.cells (fcells F) 33)).alloc (.cells v.cells 39) = W := ⟨_, rfl⟩
  have LW := hid (show Below w.heap.size w W by rw [← hW]; exact new (new (new (same w) _) _) _)
  have VI : InsAt W (w.heap.size + 1 + 1) 0 v := by
    rw [← hW]
    have := InsAt.alloc ((w.alloc (.cells (mcells M) 27)).alloc (.cells (fcells F) 33)) v
    simpa using this
  obtain ⟨v0, v1, v2, v3, v4, v5, v6⟩ := VI.head
  rw [hop] at v0
  have IS := hs.on LW.out
  have HOP := hid hop
  clear VI hop
  have HN := hid hn
  clear hs hn IS
  go_enter Try.func72, Try.ntmps72
  go_wp2
  all_goals go_ret
  all_goals refine ⟨_, rfl, ?_, LW.out⟩
  all_goals have hop := HOP.out
  all_goals clear LW HN HOP
  all_goals go_light
  all_goals (unfold FitI; rw [hop]; simp [*] <;> simp_all)

end Go.Proofs.Ytbmfimojhcdnbaa.Chk

/-
  Types that fit, by the document: plnref3.fits, part 3.
-/
namespace Go.Proofs.Ytbmfimojhcdnbaa.Chk
open Go.RowKit View Rd Num Opn Copy Go.Proofs.Ytbmfimojhcdnbaa.Mod

set_option linter.unusedVariables false

set_option maxRecDepth 10000 in
set_option maxHeartbeats 4000000 in
theorem fit_4 (M : MV) (F : FV) (v : IV) (s : Sl) (g : Nat → Int) (w : World) (hop : v.op = 4) (hs : Ints w s g) (hn : 2 ≤ s.n) : Calls Try.prog 72 #[M.val, F.val, v.val, .slice s.a s.n s.c] w fun e w' => Ans (fun r => r = true ↔ FitI M F v s.n g) w e w' := by
  obtain ⟨W, hW⟩ : ∃ W, ((w.alloc (.cells (mcells M) 27)).alloc (.cells (fcells F) 33)).alloc (.cells v.cells 39) = W := ⟨_, rfl⟩
  have LW := hid (show Below w.heap.size w W by rw [← hW]; exact new (new (new (same w) _) _) _)
  have VI : InsAt W (w.heap.size + 1 + 1) 0 v := by
    rw [← hW]
    have := InsAt.alloc ((w.alloc (.cells (mcells M) 27)).alloc (.cells (fcells F) 33)) v
    simpa using this
  obtain ⟨v0, v1, v2, v3, v4, v5, v6⟩ := VI.head
  rw [hop] at v0
  have IS := hs.on LW.out
  have HOP := hid hop
  clear VI hop
  obtain ⟨b0, o0, hx0, hc0⟩ := IS.at (k := 0) (by omega)
  have hy0 : ∀ wx, (Instr.indexAt 28 (.slice s.a s.n s.c) (.int .i64 0)).run Try.prog wx = .ok (.pointer (some ⟨b0, o0, none⟩)) wx := hx0
  clear hx0
  obtain ⟨b1, o1, hx1, hc1⟩ := IS.at (k := 1) (by omega)
  have hy1 : ∀ wx, (Instr.indexAt 28 (.slice s.a s.n s.c) (.int .i64 1)).run Try.prog wx = .ok (.pointer (some ⟨b1, o1, none⟩)) wx := hx1
  clear hx1
  have HN := hid hn
  clear hs hn IS
  go_enter Try.func72, Try.ntmps72
  go_wp2
  all_goals go_ret
  all_goals refine ⟨_, rfl, ?_, LW.out⟩
  all_goals have hop := HOP.out
  all_goals clear LW HN HOP
  all_goals go_light
  all_goals (unfold FitI; rw [hop]; simp [*] <;> simp_all)

set_option maxRecDepth 10000 in
set_option maxHeartbeats 4000000 in
theorem fit_8 (M : MV) (F : FV) (v : IV) (s : Sl) (g : Nat → Int) (w : World) (hop : v.op = 8) (hs : Ints w s g) (hn : 2 ≤ s.n) : Calls Try.prog 72 #[M.val, F.val, v.val, .slice s.a s.n s.c] w fun e w' => Ans (fun r => r = true ↔ FitI M F v s.n g) w e w' := by
  obtain ⟨W, hW⟩ : ∃ W, ((w.alloc (.cells (mcells M) 27)).alloc (.cells (fcells F) 33)).alloc (.cells v.cells 39) = W := ⟨_, rfl⟩
  have LW := hid (show Below w.heap.size w W by rw [← hW]; exact new (new (new (same w) _) _) _)
  have VI : InsAt W (w.heap.size + 1 + 1) 0 v := by
    rw [← hW]
    have := InsAt.alloc ((w.alloc (.cells (mcells M) 27)).alloc (.cells (fcells F) 33)) v
    simpa using this
  obtain ⟨v0, v1, v2, v3, v4, v5, v6⟩ := VI.head
  rw [hop] at v0
  have IS := hs.on LW.out
  have HOP := hid hop
  clear VI hop
  obtain ⟨b0, o0, hx0, hc0⟩ := IS.at (k := 0) (by omega)
  have hy0 : ∀ wx, (Instr.indexAt 28 (.slice s.a s.n s.c) (.int .i64 0)).run Try.prog wx = .ok (.pointer (some ⟨b0, o0, none⟩)) wx := hx0
  clear hx0
  obtain ⟨b1, o1, hx1, hc1⟩ := IS.at (k := 1) (by omega)
  have hy1 : ∀ wx, (Instr.indexAt 28 (.slice s.a s.n s.c) (.int .i64 1)).run Try.prog wx = .ok (.pointer (some ⟨b1, o1, none⟩)) wx := hx1
  clear hx1
  have HN := hid hn
  clear hs hn IS
  go_enter Try.func72, Try.ntmps72
  go_wp2
  all_goals go_ret
  all_goals refine ⟨_, rfl, ?_, LW.out⟩
  all_goals have hop := HOP.out
  all_goals clear LW HN HOP
  all_goals go_light
  all_goals (unfold FitI; rw [hop]; simp [*] <;> simp_all)

set_option maxRecDepth 10000 in
set_option maxHeartbeats 4000000 in
theorem fit_12 (M : MV) (F : FV) (v : IV) (s : Sl) (g : Nat → Int) (w : World) (hop : v.op = 12) (hs : Ints w s g) (hn : 2 ≤ s.n) : Calls Try.prog 72 #[M.val, F.val, v.val, .slice s.a s.n s.c] w fun e w' => Ans (fun r => r = true ↔ FitI M F v s.n g) w e w' := by
  obtain ⟨W, hW⟩ : ∃ W, ((w.alloc (.cells (mcells M) 27)).alloc (.cells (fcells F) 33)).alloc (.cells v.cells 39) = W := ⟨_, rfl⟩
  have LW := hid (show Below w.heap.size w W by rw [← hW]; exact new (new (new (same w) _) _) _)
  have VI : InsAt W (w.heap.size + 1 + 1) 0 v := by
    rw [← hW]
    have := InsAt.alloc ((w.alloc (.cells (mcells M) 27)).alloc (.cells (fcells F) 33)) v
    simpa using this
  obtain ⟨v0, v1, v2, v3, v4, v5, v6⟩ := VI.head
  rw [hop] at v0
  have IS := hs.on LW.out
  have HOP := hid hop
  clear VI hop
  obtain ⟨b0, o0, hx0, hc0⟩ := IS.at (k := 0) (by omega)
  have hy0 : ∀ wx, (Instr.indexAt 28 (.slice s.a s.n s.c) (.int .i64 0)).run Try.prog wx = .ok (.pointer (some ⟨b0, o0, none⟩)) wx := hx0
  clear hx0
  obtain ⟨b1, o1, hx1, hc1⟩ := IS.at (k := 1) (by omega)
  have hy1 : ∀ wx, (Instr.indexAt 28 (.slice s.a s.n s.c) (.int .i64 1)).run Try.prog wx = .ok (.pointer (some ⟨b1, o1, none⟩)) wx := hx1
  clear hx1
  have HN := hid hn
  clear hs hn IS
  go_enter Try.func72, Try.ntmps72
  go_wp2
  all_goals go_ret
  all_goals refine ⟨_, rfl, ?_, LW.out⟩
  all_goals have hop := HOP.out
  all_goals clear LW HN HOP
  all_goals go_light
  all_goals (unfold FitI; rw [hop]; simp [*] <;> simp_all)

set_option maxRecDepth 10000 in
set_option maxHeartbeats 4000000 in
theorem fit_16 (M : MV) (F : FV) (v : IV) (s : Sl) (g : Nat → Int) (w : World) (hop : v.op = 16) (hs : Ints w s g) (hn : 1 ≤ s.n) : Calls Try.prog 72 #[M.val, F.val, v.val, .slice s.a s.n s.c] w fun e w' => Ans (fun r => r = true ↔ FitI M F v s.n g) w e w' := by
  obtain ⟨W, hW⟩ : ∃ W, ((w.alloc (.cells (mcells M) 27)).alloc (.cells (fcells F) 33)).alloc (.cells v.cells 39) = W := ⟨_, rfl⟩
  have LW := hid (show Below w.heap.size w W by rw [← hW]; exact new (new (new (same w) _) _) _)
  have VI : InsAt W (w.heap.size + 1 + 1) 0 v := by
    rw [← hW]
    have := InsAt.alloc ((w.alloc (.cells (mcells M) 27)).alloc (.cells (fcells F) 33)) v
    simpa using this
  obtain ⟨v0, v1, v2, v3, v4, v5, v6⟩ := VI.head
  rw [hop] at v0
  have IS := hs.on LW.out
  have HOP := hid hop
  clear VI hop
  obtain ⟨b0, o0, hx0, hc0⟩ := IS.at (k := 0) (by omega)
  have hy0 : ∀ wx, (Instr.indexAt 28 (.slice s.a s.n s.c) (.int .i64 0)).run Try.prog wx = .ok (.pointer (some ⟨b0, o0, none⟩)) wx := hx0
  clear hx0
  have HN := hid hn
  clear hs hn IS
  go_enter Try.func72, Try.ntmps72
  go_wp2
  all_goals go_ret
  all_goals refine ⟨_, rfl, ?_, LW.out⟩
  all_goals have hop := HOP.out
  all_goals clear LW HN HOP
  all_goals go_light
  all_goals (unfold FitI; rw [hop]; simp [*] <;> simp_all)

set_option maxRecDepth 10000 in
set_option maxHeartbeats 4000000 in
theorem fit_21 (M : MV) (F : FV) (v : IV) (s : Sl) (g : Nat → Int) (w : World) (hop : v.op = 21) (hs : Ints w s g) (hn : 2 ≤ s.n) : Calls Try.prog 72 #[M.val, F.val, v.val, .slice s.a s.n s.c] w fun e w' => Ans (fun r => r = true ↔ FitI M F v s.n g) w e w' := by
  obtain ⟨W, hW⟩ : ∃ W, ((w.alloc (.cells (mcells M) 27)).alloc (.cells (fcells F) 33)).alloc (.cells v.cells 39) = W := ⟨_, rfl⟩
  have LW := hid (show Below w.heap.size w W by rw [← hW]; exact new (new (new (same w) _) _) _)
  have VI : InsAt W (w.heap.size + 1 + 1) 0 v := by
    rw [← hW]
    have := InsAt.alloc ((w.alloc (.cells (mcells M) 27)).alloc (.cells (fcells F) 33)) v
    simpa using this
  obtain ⟨v0, v1, v2, v3, v4, v5, v6⟩ := VI.head
  rw [hop] at v0
  have IS := hs.on LW.out
  have HOP := hid hop
  clear VI hop
  obtain ⟨b0, o0, hx0, hc0⟩ := IS.at (k := 0) (by omega)
  have hy0 : ∀ wx, (Instr.indexAt 28 (.slice s.a s.n s.c) (.int .i64 0)).run Try.prog wx = .ok (.pointer (some ⟨b0, o0, none⟩)) wx := hx0
  clear hx0
  obtain ⟨b1, o1, hx1, hc1⟩ := IS.at (k := 1) (by omega)
  have hy1 : ∀ wx, (Instr.indexAt 28 (.slice s.a s.n s.c) (.int .i64 1)).run Try.prog wx = .ok (.pointer (some ⟨b1, o1, none⟩)) wx := hx1
  clear hx1
  have HN := hid hn
  clear hs hn IS
  go_enter Try.func72, Try.ntmps72
  go_wp2
  all_goals go_ret
  all_goals refine ⟨_, rfl, ?_, LW.out⟩
  all_goals have hop := HOP.out
  all_goals clear LW HN HOP
  all_goals go_light
  all_goals (unfold FitI; rw [hop]; simp [*] <;> simp_all)

set_option maxRecDepth 10000 in
set_option maxHeartbeats 4000000 in
theorem fit_28 (M : MV) (F : FV) (v : IV) (s : Sl) (g : Nat → Int) (w : World) (hop : v.op = 28) (hs : Ints w s g) (hn : 1 ≤ s.n) : Calls Try.prog 72 #[M.val, F.val, v.val, .slice s.a s.n s.c] w fun e w' => Ans (fun r => r = true ↔ FitI M F v s.n g) w e w' := by
  obtain ⟨W, hW⟩ : ∃ W, ((w.alloc (.cells (mcells M) 27)).alloc (.cells (fcells F) 33)).alloc (.cells v.cells 39) = W := ⟨_, rfl⟩
  have LW := hid (show Below w.heap.size w W by rw [← hW]; exact new (new (new (same w) _) _) _)
  have VI : InsAt W (w.heap.size + 1 + 1) 0 v := by
    rw [← hW]
    have := InsAt.alloc ((w.alloc (.cells (mcells M) 27)).alloc (.cells (fcells F) 33)) v
    simpa using this
  obtain ⟨v0, v1, v2, v3, v4, v5, v6⟩ := VI.head
  rw [hop] at v0
  have IS := hs.on LW.out
  have HOP := hid hop
  clear VI hop
  obtain ⟨b0, o0, hx0, hc0⟩ := IS.at (k := 0) (by omega)
  have hy0 : ∀ wx, (Instr.indexAt 28 (.slice s.a s.n s.c) (.int .i64 0)).run Try.prog wx = .ok (.pointer (some ⟨b0, o0, none⟩)) wx := hx0
  clear hx0
  have HN := hid hn
  clear hs hn IS
  go_enter Try.func72, Try.ntmps72
  go_wp2
  all_goals go_ret
  all_goals refine ⟨_, rfl, ?_, LW.out⟩
  all_goals have hop := HOP.out
  all_goals clear LW HN HOP
  all_goals go_light
  all_goals (unfold FitI; rw [hop]; simp [*] <;> simp_all)

end Go.Proofs.Ytbmfimojhcdnbaa.Chk

/-
  Types that fit, by the document: plnref3.fits, at every Ins that has its form.
-/
namespace Go.Proofs.Ytbmfimojhcdnbaa.Chk
open Go.RowKit View Rd Num Opn Copy Go.Proofs.Ytbmfimojhcdnbaa.Mod

set_option linter.unusedVariables false

theorem form_op {v : IV} (h : formB v = true) : 1 ≤ v.op ∧ v.op ≤ 30 := by
  unfold formB at h
  simp only [Bool.and_eq_true, decide_eq_true_eq] at h
  omega

theorem form_args {v : IV} (h : formB v = true) : (mk v.op).a < 0 ∨ (v.args.n : Int) = (mk v.op).a := by
  unfold formB at h
  simp only [Bool.and_eq_true, Bool.or_eq_true, decide_eq_true_eq] at h
  exact h.1.1.1.1.1.1.2

theorem form_sw {v : IV} (h : formB v = true) : swB v = true := by
  unfold formB at h
  simp only [Bool.and_eq_true] at h
  exact h.1.1.2

theorem fits_any (M : MV) (F : FV) (v : IV) (s : Sl) (g : Nat → Int) (w : World) (hM : InM w M) (hs : SmallM M) (hf : formB v = true) (hy : SymI M v) (hi : Ints w s g) (hn : s.n = v.args.n) (h20 : v.args.n ≤ 20) :
    Calls Try.prog 72 #[M.val, F.val, v.val, .slice s.a s.n s.c] w fun e w' => Ans (fun r => r = true ↔ FitI M F v s.n g) w e w' := by
  have hop := form_op hf
  have ha := form_args hf
  have hsw := form_sw hf
  have ho : v.op = 1 ∨ v.op = 2 ∨ v.op = 3 ∨ v.op = 4 ∨ v.op = 5 ∨ v.op = 6 ∨ v.op = 7 ∨ v.op = 8 ∨ v.op = 9 ∨ v.op = 10 ∨ v.op = 11 ∨ v.op = 12 ∨ v.op = 13 ∨ v.op = 14 ∨ v.op = 15 ∨ v.op = 16 ∨ v.op = 17 ∨ v.op = 18 ∨ v.op = 19 ∨ v.op = 20 ∨ v.op = 21 ∨ v.op = 22 ∨ v.op = 23 ∨ v.op = 24 ∨ v.op = 25 ∨ v.op = 26 ∨ v.op = 27 ∨ v.op = 28 ∨ v.op = 29 ∨ v.op = 30 := by omega
  rcases ho with e | e | e | e | e | e | e | e | e | e | e | e | e | e | e | e | e | e | e | e | e | e | e | e | e | e | e | e | e | e
  all_goals rw [e] at ha
  · exact fit_1 M F v s g w e hi (Nat.zero_le _)
  · exact fit_2 M F v s g w e hi (Nat.zero_le _)
  · exact fit_3 M F v s g w e hi (Nat.zero_le _)
  · exact fit_4 M F v s g w e hi (by simp [mk] at ha; omega)
  · exact fit_5 M F v s g w e hi (by simp [mk] at ha; omega)
  · exact fit_6 M F v s g w e hi (by simp [mk] at ha; omega)
  · exact fit_7 M F v s g w e hi (by simp [mk] at ha; omega)
  · exact fit_8 M F v s g w e hi (by simp [mk] at ha; omega)
  · exact fit_9 M F v s g w e hi (by simp [mk] at ha; omega)
  · exact fit_10 M F v s g w e hi (by simp [mk] at ha; omega)
  · exact fit_11 M F v s g w e hi (by simp [mk] at ha; omega)
  · exact fit_12 M F v s g w e hi (by simp [mk] at ha; omega)
  · exact fit_13 M F v s g w e hi (by simp [mk] at ha; omega)
  · exact fit_14 M F v s g w e hi (by simp [mk] at ha; omega)
  · exact fit_15 M F v s g w e hi (by simp [mk] at ha; omega)
  · exact fit_16 M F v s g w e hi (by simp [mk] at ha; omega)
  · exact fit_17 M F v s g w e hi (by simp [mk] at ha; omega) (by omega)
  · exact fit_18 M F v s g w e hi (Nat.zero_le _)
  · exact fit_19 M F v s g w e hi (by simp [mk] at ha; omega)
  · exact fit_20 M F v s g w e hi (by simp [mk] at ha; omega)
  · exact fit_21 M F v s g w e hi (by simp [mk] at ha; omega)
  · exact fit_22 M F v s g w e hi (Nat.zero_le _) (by omega) hM hy.1 (by have := hy.2; rw [e] at this; simpa [symN] using this) (fun k hk => by have := (hs.light k hk).par; omega)
  · exact fit_23 M F v s g w e hi (Nat.zero_le _) (by omega) hM hy.1 (by have := hy.2; rw [e] at this; simpa [symN] using this) (fun k hk => by have := (hs.extI k hk).2; omega)
  · exact fit_24 M F v s g w e hi (by simp [mk] at ha; omega)
  · exact fit_25 M F v s g w e hi (by unfold swB at hsw; rw [e] at hsw; simp at hsw; omega)
  · exact fit_26 M F v s g w e hi (Nat.zero_le _) (by omega)
  · exact fit_27 M F v s g w e hi (Nat.zero_le _)
  · exact fit_28 M F v s g w e hi (by simp [mk] at ha; omega)
  · exact fit_29 M F v s g w e hi (Nat.zero_le _) (by omega)
  · exact fit_30 M F v s g w e hi (Nat.zero_le _)

end Go.Proofs.Ytbmfimojhcdnbaa.Chk
