/-
  Types that fit, by the document: plnref3.fits, part 3.
-/
import Derived.Test.YtolipafcoolpgaaGreatJ5
namespace Go.Proofs.YtolipafcoolpgaaGreat.Chk
open Go.RowKit View Rd Num Opn Copy Go.Proofs.YtolipafcoolpgaaGreat.Mod

set_option linter.unusedVariables false

set_option maxRecDepth 10000 in
set_option maxHeartbeats 4000000 in
theorem fit_4 (M : MV) (F : FV) (v : IV) (s : Sl) (g : Nat → Int) (w : World) (hop : v.op = 4) (hs : Ints w s g) (hn : 2 ≤ s.n) : Calls Tryz.prog 112 #[M.val, F.val, v.val, .slice s.a s.n s.c] w fun e w' => Ans (fun r => r = true ↔ FitI M F v s.n g) w e w' := by
 obtain ⟨W, hW, LW, VI⟩ := fitStart M F v w
 obtain ⟨v0, v1, v2, v3, v4, v5, v6⟩ := VI.head
 rw [hop] at v0
 have IS := hs.on LW.out
 have HOP := hid hop
 clear VI hop
 obtain ⟨b0, o0, hy0, hc0⟩ := ix0 IS (by omega)
 obtain ⟨b1, o1, hy1, hc1⟩ := ix1 IS (by omega)
 have HN := hid hn
 clear hs hn IS
 go_enter Tryz.func112, Tryz.ntmps112
 go_wp2
 all_goals go_ret
 all_goals refine ⟨_, rfl, ?_, LW.out⟩
 all_goals have hop := HOP.out
 all_goals clear LW HN HOP
 all_goals go_light
 all_goals (unfold FitI; rw [hop]; simp [*] <;> simp_all)

set_option maxRecDepth 10000 in
set_option maxHeartbeats 4000000 in
theorem fit_8 (M : MV) (F : FV) (v : IV) (s : Sl) (g : Nat → Int) (w : World) (hop : v.op = 8) (hs : Ints w s g) (hn : 2 ≤ s.n) : Calls Tryz.prog 112 #[M.val, F.val, v.val, .slice s.a s.n s.c] w fun e w' => Ans (fun r => r = true ↔ FitI M F v s.n g) w e w' := by
 obtain ⟨W, hW, LW, VI⟩ := fitStart M F v w
 obtain ⟨v0, v1, v2, v3, v4, v5, v6⟩ := VI.head
 rw [hop] at v0
 have IS := hs.on LW.out
 have HOP := hid hop
 clear VI hop
 obtain ⟨b0, o0, hy0, hc0⟩ := ix0 IS (by omega)
 obtain ⟨b1, o1, hy1, hc1⟩ := ix1 IS (by omega)
 have HN := hid hn
 clear hs hn IS
 go_enter Tryz.func112, Tryz.ntmps112
 go_wp2
 all_goals go_ret
 all_goals refine ⟨_, rfl, ?_, LW.out⟩
 all_goals have hop := HOP.out
 all_goals clear LW HN HOP
 all_goals go_light
 all_goals (unfold FitI; rw [hop]; simp [*] <;> simp_all)

set_option maxRecDepth 10000 in
set_option maxHeartbeats 4000000 in
theorem fit_12 (M : MV) (F : FV) (v : IV) (s : Sl) (g : Nat → Int) (w : World) (hop : v.op = 12) (hs : Ints w s g) (hn : 2 ≤ s.n) : Calls Tryz.prog 112 #[M.val, F.val, v.val, .slice s.a s.n s.c] w fun e w' => Ans (fun r => r = true ↔ FitI M F v s.n g) w e w' := by
 obtain ⟨W, hW, LW, VI⟩ := fitStart M F v w
 obtain ⟨v0, v1, v2, v3, v4, v5, v6⟩ := VI.head
 rw [hop] at v0
 have IS := hs.on LW.out
 have HOP := hid hop
 clear VI hop
 obtain ⟨b0, o0, hy0, hc0⟩ := ix0 IS (by omega)
 obtain ⟨b1, o1, hy1, hc1⟩ := ix1 IS (by omega)
 have HN := hid hn
 clear hs hn IS
 go_enter Tryz.func112, Tryz.ntmps112
 go_wp2
 all_goals go_ret
 all_goals refine ⟨_, rfl, ?_, LW.out⟩
 all_goals have hop := HOP.out
 all_goals clear LW HN HOP
 all_goals go_light
 all_goals (unfold FitI; rw [hop]; simp [*] <;> simp_all)

set_option maxRecDepth 10000 in
set_option maxHeartbeats 4000000 in
theorem fit_16 (M : MV) (F : FV) (v : IV) (s : Sl) (g : Nat → Int) (w : World) (hop : v.op = 16) (hs : Ints w s g) (hn : 1 ≤ s.n) : Calls Tryz.prog 112 #[M.val, F.val, v.val, .slice s.a s.n s.c] w fun e w' => Ans (fun r => r = true ↔ FitI M F v s.n g) w e w' := by
 obtain ⟨W, hW, LW, VI⟩ := fitStart M F v w
 obtain ⟨v0, v1, v2, v3, v4, v5, v6⟩ := VI.head
 rw [hop] at v0
 have IS := hs.on LW.out
 have HOP := hid hop
 clear VI hop
 obtain ⟨b0, o0, hy0, hc0⟩ := ix0 IS (by omega)
 have HN := hid hn
 clear hs hn IS
 go_enter Tryz.func112, Tryz.ntmps112
 go_wp2
 all_goals go_ret
 all_goals refine ⟨_, rfl, ?_, LW.out⟩
 all_goals have hop := HOP.out
 all_goals clear LW HN HOP
 all_goals go_light
 all_goals (unfold FitI; rw [hop]; simp [*] <;> simp_all)

set_option maxRecDepth 10000 in
set_option maxHeartbeats 4000000 in
theorem fit_21 (M : MV) (F : FV) (v : IV) (s : Sl) (g : Nat → Int) (w : World) (hop : v.op = 21) (hs : Ints w s g) (hn : 2 ≤ s.n) : Calls Tryz.prog 112 #[M.val, F.val, v.val, .slice s.a s.n s.c] w fun e w' => Ans (fun r => r = true ↔ FitI M F v s.n g) w e w' := by
 obtain ⟨W, hW, LW, VI⟩ := fitStart M F v w
 obtain ⟨v0, v1, v2, v3, v4, v5, v6⟩ := VI.head
 rw [hop] at v0
 have IS := hs.on LW.out
 have HOP := hid hop
 clear VI hop
 obtain ⟨b0, o0, hy0, hc0⟩ := ix0 IS (by omega)
 obtain ⟨b1, o1, hy1, hc1⟩ := ix1 IS (by omega)
 have HN := hid hn
 clear hs hn IS
 go_enter Tryz.func112, Tryz.ntmps112
 go_wp2
 all_goals go_ret
 all_goals refine ⟨_, rfl, ?_, LW.out⟩
 all_goals have hop := HOP.out
 all_goals clear LW HN HOP
 all_goals go_light
 all_goals (unfold FitI; rw [hop]; simp [*] <;> simp_all)

set_option maxRecDepth 10000 in
set_option maxHeartbeats 4000000 in
theorem fit_28 (M : MV) (F : FV) (v : IV) (s : Sl) (g : Nat → Int) (w : World) (hop : v.op = 28) (hs : Ints w s g) (hn : 1 ≤ s.n) : Calls Tryz.prog 112 #[M.val, F.val, v.val, .slice s.a s.n s.c] w fun e w' => Ans (fun r => r = true ↔ FitI M F v s.n g) w e w' := by
 obtain ⟨W, hW, LW, VI⟩ := fitStart M F v w
 obtain ⟨v0, v1, v2, v3, v4, v5, v6⟩ := VI.head
 rw [hop] at v0
 have IS := hs.on LW.out
 have HOP := hid hop
 clear VI hop
 obtain ⟨b0, o0, hy0, hc0⟩ := ix0 IS (by omega)
 have HN := hid hn
 clear hs hn IS
 go_enter Tryz.func112, Tryz.ntmps112
 go_wp2
 all_goals go_ret
 all_goals refine ⟨_, rfl, ?_, LW.out⟩
 all_goals have hop := HOP.out
 all_goals clear LW HN HOP
 all_goals go_light
 all_goals (unfold FitI; rw [hop]; simp [*] <;> simp_all)

end Go.Proofs.YtolipafcoolpgaaGreat.Chk
