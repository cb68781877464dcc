/-
  Types that fit, by the document: plnref3.fits, part 1.
-/
import Derived.Test.YtolipafcoolpgaaGreatJ5
namespace Go.Proofs.YtolipafcoolpgaaGreat.Chk
open Go.RowKit View Rd Num Opn Copy Go.Proofs.YtolipafcoolpgaaGreat.Mod

set_option linter.unusedVariables false

set_option maxRecDepth 10000 in
set_option maxHeartbeats 4000000 in
theorem fit_2 (M : MV) (F : FV) (v : IV) (s : Sl) (g : Nat → Int) (w : World) (hop : v.op = 2) (hs : Ints w s g) (hn : 0 ≤ s.n) : Calls Tryz.prog 112 #[M.val, F.val, v.val, .slice s.a s.n s.c] w fun e w' => Ans (fun r => r = true ↔ FitI M F v s.n g) w e w' := by
 obtain ⟨W, hW, LW, VI⟩ := fitStart M F v w
 obtain ⟨v0, v1, v2, v3, v4, v5, v6⟩ := VI.head
 rw [hop] at v0
 have IS := hs.on LW.out
 have HOP := hid hop
 clear VI hop
 have HN := hid hn
 clear hs hn IS
 go_enter Tryz.func112, Tryz.ntmps112
 go_wp2
 all_goals go_ret
 all_goals refine ⟨_, rfl, ?_, LW.out⟩
 all_goals have hop := HOP.out
 all_goals clear LW HN HOP
 all_goals go_light
 all_goals (unfold FitI; rw [hop]; simp [*] <;> simp_all)

set_option maxRecDepth 10000 in
set_option maxHeartbeats 4000000 in
theorem fit_6 (M : MV) (F : FV) (v : IV) (s : Sl) (g : Nat → Int) (w : World) (hop : v.op = 6) (hs : Ints w s g) (hn : 2 ≤ s.n) : Calls Tryz.prog 112 #[M.val, F.val, v.val, .slice s.a s.n s.c] w fun e w' => Ans (fun r => r = true ↔ FitI M F v s.n g) w e w' := by
 obtain ⟨W, hW, LW, VI⟩ := fitStart M F v w
 obtain ⟨v0, v1, v2, v3, v4, v5, v6⟩ := VI.head
 rw [hop] at v0
 have IS := hs.on LW.out
 have HOP := hid hop
 clear VI hop
 obtain ⟨b0, o0, hy0, hc0⟩ := ix0 IS (by omega)
 obtain ⟨b1, o1, hy1, hc1⟩ := ix1 IS (by omega)
 have HN := hid hn
 clear hs hn IS
 go_enter Tryz.func112, Tryz.ntmps112
 go_wp2
 all_goals go_ret
 all_goals refine ⟨_, rfl, ?_, LW.out⟩
 all_goals have hop := HOP.out
 all_goals clear LW HN HOP
 all_goals go_light
 all_goals (unfold FitI; rw [hop]; simp [*] <;> simp_all)

set_option maxRecDepth 10000 in
set_option maxHeartbeats 4000000 in
theorem fit_10 (M : MV) (F : FV) (v : IV) (s : Sl) (g : Nat → Int) (w : World) (hop : v.op = 10) (hs : Ints w s g) (hn : 2 ≤ s.n) : Calls Tryz.prog 112 #[M.val, F.val, v.val, .slice s.a s.n s.c] w fun e w' => Ans (fun r => r = true ↔ FitI M F v s.n g) w e w' := by
 obtain ⟨W, hW, LW, VI⟩ := fitStart M F v w
 obtain ⟨v0, v1, v2, v3, v4, v5, v6⟩ := VI.head
 rw [hop] at v0
 have IS := hs.on LW.out
 have HOP := hid hop
 clear VI hop
 obtain ⟨b0, o0, hy0, hc0⟩ := ix0 IS (by omega)
 obtain ⟨b1, o1, hy1, hc1⟩ := ix1 IS (by omega)
 have HN := hid hn
 clear hs hn IS
 go_enter Tryz.func112, Tryz.ntmps112
 go_wp2
 all_goals go_ret
 all_goals refine ⟨_, rfl, ?_, LW.out⟩
 all_goals have hop := HOP.out
 all_goals clear LW HN HOP
 all_goals go_light
 all_goals (unfold FitI; rw [hop]; simp [*] <;> simp_all)

set_option maxRecDepth 10000 in
set_option maxHeartbeats 4000000 in
theorem fit_14 (M : MV) (F : FV) (v : IV) (s : Sl) (g : Nat → Int) (w : World) (hop : v.op = 14) (hs : Ints w s g) (hn : 2 ≤ s.n) : Calls Tryz.prog 112 #[M.val, F.val, v.val, .slice s.a s.n s.c] w fun e w' => Ans (fun r => r = true ↔ FitI M F v s.n g) w e w' := by
 obtain ⟨W, hW, LW, VI⟩ := fitStart M F v w
 obtain ⟨v0, v1, v2, v3, v4, v5, v6⟩ := VI.head
 rw [hop] at v0
 have IS := hs.on LW.out
 have HOP := hid hop
 clear VI hop
 obtain ⟨b0, o0, hy0, hc0⟩ := ix0 IS (by omega)
 obtain ⟨b1, o1, hy1, hc1⟩ := ix1 IS (by omega)
 have HN := hid hn
 clear hs hn IS
 go_enter Tryz.func112, Tryz.ntmps112
 go_wp2
 all_goals go_ret
 all_goals refine ⟨_, rfl, ?_, LW.out⟩
 all_goals have hop := HOP.out
 all_goals clear LW HN HOP
 all_goals go_light
 all_goals (unfold FitI; rw [hop]; simp [*] <;> simp_all)

set_option maxRecDepth 10000 in
set_option maxHeartbeats 4000000 in
theorem fit_19 (M : MV) (F : FV) (v : IV) (s : Sl) (g : Nat → Int) (w : World) (hop : v.op = 19) (hs : Ints w s g) (hn : 2 ≤ s.n) : Calls Tryz.prog 112 #[M.val, F.val, v.val, .slice s.a s.n s.c] w fun e w' => Ans (fun r => r = true ↔ FitI M F v s.n g) w e w' := by
 obtain ⟨W, hW, LW, VI⟩ := fitStart M F v w
 obtain ⟨v0, v1, v2, v3, v4, v5, v6⟩ := VI.head
 rw [hop] at v0
 have IS := hs.on LW.out
 have HOP := hid hop
 clear VI hop
 obtain ⟨b0, o0, hy0, hc0⟩ := ix0 IS (by omega)
 obtain ⟨b1, o1, hy1, hc1⟩ := ix1 IS (by omega)
 have HN := hid hn
 clear hs hn IS
 go_enter Tryz.func112, Tryz.ntmps112
 go_wp2
 all_goals go_ret
 all_goals refine ⟨_, rfl, ?_, LW.out⟩
 all_goals have hop := HOP.out
 all_goals clear LW HN HOP
 all_goals go_light
 all_goals (unfold FitI; rw [hop]; simp [*] <;> simp_all)

set_option maxRecDepth 10000 in
set_option maxHeartbeats 4000000 in
theorem fit_25 (M : MV) (F : FV) (v : IV) (s : Sl) (g : Nat → Int) (w : World) (hop : v.op = 25) (hs : Ints w s g) (hn : 1 ≤ s.n) : Calls Tryz.prog 112 #[M.val, F.val, v.val, .slice s.a s.n s.c] w fun e w' => Ans (fun r => r = true ↔ FitI M F v s.n g) w e w' := by
 obtain ⟨W, hW, LW, VI⟩ := fitStart M F v w
 obtain ⟨v0, v1, v2, v3, v4, v5, v6⟩ := VI.head
 rw [hop] at v0
 have IS := hs.on LW.out
 have HOP := hid hop
 clear VI hop
 obtain ⟨b0, o0, hy0, hc0⟩ := ix0 IS (by omega)
 have HN := hid hn
 clear hs hn IS
 go_enter Tryz.func112, Tryz.ntmps112
 go_wp2
 all_goals go_ret
 all_goals refine ⟨_, rfl, ?_, LW.out⟩
 all_goals have hop := HOP.out
 all_goals clear LW HN HOP
 all_goals go_light
 all_goals (unfold FitI; rw [hop]; simp [*] <;> simp_all)

end Go.Proofs.YtolipafcoolpgaaGreat.Chk
