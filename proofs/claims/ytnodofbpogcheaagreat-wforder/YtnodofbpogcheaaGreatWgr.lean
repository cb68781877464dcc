/-
  WfOrder, walked.
-/
import Derived.Test.YtnodofbpogcheaaGreatJ22
import Derived.Test.YtnodofbpogcheaaGreatJ19
namespace Go.Proofs.YtnodofbpogcheaaGreat.Wf
open Go.RowKit View Rd Num Opn Copy Srt Go.Proofs.YtnodofbpogcheaaGreat.Own Go.Proofs.YtnodofbpogcheaaGreat.Mod Go.Proofs.YtnodofbpogcheaaGreat.Chk Go.Proofs.YtnodofbpogcheaaGreat.Flo Go.Proofs.YtnodofbpogcheaaGreat.CpM
set_option linter.unusedVariables false

theorem jng_fits {M : MV} (h : FitsM M) : ∀ i, i < M.fns.n → Jng (M.F i) := fun i hi j hj k hk t ht => (h.fns i hi).into j hj k hk t ht

theorem red8 (a : Int) {n : Nat} (hn : 0 < n) : ∃ x : Nat, x < n ∧ ∃ a0 : Nat, bits .and .i64 a 255 = (a0 : Int) ∧ (a0 : Int).tmod (n : Int) = (x : Int) := by
 refine ⟨(a % 256).toNat % n, Nat.mod_lt _ hn, (a % 256).toNat, ?_, ?_⟩
 ·rw [Low.low8]; omega
 ·rw [Int.tmod_eq_emod_of_nonneg (by omega)]
  omega

theorem conv_one (w : World) (x : Nat) (hx : x = 48 ∨ x = 49) : (convert 55 9 (.slice (some ⟨w.heap.size, 0, none⟩) 1 1)).run Tryz.prog (w.alloc (.cells #[.int .u8 (x : Int)] 5)) = .ok (.string ⟨#[UInt8.ofNat x]⟩) (w.alloc (.cells #[.int .u8 (x : Int)] 5)) := by
 have h := Lx.run_conv (w.alloc (.cells #[.int .u8 (x : Int)] 5)) (some ⟨w.heap.size, 0, none⟩) 1 1 [(x : Int)] rfl (fun _ => ⟨w.heap.size, 0, rfl, fun i hi => by
  obtain rfl : i = 0 := by omega
  simp⟩)
 rw [h]
 rcases hx with rfl | rfl <;> rfl

set_option maxRecDepth 20000 in
set_option maxHeartbeats 8000000 in
theorem wfOrder_any (M : MV) (one two : Int) (w : World) (hM : InM w M) (hf : FitsM M) : Calls Tryz.prog 4 #[M.val, .int .i64 one, .int .i64 two] w fun e w' => e = .returned (.bool true) ∧ Below w.heap.size w w' := by
 obtain ⟨W, hW⟩ : ∃ W, w.alloc (.cells (mcells M) 27) = W := ⟨_, rfl⟩
 have LW := hid (show Below w.heap.size w W by rw [← hW]; exact new (same w) _)
 have MC := hid (show MCell M W w.heap.size by rw [← hW]; exact mcell_alloc M w _ rfl)
 have HM := hid (hM.on LW.out)
 have HJ := hid (jng_fits hf)
 obtain ⟨x, hx, a0, hk1, hk2⟩ := red8 one (show 0 < 4 by decide)
 obtain ⟨y, hy, b0, hl1, hl2⟩ := red8 two (show 0 < 4 by decide)
 have hk3 : (a0 : Int) % 4 = (x : Int) := by rw [← hk2, Int.tmod_eq_emod_of_nonneg (by omega)]; rfl
 have hl3 : (b0 : Int) % 4 = (y : Int) := by rw [← hl2, Int.tmod_eq_emod_of_nonneg (by omega)]; rfl
 clear hM hf
 go_enter Tryz.func4, Tryz.ntmps4
 go_wp2_with fail
 clear hW
 refine (first_any W).mono ?_
 rintro e w1 ⟨rfl, hb⟩
 have B1 := hid hb
 have FIN := hid (fun (wx : World) (h : Below W.heap.size W wx) => View.more LW.out h)
 obtain ⟨m0, m1, m2, m3⟩ := MC.out.on hb
 clear hb
 go_wp2_with fail
 clear m0 m1 m2 m3
 refine (fit_any M w1 (HM.out.on B1.out)).mono ?_
 rintro e w2 ⟨r, rfl, hr, hb⟩
 have B2 := hid (View.more B1.out hb)
 have HR := hid hr
 clear hb hr
 cases r with
 | false =>
  go_wp2_with (go_at_call 8; refine (first_any _).mono ?_; rintro e w3 ⟨rfl, hb⟩; have B3 := hid (View.more B2.out hb); clear hb)
  go_ret
  exact ⟨rfl, FIN.out _ B3.out⟩
 | true =>
 have HS := hid (HR.out rfl).1
 have HF := hid (HR.out rfl).2
 clear HR
 obtain ⟨m0, m1, m2, m3⟩ := MC.out.on B2.out
 by_cases h10 : 10 < M.glo.n
 ·have t1 : decide ((10 : Int) < M.glo.n) = true := by simp; omega
  clear h10
  go_wp2_with (go_at_call 8; refine (first_any _).mono ?_; rintro e w3 ⟨rfl, hb⟩; have B3 := hid (View.more B2.out hb); clear hb)
  go_ret
  exact ⟨rfl, FIN.out _ B3.out⟩
 have t1 : decide ((10 : Int) < M.glo.n) = false := by simp; omega
 by_cases h4 : 4 < M.tab.n
 ·have t2 : decide ((4 : Int) < M.tab.n) = true := by simp; omega
  clear h4 h10
  go_wp2_with (go_at_call 8; refine (first_any _).mono ?_; rintro e w3 ⟨rfl, hb⟩; have B3 := hid (View.more B2.out hb); clear hb)
  go_ret
  exact ⟨rfl, FIN.out _ B3.out⟩
 have t2 : decide ((4 : Int) < M.tab.n) = false := by simp; omega
 have G10 := hid (show M.glo.n ≤ 10 by omega)
 have G4 := hid (show M.tab.n ≤ 4 by omega)
 clear h10 h4
 go_wp2_with fail
 clear m0 m1 m2 m3
 refine (named_any M ⟨#[122, 122]⟩ w2 (HM.out.on B2.out) HS.out).mono ?_
 rintro e w3 ⟨r, rfl, _, hb⟩
 have B3 := hid (View.more B2.out hb)
 clear hb
 cases r with
 | true =>
  go_wp2_with (go_at_call 8; refine (first_any _).mono ?_; rintro e w4 ⟨rfl, hb⟩; have B4 := hid (View.more B3.out hb); clear hb)
  go_ret
  exact ⟨rfl, FIN.out _ B4.out⟩
 | false =>
 obtain ⟨m0, m1, m2, m3⟩ := MC.out.on B3.out
 go_wp2_with fail
 clear m0 m1 m2 m3
 refine (named_any M ⟨#[121, 121]⟩ w3 (HM.out.on B3.out) HS.out).mono ?_
 rintro e w4 ⟨r, rfl, _, hb⟩
 have B4 := hid (View.more B3.out hb)
 clear hb
 cases r with
 | true =>
  go_wp2_with (go_at_call 8; refine (first_any _).mono ?_; rintro e w5 ⟨rfl, hb⟩; have B5 := hid (View.more B4.out hb); clear hb)
  go_ret
  exact ⟨rfl, FIN.out _ B5.out⟩
 | false =>
 obtain ⟨m0, m1, m2, m3⟩ := MC.out.on B4.out
 go_wp2_with fail
 clear m0 m1 m2 m3
 refine (named_any M ⟨#[120, 120, 48]⟩ w4 (HM.out.on B4.out) HS.out).mono ?_
 rintro e w5 ⟨r, rfl, hn0, hb⟩
 have B5 := hid (View.more B4.out hb)
 clear hb
 cases r with
 | true =>
  clear hn0
  go_wp2_with (go_at_call 8; refine (first_any _).mono ?_; rintro e w6 ⟨rfl, hb⟩; have B6 := hid (View.more B5.out hb); clear hb)
  go_ret
  exact ⟨rfl, FIN.out _ B6.out⟩
 | false =>
 have N0 := hid (show NotN M (nmX 0) from hn0 rfl)
 clear hn0
 obtain ⟨m0, m1, m2, m3⟩ := MC.out.on B5.out
 go_wp2_with fail
 clear m0 m1 m2 m3
 refine (named_any M ⟨#[120, 120, 49]⟩ w5 (HM.out.on B5.out) HS.out).mono ?_
 rintro e w6 ⟨r, rfl, hn1, hb⟩
 have B6 := hid (View.more B5.out hb)
 clear hb
 cases r with
 | true =>
  clear hn1
  go_wp2_with (go_at_call 8; refine (first_any _).mono ?_; rintro e w7 ⟨rfl, hb⟩; have B7 := hid (View.more B6.out hb); clear hb)
  go_ret
  exact ⟨rfl, FIN.out _ B7.out⟩
 | false =>
 have N1 := hid (show NotN M (nmX 1) from hn1 rfl)
 clear hn1
 obtain ⟨m0, m1, m2, m3⟩ := MC.out.on B6.out
 go_wp2_with fail
 clear m0 m1 m2 m3
 refine (copy_both M w6 (HM.out.on B6.out) HS.out).mono ?_
 rintro e w7 ⟨_, s1, s2, s3, s4, X1, X2, X3, X4, t1, t2, t3, t4, rfl, gr, hb7, hx7⟩
 have GR := hid gr
 have B7 := hid hb7
 have X7 := hid hx7
 clear gr hb7 hx7
 go_wp2_with fail
 obtain ⟨V, hV⟩ : ∃ V, w7.heap.size = V := ⟨_, rfl⟩
 rw [hV]
 obtain ⟨W8, hW8⟩ : ∃ W8, w7.alloc (.cells #[.slice s1.a s1.n s1.c, .slice s2.a s2.n s2.c, .slice s3.a s3.n s3.c, .slice s4.a s4.n s4.c] 27) = W8 := ⟨_, rfl⟩
 rw [hW8]
 have OS := hid (show Ord w6 V W8 { M with ext := s1, glo := s2, tab := s3, fns := s4 } X1 X2 X3 X4 t1 t2 t3 t4 from by
  subst hV hW8
  have g1 := GR.out.g1; have g2 := GR.out.g2; have g3 := GR.out.g3; have g4 := GR.out.g4
  exact Ord.start GR.out ⟨own_len g1.own, own_len g2.own, own_len g3.own, own_len g4.own⟩ (new B7.out _) (new (same _) _) (Nat.le_refl _) (Nat.le_of_lt X7.out) (by simp) (fun i => World.frozen?_alloc_new _ _ _ i) _ rfl ⟨by simp, by simp, by simp, by simp⟩)
 have AS := hid (show Added M { M with ext := s1, glo := s2, tab := s3, fns := s4 } [] from by
  have g1 := own_len GR.out.g1.own; have g2 := own_len GR.out.g2.own; have g3 := own_len GR.out.g3.own; have g4 := own_len GR.out.g4.own
  exact Added.start ⟨⟨by show _ ≤ s1.n; omega, fun i hi => refl_eqE _ _⟩, ⟨by show _ ≤ s2.n; omega, fun i hi => refl_eqG _ _⟩, ⟨by show _ ≤ s3.n; omega, fun i hi => refl_eqG _ _⟩, ⟨g4, fun i hi => eqF_refl _⟩⟩ g1 g2 g3)
 clear hW8 hV
 rw [hk3, hl3]
 have HX := hid hx
 have HY := hid hy
 go_loopw [8] (fun iv wr => ∃ j : Nat, j ≤ 2 ∧ iv = .int .i64 j ∧ ∃ (O : MV) (X1 X2 X3 X4 : Nat) (t1 t2 t3 : Nat → Sl) (t4 : Nat → FV) (L : List Nat), Ord w6 V wr O X1 X2 X3 X4 t1 t2 t3 t4 ∧ Added M O L ∧ L = [x, y].take j) (fun iv _ => 2 - (intOf iv).toNat)
 case atStart => exact ⟨0, by decide, rfl, _, _, _, _, _, _, _, _, _, _, OS.out, AS.out, rfl⟩
 case round =>
  clear OS AS
  obtain ⟨j, hj, rfl, O, X1, X2, X3, X4, t1, t2, t3, t4, L, ho, ha, hL⟩ := hrel
  have HO := hid ho
  have HA := hid ha
  have HL := hid hL
  clear ho ha hL
  have hj3 : j = 0 ∨ j = 1 ∨ j = 2 := by omega
  rcases hj3 with rfl | rfl | rfl
  ·have hv4 : x = 0 ∨ x = 1 ∨ x = 2 ∨ x = 3 := by have := HX.out; omega
   have lj : L.length = 0 := by rw [HL.out]; rfl
   rcases hv4 with hz | hz | hz | hz
   ·have LL := hid (show L ++ [0] = [x, y].take 1 by rw [HL.out]; simp [hz])
    have e0 : ((x : Int) == 0) = true := by rw [hz]; rfl
    have e1 : ((x : Int) == 1) = false := by rw [hz]; rfl
    have e2 : ((x : Int) == 2) = false := by rw [hz]; rfl
    clear hz
    have hor := HO.out
    have hcf : wr.cell? ⟨V, 1, none⟩ = some (.slice O.glo.a O.glo.n O.glo.c) := hor.box.c1
    have zlim : O.glo.n ≤ 1000 := by have := HA.out.ng; have := HS.out.glo; have := List.count_le_length (a := 0) (l := L); have := List.count_le_length (a := 1) (l := L); have := List.count_le_length (a := 2) (l := L); have := List.count_le_length (a := 3) (l := L); omega
    have bw : Below wr.heap.size wr wr := same _
    have ia : Ints wr ⟨none, 0, 0⟩ (fun _ => 0) := litN _ _
    have ma : Mine wr.heap.size wr.heap.size wr ⟨none, 0, 0⟩ := fun h => absurd h (by simp)
    have hY := hor.y.2.1
    obtain ⟨v5, w4, hrun, hown4, hgr4, hat4⟩ := app_gen (w2 := wr) underGl infoGl rfl (by decide) (by decide) (owns_on bw hor.g2.own) zlim (Nat.le_trans hY bw.size) #[.string ⟨#[122, 122]⟩, .slice none 0 0] rfl (by intro u hu; simp at hu; rcases hu with rfl | rfl <;> rfl) 23
    obtain ⟨sv, rfl⟩ := owns_slv hown4
    have hn5 : sv.n = O.glo.n + 1 := own_len hown4
    have vne : ∀ b, Bl O.glo.n (slv O.glo) FpS t2 b → b ≠ V := hor.v2
    have hc2 : (World.alloc wr (.cells #[.string ⟨#[122, 122]⟩, .slice none 0 0] 47)).cell? ⟨V, 1, none⟩ = some (.slice O.glo.a O.glo.n O.glo.c) := cell_on (bw.alloc bw.size _) hcf
    have NV : some V ≠ (slv O.glo).ownBlock := fun e => vne V (.inl e.symm) rfl
    have hc4 : w4.cell? ⟨V, 1, none⟩ = some (.slice O.glo.a O.glo.n O.glo.c) := by rw [World.cell?_of_block (w := World.alloc wr _) (hgr4.block V (World.block_lt_of_cell? _ _ hc2) NV)]; exact hc2
    have fz4 : w4.frozen? ⟨V, 1, none⟩ = false := by rw [World.frozen?_of_block (w := World.alloc wr _) (hgr4.block V (World.block_lt_of_cell? _ _ hc2) NV), (bw.alloc bw.size _).frozen hor.vlt]; exact hor.fz 1
    have ON := hid (hor.glo ⟨#[122, 122]⟩ ⟨none, 0, 0⟩ sv (fun _ => 0) bw ia ma hn5 hown4 hgr4 hat4)
    have AN := hid (HA.out.glo1 sv ⟨none, 0, 0⟩ ⟨#[122, 122]⟩ (fun _ => 0) hn5 0 (.inl ⟨rfl, rfl⟩) (by decide))
    clear hor hown4 hgr4 hat4 bw ia ma hY vne zlim hn5
    go_wp2_with (at_builtin; refine wpList_app (.tmp 77) (.tmp 79) (by rfl) (by rfl) (by rfl) (by rfl) (by rfl) hrun ?_)
    go_round
    case rel => first | exact ⟨1, by decide, by go_num, _, _, _, _, _, _, _, _, _, _, ON.out, AN.out, LL.out⟩ | ((repeat apply Exists.intro); exact ⟨⟨1, by decide, by go_num, _, _, _, _, _, _, _, _, _, _, ON.out, AN.out, LL.out⟩, rfl⟩)
    case measure => simp [intOf]
   ·have LL := hid (show L ++ [1] = [x, y].take 1 by rw [HL.out]; simp [hz])
    have e0 : ((x : Int) == 0) = false := by rw [hz]; rfl
    have e1 : ((x : Int) == 1) = true := by rw [hz]; rfl
    have e2 : ((x : Int) == 2) = false := by rw [hz]; rfl
    clear hz
    have hor := HO.out
    have hcf : wr.cell? ⟨V, 0, none⟩ = some (.slice O.ext.a O.ext.n O.ext.c) := hor.box.c0
    have zlim : O.ext.n ≤ 1000 := by have := HA.out.ne; have := HS.out.ext; have := List.count_le_length (a := 0) (l := L); have := List.count_le_length (a := 1) (l := L); have := List.count_le_length (a := 2) (l := L); have := List.count_le_length (a := 3) (l := L); omega
    have bw : Below wr.heap.size wr wr := same _
    have ia : Ints wr ⟨none, 0, 0⟩ (fun _ => 0) := litN _ _
    have ma : Mine wr.heap.size wr.heap.size wr ⟨none, 0, 0⟩ := fun h => absurd h (by simp)
    have hY := hor.y.1
    obtain ⟨v5, w4, hrun, hown4, hgr4, hat4⟩ := app_gen (w2 := wr) underEx infoEx rfl (by decide) (by decide) (owns_on bw hor.g1.own) zlim (Nat.le_trans hY bw.size) #[.string ⟨#[121, 121]⟩, .slice none 0 0, .int .i64 3] rfl (by intro u hu; simp at hu; rcases hu with rfl | rfl | rfl <;> rfl) 22
    obtain ⟨sv, rfl⟩ := owns_slv hown4
    have hn5 : sv.n = O.ext.n + 1 := own_len hown4
    have vne : ∀ b, Bl O.ext.n (slv O.ext) FpS t1 b → b ≠ V := hor.v1
    have hc2 : (World.alloc wr (.cells #[.string ⟨#[121, 121]⟩, .slice none 0 0, .int .i64 3] 54)).cell? ⟨V, 0, none⟩ = some (.slice O.ext.a O.ext.n O.ext.c) := cell_on (bw.alloc bw.size _) hcf
    have NV : some V ≠ (slv O.ext).ownBlock := fun e => vne V (.inl e.symm) rfl
    have hc4 : w4.cell? ⟨V, 0, none⟩ = some (.slice O.ext.a O.ext.n O.ext.c) := by rw [World.cell?_of_block (w := World.alloc wr _) (hgr4.block V (World.block_lt_of_cell? _ _ hc2) NV)]; exact hc2
    have fz4 : w4.frozen? ⟨V, 0, none⟩ = false := by rw [World.frozen?_of_block (w := World.alloc wr _) (hgr4.block V (World.block_lt_of_cell? _ _ hc2) NV), (bw.alloc bw.size _).frozen hor.vlt]; exact hor.fz 0
    have ON := hid (hor.ext ⟨#[121, 121]⟩ 3 ⟨none, 0, 0⟩ sv (fun _ => 0) bw ia ma hn5 hown4 hgr4 hat4)
    have AN := hid (HA.out.ext2 sv ⟨none, 0, 0⟩ ⟨#[121, 121]⟩ (fun _ => 0) hn5 rfl (by decide))
    clear hor hown4 hgr4 hat4 bw ia ma hY vne zlim hn5
    go_wp2_with (at_builtin; refine wpList_app (.tmp 85) (.tmp 87) (by rfl) (by rfl) (by rfl) (by rfl) (by rfl) hrun ?_)
    go_round
    case rel => first | exact ⟨1, by decide, by go_num, _, _, _, _, _, _, _, _, _, _, ON.out, AN.out, LL.out⟩ | ((repeat apply Exists.intro); exact ⟨⟨1, by decide, by go_num, _, _, _, _, _, _, _, _, _, _, ON.out, AN.out, LL.out⟩, rfl⟩)
    case measure => simp [intOf]
   ·have LL := hid (show L ++ [2] = [x, y].take 1 by rw [HL.out]; simp [hz])
    have e0 : ((x : Int) == 0) = false := by rw [hz]; rfl
    have e1 : ((x : Int) == 1) = false := by rw [hz]; rfl
    have e2 : ((x : Int) == 2) = true := by rw [hz]; rfl
    clear hz
    have hor := HO.out
    have hcf : wr.cell? ⟨V, 1, none⟩ = some (.slice O.glo.a O.glo.n O.glo.c) := hor.box.c1
    have zlim : O.glo.n ≤ 1000 := by have := HA.out.ng; have := HS.out.glo; have := List.count_le_length (a := 0) (l := L); have := List.count_le_length (a := 1) (l := L); have := List.count_le_length (a := 2) (l := L); have := List.count_le_length (a := 3) (l := L); omega
    obtain ⟨w2, hw2⟩ : ∃ w2, World.alloc wr (.cells #[.int .i64 1] 2) = w2 := ⟨_, rfl⟩
    have bw0 : Below wr.heap.size wr w2 := by rw [← hw2]; exact new (same _) _
    have zw : w2.heap.size = wr.heap.size + 1 := by rw [← hw2]; simp
    have bw : Below wr.heap.size wr w2 := bw0
    have ia : Ints w2 ⟨some ⟨wr.heap.size, 0, none⟩, 1, 1⟩ (fun _ => 1) := by rw [← hw2]; exact ints_new wr 1 _
    have ma : Mine wr.heap.size w2.heap.size w2 ⟨some ⟨wr.heap.size, 0, none⟩, 1, 1⟩ := fun _ => ⟨wr.heap.size, rfl, Nat.le_refl _, by omega, fun i => by rw [← hw2]; exact World.frozen?_alloc_new _ _ _ i⟩
    have hY := hor.y.2.1
    obtain ⟨v5, w4, hrun, hown4, hgr4, hat4⟩ := app_gen (w2 := w2) underGl infoGl rfl (by decide) (by decide) (owns_on bw hor.g2.own) zlim (Nat.le_trans hY bw.size) #[.string ⟨#[63]⟩, .slice (some ⟨wr.heap.size, 0, none⟩) 1 1] rfl (by intro u hu; simp at hu; rcases hu with rfl | rfl <;> rfl) 23
    obtain ⟨sv, rfl⟩ := owns_slv hown4
    have hn5 : sv.n = O.glo.n + 1 := own_len hown4
    have vne : ∀ b, Bl O.glo.n (slv O.glo) FpS t2 b → b ≠ V := hor.v2
    have hc2 : (World.alloc w2 (.cells #[.string ⟨#[63]⟩, .slice (some ⟨wr.heap.size, 0, none⟩) 1 1] 47)).cell? ⟨V, 1, none⟩ = some (.slice O.glo.a O.glo.n O.glo.c) := cell_on (bw.alloc bw.size _) hcf
    have NV : some V ≠ (slv O.glo).ownBlock := fun e => vne V (.inl e.symm) rfl
    have hc4 : w4.cell? ⟨V, 1, none⟩ = some (.slice O.glo.a O.glo.n O.glo.c) := by rw [World.cell?_of_block (w := World.alloc w2 _) (hgr4.block V (World.block_lt_of_cell? _ _ hc2) NV)]; exact hc2
    have fz4 : w4.frozen? ⟨V, 1, none⟩ = false := by rw [World.frozen?_of_block (w := World.alloc w2 _) (hgr4.block V (World.block_lt_of_cell? _ _ hc2) NV), (bw.alloc bw.size _).frozen hor.vlt]; exact hor.fz 1
    have ON := hid (hor.glo ⟨#[63]⟩ ⟨some ⟨wr.heap.size, 0, none⟩, 1, 1⟩ sv (fun _ => 1) bw ia ma hn5 hown4 hgr4 hat4)
    have AN := hid (HA.out.glo1 sv ⟨some ⟨wr.heap.size, 0, none⟩, 1, 1⟩ ⟨#[63]⟩ (fun _ => 1) hn5 2 (.inr ⟨rfl, rfl, rfl⟩) (by decide))
    clear hor hown4 hgr4 hat4 bw ia ma hY vne zlim hn5
    clear bw0 zw
    go_wp2_with (at_builtin; refine wpList_app (.tmp 93) (.tmp 96) (by rfl) (by rfl) (by rfl) (by rfl) (by rfl) hrun ?_)
    go_round
    case rel => first | exact ⟨1, by decide, by go_num, _, _, _, _, _, _, _, _, _, _, ON.out, AN.out, LL.out⟩ | ((repeat apply Exists.intro); exact ⟨⟨1, by decide, by go_num, _, _, _, _, _, _, _, _, _, _, ON.out, AN.out, LL.out⟩, rfl⟩)
    case measure => simp [intOf]
   ·have LL := hid (show L ++ [3] = [x, y].take 1 by rw [HL.out]; simp [hz])
    have e0 : ((x : Int) == 0) = false := by rw [hz]; rfl
    have e1 : ((x : Int) == 1) = false := by rw [hz]; rfl
    have e2 : ((x : Int) == 2) = false := by rw [hz]; rfl
    clear hz
    have hor := HO.out
    have hcf : wr.cell? ⟨V, 2, none⟩ = some (.slice O.tab.a O.tab.n O.tab.c) := hor.box.c2
    have zlim : O.tab.n ≤ 1000 := by have := HA.out.nt; have := HS.out.tab; have := List.count_le_length (a := 0) (l := L); have := List.count_le_length (a := 1) (l := L); have := List.count_le_length (a := 2) (l := L); have := List.count_le_length (a := 3) (l := L); omega
    obtain ⟨wb, hwb⟩ : ∃ wb, World.alloc wr (.cells #[.int .u8 48] 5) = wb := ⟨_, rfl⟩
    have bb : Below wr.heap.size wr wb := by rw [← hwb]; exact new (same _) _
    have zb : wb.heap.size = wr.heap.size + 1 := by rw [← hwb]; simp
    have hcv : (convert 55 9 (.slice (some ⟨wr.heap.size, 0, none⟩) 1 1)).run Tryz.prog wb = .ok (.string ⟨#[48]⟩) wb := by rw [← hwb]; exact conv_one wr 48 (by decide)
    obtain ⟨w2, hw2⟩ : ∃ w2, World.alloc wb (.cells #[.int .i64 (-2)] 3) = w2 := ⟨_, rfl⟩
    have bw0 : Below wb.heap.size wb w2 := by rw [← hw2]; exact new (same _) _
    have zw : w2.heap.size = wb.heap.size + 1 := by rw [← hw2]; simp
    have bw : Below wr.heap.size wr w2 := View.more bb bw0
    have ia : Ints w2 ⟨some ⟨wb.heap.size, 0, none⟩, 1, 1⟩ (fun _ => (-2)) := by rw [← hw2]; exact ints_new wb (-2) _
    have ma : Mine wr.heap.size w2.heap.size w2 ⟨some ⟨wb.heap.size, 0, none⟩, 1, 1⟩ := fun _ => ⟨wb.heap.size, rfl, by omega, by omega, fun i => by rw [← hw2]; exact World.frozen?_alloc_new _ _ _ i⟩
    have hY := hor.y.2.2.1
    obtain ⟨v5, w4, hrun, hown4, hgr4, hat4⟩ := app_gen (w2 := w2) underTb infoTb rfl (by decide) (by decide) (owns_on bw hor.g3.own) zlim (Nat.le_trans hY bw.size) #[.string ⟨#[120, 120, 48]⟩, .slice (some ⟨wb.heap.size, 0, none⟩) 1 1] rfl (by intro u hu; simp at hu; rcases hu with rfl | rfl <;> rfl) 24
    obtain ⟨sv, rfl⟩ := owns_slv hown4
    have hn5 : sv.n = O.tab.n + 1 := own_len hown4
    have vne : ∀ b, Bl O.tab.n (slv O.tab) FpS t3 b → b ≠ V := hor.v3
    have hc2 : (World.alloc w2 (.cells #[.string ⟨#[120, 120, 48]⟩, .slice (some ⟨wb.heap.size, 0, none⟩) 1 1] 49)).cell? ⟨V, 2, none⟩ = some (.slice O.tab.a O.tab.n O.tab.c) := cell_on (bw.alloc bw.size _) hcf
    have NV : some V ≠ (slv O.tab).ownBlock := fun e => vne V (.inl e.symm) rfl
    have hc4 : w4.cell? ⟨V, 2, none⟩ = some (.slice O.tab.a O.tab.n O.tab.c) := by rw [World.cell?_of_block (w := World.alloc w2 _) (hgr4.block V (World.block_lt_of_cell? _ _ hc2) NV)]; exact hc2
    have fz4 : w4.frozen? ⟨V, 2, none⟩ = false := by rw [World.frozen?_of_block (w := World.alloc w2 _) (hgr4.block V (World.block_lt_of_cell? _ _ hc2) NV), (bw.alloc bw.size _).frozen hor.vlt]; exact hor.fz 2
    have ON := hid (hor.tab ⟨#[120, 120, 48]⟩ ⟨some ⟨wb.heap.size, 0, none⟩, 1, 1⟩ sv (fun _ => (-2)) bw ia ma hn5 hown4 hgr4 hat4)
    have AN := hid (show Added M { O with tab := sv, T := fun i => if i < O.tab.n then O.T i else ⟨⟨#[120, 120, 48]⟩, ⟨some ⟨wb.heap.size, 0, none⟩, 1, 1⟩⟩, TF := fun i => if i < O.tab.n then O.TF i else (fun _ => (-2)) } (L ++ [3]) by have := HA.out.tab3 (by omega) sv ⟨some ⟨wb.heap.size, 0, none⟩, 1, 1⟩ (fun _ => (-2)) hn5 rfl rfl; rw [lj] at this; exact this)
    clear hor hown4 hgr4 hat4 bw ia ma hY vne zlim hn5
    clear bw0 zw
    clear bb zb
    go_wp2_with (at_builtin; refine wpList_app (.tmp 62) (.tmp 71) (by rfl) (by rfl) (by rfl) (by rfl) (by rfl) hrun ?_)
    go_round
    case rel => first | exact ⟨1, by decide, by go_num, _, _, _, _, _, _, _, _, _, _, ON.out, AN.out, LL.out⟩ | ((repeat apply Exists.intro); exact ⟨⟨1, by decide, by go_num, _, _, _, _, _, _, _, _, _, _, ON.out, AN.out, LL.out⟩, rfl⟩)
    case measure => simp [intOf]
  ·have hv4 : y = 0 ∨ y = 1 ∨ y = 2 ∨ y = 3 := by have := HY.out; omega
   have lj : L.length = 1 := by rw [HL.out]; rfl
   rcases hv4 with hz | hz | hz | hz
   ·have LL := hid (show L ++ [0] = [x, y].take 2 by rw [HL.out]; simp [hz])
    have e0 : ((y : Int) == 0) = true := by rw [hz]; rfl
    have e1 : ((y : Int) == 1) = false := by rw [hz]; rfl
    have e2 : ((y : Int) == 2) = false := by rw [hz]; rfl
    clear hz
    have hor := HO.out
    have hcf : wr.cell? ⟨V, 1, none⟩ = some (.slice O.glo.a O.glo.n O.glo.c) := hor.box.c1
    have zlim : O.glo.n ≤ 1000 := by have := HA.out.ng; have := HS.out.glo; have := List.count_le_length (a := 0) (l := L); have := List.count_le_length (a := 1) (l := L); have := List.count_le_length (a := 2) (l := L); have := List.count_le_length (a := 3) (l := L); omega
    have bw : Below wr.heap.size wr wr := same _
    have ia : Ints wr ⟨none, 0, 0⟩ (fun _ => 0) := litN _ _
    have ma : Mine wr.heap.size wr.heap.size wr ⟨none, 0, 0⟩ := fun h => absurd h (by simp)
    have hY := hor.y.2.1
    obtain ⟨v5, w4, hrun, hown4, hgr4, hat4⟩ := app_gen (w2 := wr) underGl infoGl rfl (by decide) (by decide) (owns_on bw hor.g2.own) zlim (Nat.le_trans hY bw.size) #[.string ⟨#[122, 122]⟩, .slice none 0 0] rfl (by intro u hu; simp at hu; rcases hu with rfl | rfl <;> rfl) 23
    obtain ⟨sv, rfl⟩ := owns_slv hown4
    have hn5 : sv.n = O.glo.n + 1 := own_len hown4
    have vne : ∀ b, Bl O.glo.n (slv O.glo) FpS t2 b → b ≠ V := hor.v2
    have hc2 : (World.alloc wr (.cells #[.string ⟨#[122, 122]⟩, .slice none 0 0] 47)).cell? ⟨V, 1, none⟩ = some (.slice O.glo.a O.glo.n O.glo.c) := cell_on (bw.alloc bw.size _) hcf
    have NV : some V ≠ (slv O.glo).ownBlock := fun e => vne V (.inl e.symm) rfl
    have hc4 : w4.cell? ⟨V, 1, none⟩ = some (.slice O.glo.a O.glo.n O.glo.c) := by rw [World.cell?_of_block (w := World.alloc wr _) (hgr4.block V (World.block_lt_of_cell? _ _ hc2) NV)]; exact hc2
    have fz4 : w4.frozen? ⟨V, 1, none⟩ = false := by rw [World.frozen?_of_block (w := World.alloc wr _) (hgr4.block V (World.block_lt_of_cell? _ _ hc2) NV), (bw.alloc bw.size _).frozen hor.vlt]; exact hor.fz 1
    have ON := hid (hor.glo ⟨#[122, 122]⟩ ⟨none, 0, 0⟩ sv (fun _ => 0) bw ia ma hn5 hown4 hgr4 hat4)
    have AN := hid (HA.out.glo1 sv ⟨none, 0, 0⟩ ⟨#[122, 122]⟩ (fun _ => 0) hn5 0 (.inl ⟨rfl, rfl⟩) (by decide))
    clear hor hown4 hgr4 hat4 bw ia ma hY vne zlim hn5
    go_wp2_with (at_builtin; refine wpList_app (.tmp 77) (.tmp 79) (by rfl) (by rfl) (by rfl) (by rfl) (by rfl) hrun ?_)
    go_round
    case rel => first | exact ⟨2, by decide, by go_num, _, _, _, _, _, _, _, _, _, _, ON.out, AN.out, LL.out⟩ | ((repeat apply Exists.intro); exact ⟨⟨2, by decide, by go_num, _, _, _, _, _, _, _, _, _, _, ON.out, AN.out, LL.out⟩, rfl⟩)
    case measure => simp [intOf]
   ·have LL := hid (show L ++ [1] = [x, y].take 2 by rw [HL.out]; simp [hz])
    have e0 : ((y : Int) == 0) = false := by rw [hz]; rfl
    have e1 : ((y : Int) == 1) = true := by rw [hz]; rfl
    have e2 : ((y : Int) == 2) = false := by rw [hz]; rfl
    clear hz
    have hor := HO.out
    have hcf : wr.cell? ⟨V, 0, none⟩ = some (.slice O.ext.a O.ext.n O.ext.c) := hor.box.c0
    have zlim : O.ext.n ≤ 1000 := by have := HA.out.ne; have := HS.out.ext; have := List.count_le_length (a := 0) (l := L); have := List.count_le_length (a := 1) (l := L); have := List.count_le_length (a := 2) (l := L); have := List.count_le_length (a := 3) (l := L); omega
    have bw : Below wr.heap.size wr wr := same _
    have ia : Ints wr ⟨none, 0, 0⟩ (fun _ => 0) := litN _ _
    have ma : Mine wr.heap.size wr.heap.size wr ⟨none, 0, 0⟩ := fun h => absurd h (by simp)
    have hY := hor.y.1
    obtain ⟨v5, w4, hrun, hown4, hgr4, hat4⟩ := app_gen (w2 := wr) underEx infoEx rfl (by decide) (by decide) (owns_on bw hor.g1.own) zlim (Nat.le_trans hY bw.size) #[.string ⟨#[121, 121]⟩, .slice none 0 0, .int .i64 3] rfl (by intro u hu; simp at hu; rcases hu with rfl | rfl | rfl <;> rfl) 22
    obtain ⟨sv, rfl⟩ := owns_slv hown4
    have hn5 : sv.n = O.ext.n + 1 := own_len hown4
    have vne : ∀ b, Bl O.ext.n (slv O.ext) FpS t1 b → b ≠ V := hor.v1
    have hc2 : (World.alloc wr (.cells #[.string ⟨#[121, 121]⟩, .slice none 0 0, .int .i64 3] 54)).cell? ⟨V, 0, none⟩ = some (.slice O.ext.a O.ext.n O.ext.c) := cell_on (bw.alloc bw.size _) hcf
    have NV : some V ≠ (slv O.ext).ownBlock := fun e => vne V (.inl e.symm) rfl
    have hc4 : w4.cell? ⟨V, 0, none⟩ = some (.slice O.ext.a O.ext.n O.ext.c) := by rw [World.cell?_of_block (w := World.alloc wr _) (hgr4.block V (World.block_lt_of_cell? _ _ hc2) NV)]; exact hc2
    have fz4 : w4.frozen? ⟨V, 0, none⟩ = false := by rw [World.frozen?_of_block (w := World.alloc wr _) (hgr4.block V (World.block_lt_of_cell? _ _ hc2) NV), (bw.alloc bw.size _).frozen hor.vlt]; exact hor.fz 0
    have ON := hid (hor.ext ⟨#[121, 121]⟩ 3 ⟨none, 0, 0⟩ sv (fun _ => 0) bw ia ma hn5 hown4 hgr4 hat4)
    have AN := hid (HA.out.ext2 sv ⟨none, 0, 0⟩ ⟨#[121, 121]⟩ (fun _ => 0) hn5 rfl (by decide))
    clear hor hown4 hgr4 hat4 bw ia ma hY vne zlim hn5
    go_wp2_with (at_builtin; refine wpList_app (.tmp 85) (.tmp 87) (by rfl) (by rfl) (by rfl) (by rfl) (by rfl) hrun ?_)
    go_round
    case rel => first | exact ⟨2, by decide, by go_num, _, _, _, _, _, _, _, _, _, _, ON.out, AN.out, LL.out⟩ | ((repeat apply Exists.intro); exact ⟨⟨2, by decide, by go_num, _, _, _, _, _, _, _, _, _, _, ON.out, AN.out, LL.out⟩, rfl⟩)
    case measure => simp [intOf]
   ·have LL := hid (show L ++ [2] = [x, y].take 2 by rw [HL.out]; simp [hz])
    have e0 : ((y : Int) == 0) = false := by rw [hz]; rfl
    have e1 : ((y : Int) == 1) = false := by rw [hz]; rfl
    have e2 : ((y : Int) == 2) = true := by rw [hz]; rfl
    clear hz
    have hor := HO.out
    have hcf : wr.cell? ⟨V, 1, none⟩ = some (.slice O.glo.a O.glo.n O.glo.c) := hor.box.c1
    have zlim : O.glo.n ≤ 1000 := by have := HA.out.ng; have := HS.out.glo; have := List.count_le_length (a := 0) (l := L); have := List.count_le_length (a := 1) (l := L); have := List.count_le_length (a := 2) (l := L); have := List.count_le_length (a := 3) (l := L); omega
    obtain ⟨w2, hw2⟩ : ∃ w2, World.alloc wr (.cells #[.int .i64 1] 2) = w2 := ⟨_, rfl⟩
    have bw0 : Below wr.heap.size wr w2 := by rw [← hw2]; exact new (same _) _
    have zw : w2.heap.size = wr.heap.size + 1 := by rw [← hw2]; simp
    have bw : Below wr.heap.size wr w2 := bw0
    have ia : Ints w2 ⟨some ⟨wr.heap.size, 0, none⟩, 1, 1⟩ (fun _ => 1) := by rw [← hw2]; exact ints_new wr 1 _
    have ma : Mine wr.heap.size w2.heap.size w2 ⟨some ⟨wr.heap.size, 0, none⟩, 1, 1⟩ := fun _ => ⟨wr.heap.size, rfl, Nat.le_refl _, by omega, fun i => by rw [← hw2]; exact World.frozen?_alloc_new _ _ _ i⟩
    have hY := hor.y.2.1
    obtain ⟨v5, w4, hrun, hown4, hgr4, hat4⟩ := app_gen (w2 := w2) underGl infoGl rfl (by decide) (by decide) (owns_on bw hor.g2.own) zlim (Nat.le_trans hY bw.size) #[.string ⟨#[63]⟩, .slice (some ⟨wr.heap.size, 0, none⟩) 1 1] rfl (by intro u hu; simp at hu; rcases hu with rfl | rfl <;> rfl) 23
    obtain ⟨sv, rfl⟩ := owns_slv hown4
    have hn5 : sv.n = O.glo.n + 1 := own_len hown4
    have vne : ∀ b, Bl O.glo.n (slv O.glo) FpS t2 b → b ≠ V := hor.v2
    have hc2 : (World.alloc w2 (.cells #[.string ⟨#[63]⟩, .slice (some ⟨wr.heap.size, 0, none⟩) 1 1] 47)).cell? ⟨V, 1, none⟩ = some (.slice O.glo.a O.glo.n O.glo.c) := cell_on (bw.alloc bw.size _) hcf
    have NV : some V ≠ (slv O.glo).ownBlock := fun e => vne V (.inl e.symm) rfl
    have hc4 : w4.cell? ⟨V, 1, none⟩ = some (.slice O.glo.a O.glo.n O.glo.c) := by rw [World.cell?_of_block (w := World.alloc w2 _) (hgr4.block V (World.block_lt_of_cell? _ _ hc2) NV)]; exact hc2
    have fz4 : w4.frozen? ⟨V, 1, none⟩ = false := by rw [World.frozen?_of_block (w := World.alloc w2 _) (hgr4.block V (World.block_lt_of_cell? _ _ hc2) NV), (bw.alloc bw.size _).frozen hor.vlt]; exact hor.fz 1
    have ON := hid (hor.glo ⟨#[63]⟩ ⟨some ⟨wr.heap.size, 0, none⟩, 1, 1⟩ sv (fun _ => 1) bw ia ma hn5 hown4 hgr4 hat4)
    have AN := hid (HA.out.glo1 sv ⟨some ⟨wr.heap.size, 0, none⟩, 1, 1⟩ ⟨#[63]⟩ (fun _ => 1) hn5 2 (.inr ⟨rfl, rfl, rfl⟩) (by decide))
    clear hor hown4 hgr4 hat4 bw ia ma hY vne zlim hn5
    clear bw0 zw
    go_wp2_with (at_builtin; refine wpList_app (.tmp 93) (.tmp 96) (by rfl) (by rfl) (by rfl) (by rfl) (by rfl) hrun ?_)
    go_round
    case rel => first | exact ⟨2, by decide, by go_num, _, _, _, _, _, _, _, _, _, _, ON.out, AN.out, LL.out⟩ | ((repeat apply Exists.intro); exact ⟨⟨2, by decide, by go_num, _, _, _, _, _, _, _, _, _, _, ON.out, AN.out, LL.out⟩, rfl⟩)
    case measure => simp [intOf]
   ·have LL := hid (show L ++ [3] = [x, y].take 2 by rw [HL.out]; simp [hz])
    have e0 : ((y : Int) == 0) = false := by rw [hz]; rfl
    have e1 : ((y : Int) == 1) = false := by rw [hz]; rfl
    have e2 : ((y : Int) == 2) = false := by rw [hz]; rfl
    clear hz
    have hor := HO.out
    have hcf : wr.cell? ⟨V, 2, none⟩ = some (.slice O.tab.a O.tab.n O.tab.c) := hor.box.c2
    have zlim : O.tab.n ≤ 1000 := by have := HA.out.nt; have := HS.out.tab; have := List.count_le_length (a := 0) (l := L); have := List.count_le_length (a := 1) (l := L); have := List.count_le_length (a := 2) (l := L); have := List.count_le_length (a := 3) (l := L); omega
    obtain ⟨wb, hwb⟩ : ∃ wb, World.alloc wr (.cells #[.int .u8 49] 5) = wb := ⟨_, rfl⟩
    have bb : Below wr.heap.size wr wb := by rw [← hwb]; exact new (same _) _
    have zb : wb.heap.size = wr.heap.size + 1 := by rw [← hwb]; simp
    have hcv : (convert 55 9 (.slice (some ⟨wr.heap.size, 0, none⟩) 1 1)).run Tryz.prog wb = .ok (.string ⟨#[49]⟩) wb := by rw [← hwb]; exact conv_one wr 49 (by decide)
    obtain ⟨w2, hw2⟩ : ∃ w2, World.alloc wb (.cells #[.int .i64 (-2)] 3) = w2 := ⟨_, rfl⟩
    have bw0 : Below wb.heap.size wb w2 := by rw [← hw2]; exact new (same _) _
    have zw : w2.heap.size = wb.heap.size + 1 := by rw [← hw2]; simp
    have bw : Below wr.heap.size wr w2 := View.more bb bw0
    have ia : Ints w2 ⟨some ⟨wb.heap.size, 0, none⟩, 1, 1⟩ (fun _ => (-2)) := by rw [← hw2]; exact ints_new wb (-2) _
    have ma : Mine wr.heap.size w2.heap.size w2 ⟨some ⟨wb.heap.size, 0, none⟩, 1, 1⟩ := fun _ => ⟨wb.heap.size, rfl, by omega, by omega, fun i => by rw [← hw2]; exact World.frozen?_alloc_new _ _ _ i⟩
    have hY := hor.y.2.2.1
    obtain ⟨v5, w4, hrun, hown4, hgr4, hat4⟩ := app_gen (w2 := w2) underTb infoTb rfl (by decide) (by decide) (owns_on bw hor.g3.own) zlim (Nat.le_trans hY bw.size) #[.string ⟨#[120, 120, 49]⟩, .slice (some ⟨wb.heap.size, 0, none⟩) 1 1] rfl (by intro u hu; simp at hu; rcases hu with rfl | rfl <;> rfl) 24
    obtain ⟨sv, rfl⟩ := owns_slv hown4
    have hn5 : sv.n = O.tab.n + 1 := own_len hown4
    have vne : ∀ b, Bl O.tab.n (slv O.tab) FpS t3 b → b ≠ V := hor.v3
    have hc2 : (World.alloc w2 (.cells #[.string ⟨#[120, 120, 49]⟩, .slice (some ⟨wb.heap.size, 0, none⟩) 1 1] 49)).cell? ⟨V, 2, none⟩ = some (.slice O.tab.a O.tab.n O.tab.c) := cell_on (bw.alloc bw.size _) hcf
    have NV : some V ≠ (slv O.tab).ownBlock := fun e => vne V (.inl e.symm) rfl
    have hc4 : w4.cell? ⟨V, 2, none⟩ = some (.slice O.tab.a O.tab.n O.tab.c) := by rw [World.cell?_of_block (w := World.alloc w2 _) (hgr4.block V (World.block_lt_of_cell? _ _ hc2) NV)]; exact hc2
    have fz4 : w4.frozen? ⟨V, 2, none⟩ = false := by rw [World.frozen?_of_block (w := World.alloc w2 _) (hgr4.block V (World.block_lt_of_cell? _ _ hc2) NV), (bw.alloc bw.size _).frozen hor.vlt]; exact hor.fz 2
    have ON := hid (hor.tab ⟨#[120, 120, 49]⟩ ⟨some ⟨wb.heap.size, 0, none⟩, 1, 1⟩ sv (fun _ => (-2)) bw ia ma hn5 hown4 hgr4 hat4)
    have AN := hid (show Added M { O with tab := sv, T := fun i => if i < O.tab.n then O.T i else ⟨⟨#[120, 120, 49]⟩, ⟨some ⟨wb.heap.size, 0, none⟩, 1, 1⟩⟩, TF := fun i => if i < O.tab.n then O.TF i else (fun _ => (-2)) } (L ++ [3]) by have := HA.out.tab3 (by omega) sv ⟨some ⟨wb.heap.size, 0, none⟩, 1, 1⟩ (fun _ => (-2)) hn5 rfl rfl; rw [lj] at this; exact this)
    clear hor hown4 hgr4 hat4 bw ia ma hY vne zlim hn5
    clear bw0 zw
    clear bb zb
    go_wp2_with (at_builtin; refine wpList_app (.tmp 62) (.tmp 71) (by rfl) (by rfl) (by rfl) (by rfl) (by rfl) hrun ?_)
    go_round
    case rel => first | exact ⟨2, by decide, by go_num, _, _, _, _, _, _, _, _, _, _, ON.out, AN.out, LL.out⟩ | ((repeat apply Exists.intro); exact ⟨⟨2, by decide, by go_num, _, _, _, _, _, _, _, _, _, _, ON.out, AN.out, LL.out⟩, rfl⟩)
    case measure => simp [intOf]
  ·have ho := HO.out
   have hFl : ∀ i, i < M.fns.n → Light (O.F i) := fun i hi => light_eq (HA.out.more.fns.2 i hi) (HS.out.light i hi)
   have hLL : L = [x, y] := HL.out
   have hso : SmallM O := small_added HA.out HS.out HF.out.lim G10.out G4.out (by rw [hLL]; exact Nat.le_refl 2) hFl
   obtain ⟨n1, n2, n3⟩ := copied_growN (M := O) hso ho.g1 ho.g2 ho.g3 ho.g4 ho.low
   obtain ⟨N, hN⟩ : ∃ N, growN O O.ext O.glo O.tab O.fns t1 t2 t3 t4 = N := ⟨_, rfl⟩
   have hN0 : N.ext = O.ext := by rw [← hN]
   have hNv : N.val = .agg #[.slice O.ext.a O.ext.n O.ext.c, .slice O.glo.a O.glo.n O.glo.c, .slice O.tab.a O.tab.n O.tab.c, .slice O.fns.a O.fns.n O.fns.c] := by rw [← hN]
   rw [hN] at n1 n2 n3
   have hA2 := HA.out.eq n2
   rw [hLL] at hA2
   have hjn : ∀ i, i < N.fns.n → Jng (N.F i) := fun i hi => jng_eq (n2.fns.2 i hi) (jng_eq (HA.out.more.fns.2 i (by rw [← HA.out.more.fns.1, ← n2.fns.1]; exact hi)) (HJ.out i (by rw [← HA.out.more.fns.1, ← n2.fns.1]; exact hi)))
   have CK := hid (show ∀ wx, Below wr.heap.size wr wx → Calls Tryz.prog 13 #[.agg #[.slice O.ext.a O.ext.n O.ext.c, .slice O.glo.a O.glo.n O.glo.c, .slice O.tab.a O.tab.n O.tab.c, .slice O.fns.a O.fns.n O.fns.c]] wx fun e w' => e = .returned (.int .i64 (errM N)) ∧ Below wx.heap.size wx w' from fun wx hb => by rw [← hNv]; exact (wcheck_any N wx (n1.on hb) n3 hjn).mono fun e w' ⟨r, h1, h2, h3⟩ => ⟨by rw [h1, h2], h3⟩)
   have LO := hid (show Below W.heap.size W wr from View.more B6.out ho.low)
   obtain ⟨b0, b1, b2, b3⟩ := ho.box
   have HA2 := hid hA2
   have HX0 := hid hN0
   clear ho hFl hso n1 n2 n3 hjn hNv hA2 hLL hN0 hN
   by_cases h12 : 12 < O.ext.n
   ·have t9 : decide ((12 : Int) < O.ext.n) = true := by simp; omega
    have hE : errM N = 2 := err_over HA2.out (by rw [HX0.out]; exact h12)
    have CK2 := CK.out
    rw [hE] at CK2
    have CK3 := hid CK2
    clear CK2 hE h12
    go_wp2_with (go_at_call 13; refine (CK3.out _ (same _)).mono ?_; rintro e w9 ⟨rfl, hb⟩; have B9 := hid hb; clear hb)
    go_ret
    exact ⟨rfl, FIN.out _ (View.more LO.out B9.out)⟩
   have t9 : decide ((12 : Int) < O.ext.n) = false := by simp; omega
   have hxx := HX.out
   have hyy := HY.out
   have hE := err_added HA2.out HF.out G10.out G4.out (by rw [HX0.out]; omega) hxx hyy N0.out N1.out
   have hmm : min x y = 0 ∨ min x y = 1 ∨ min x y = 2 ∨ min x y = 3 := by omega
   have hmi : min (x : Int) (y : Int) = ((min x y : Nat) : Int) := by omega
   clear h12 hxx hyy
   have y0 : ∀ wy, Below wr.heap.size wr wy → wy.cell? ⟨V, 0, none⟩ = some (.slice O.ext.a O.ext.n O.ext.c) := fun wy h => cell_on h b0
   have y1 : ∀ wy, Below wr.heap.size wr wy → wy.cell? ⟨V, 1, none⟩ = some (.slice O.glo.a O.glo.n O.glo.c) := fun wy h => cell_on h b1
   have y2 : ∀ wy, Below wr.heap.size wr wy → wy.cell? ⟨V, 2, none⟩ = some (.slice O.tab.a O.tab.n O.tab.c) := fun wy h => cell_on h b2
   have y3 : ∀ wy, Below wr.heap.size wr wy → wy.cell? ⟨V, 3, none⟩ = some (.slice O.fns.a O.fns.n O.fns.c) := fun wy h => cell_on h b3
   rcases hmm with hm | hm | hm | hm
   ·rw [hm] at hE hmi
    have hE2 : errM N = 2 := by rw [hE]; rfl
    have hmi2 : (if y < x then (y : Int) else (x : Int)) = 0 := by split <;> omega
    have CK2 := CK.out
    rw [hE2] at CK2
    have CK3 := hid CK2
    clear CK2 hE2 hE hm hmi
    have s0 : Below wr.heap.size wr wr.drew := Below.drew (same _)
    obtain ⟨wa, hwa⟩ : ∃ wa, (World.alloc wr (.cells #[.int .i64 2, .int .i64 1, .int .i64 3, .int .i64 4] 44)).drew = wa := ⟨_, rfl⟩
    have sa : Below wr.heap.size wr wa := by rw [← hwa]; exact Below.drew (new (same _) _)
    have ca : wa.cell? ⟨wr.heap.size, 0, none⟩ = some (.int .i64 2) := by rw [← hwa]; exact cell_at4 wr 0 2 (by decide)
    go_wp2_with fail
    refine wp_region_noPanic ?_
    refine wp_region_held_drew (S := fun wx => Below wr.heap.size wr wx) (by kernel_rfl) s0 (fun hS => ?_)
    refine Flo.takeAt (i := 0) (d := some 106) (v := ?vm01_0) rfl (by rfl) (by kernel_rfl) (by kernel_rfl) (by kernel_rfl) (fun _ _ _ h => h) (Or.inl ⟨by rfl, ?ym01_0⟩) hS ?_
    case ym01_0 => intro wx hSw; (go_simp) <;> with_reducible rfl
    simp only [Act.put, sP1, sP2, sP3]
    refine Flo.takeAt (i := 3) (d := some 109) (v := ?vm02_3) rfl (by rfl) (by kernel_rfl) (by kernel_rfl) (by kernel_rfl) (fun _ _ _ h => h) (Or.inl ⟨by rfl, ?ym02_3⟩) hS ?_
    case ym02_3 => intro wx hSw; (go_simp) <;> with_reducible rfl
    simp only [Act.put, sP1, sP2, sP3]
    refine Flo.takeAt (i := 4) (d := some 110) (v := ?vm03_4) rfl (by rfl) (by kernel_rfl) (by kernel_rfl) (by kernel_rfl) (fun _ _ _ h => h) (Or.inl ⟨by rfl, ?ym03_4⟩) hS ?_
    case ym03_4 => intro wx hSw; (go_simp) <;> with_reducible rfl
    simp only [Act.put, sP1, sP2, sP3]
    refine Flo.takeAt (i := 5) (d := some 111) (v := ?vm04_5) rfl (by rfl) (by kernel_rfl) (by kernel_rfl) (by kernel_rfl) (fun _ _ _ h => h) (Or.inl ⟨by rfl, ?ym04_5⟩) hS ?_
    case ym04_5 => intro wx hSw; (go_simp) <;> with_reducible rfl
    simp only [Act.put, sP1, sP2, sP3]
    refine wpAnyH_ready (rs := [1, 2]) (by kernel_rfl) (by simp) ?_
    refine AllReadyH.cons rfl (fun K hK => ?_) (AllReadyH.cons rfl (fun K hK => ?_) AllReadyH.nil)
    ·go_simp
     refine (CK3.out _ s0).mono ?_
     rintro e w21 ⟨rfl, hb1⟩
     have sc1 := View.more s0 hb1
     go_wp2_with fail
     refine hK.out _ _ sc1 (fun _ => ?_)
     clear hK K
     replace hS := sc1
     try simp only [Act.put, sP1, sP2, sP3]
     refine wpAnyH_ready (rs := [2]) (by kernel_rfl) (by simp) ?_
     refine AllReadyH.cons rfl (fun K hK => ?_) AllReadyH.nil
     go_simp
     refine hK.out _ _ (new sc1 (.cells #[.int .i64 2, .int .i64 1, .int .i64 3, .int .i64 4] 44)) (fun _ => ?_)
     clear hK K
     replace hS := (new sc1 (.cells #[.int .i64 2, .int .i64 1, .int .i64 3, .int .i64 4] 44))
     try simp only [Act.put, sP1, sP2, sP3]
     have sn2 := new sc1 (.cells #[.int .i64 2, .int .i64 1, .int .i64 3, .int .i64 4] 44)
     refine Flo.takeAt (i := 6) (d := some 112) (v := ?vm05_6) rfl (by rfl) (by kernel_rfl) (by kernel_rfl) (by kernel_rfl) (fun _ _ _ h => h) (Or.inl ⟨by rfl, ?ym05_6⟩) hS ?_
     case ym05_6 => intro wx hSw; (go_simp) <;> with_reducible rfl
     simp only [Act.put, sP1, sP2, sP3]
     refine wpAnyH_ready (rs := [7]) (by kernel_rfl) (by simp) ?_
     refine AllReadyH.cons rfl (fun K hK => ?_) AllReadyH.nil
     go_simp
     refine hK.out _ _ sn2 (fun _ => ?_)
     clear hK K
     replace hS := sn2
     try simp only [Act.put, sP1, sP2, sP3]
     refine Flo.takeAt (i := 8) (d := some 114) (v := ?vm06_8) rfl (by rfl) (by kernel_rfl) (by kernel_rfl) (by kernel_rfl) (fun _ _ _ h => h) (Or.inl ⟨by rfl, ?ym06_8⟩) hS ?_
     case ym06_8 => intro wx hSw; (go_simp) <;> with_reducible rfl
     simp only [Act.put, sP1, sP2, sP3]
     refine Flo.takeAt (i := 9) (d := some 6) (v := ?vm07_9) rfl (by rfl) (by kernel_rfl) (by kernel_rfl) (by kernel_rfl) (fun _ _ _ h => h) (Or.inl ⟨by rfl, ?ym07_9⟩) hS ?_
     case ym07_9 => intro wx hSw; (go_simp) <;> with_reducible rfl
     simp only [Act.put, sP1, sP2, sP3]
     refine wpAnyH_done (by kernel_rfl) ?_ _
     refine NoPanic.normal ?_
     go_wp2_with fail
     go_ret
     exact ⟨rfl, FIN.out _ (View.more LO.out sn2)⟩
    ·go_simp
     refine hK.out _ _ sa (fun _ => ?_)
     clear hK K
     replace hS := sa
     try simp only [Act.put, sP1, sP2, sP3]
     refine Flo.takeAt (i := 6) (d := some 112) (v := ?vm08_6) rfl (by rfl) (by kernel_rfl) (by kernel_rfl) (by kernel_rfl) (fun _ _ _ h => h) (Or.inl ⟨by rfl, ?ym08_6⟩) hS ?_
     case ym08_6 => intro wx hSw; (go_simp) <;> with_reducible rfl
     simp only [Act.put, sP1, sP2, sP3]
     refine wpAnyH_ready (rs := [1, 7]) (by kernel_rfl) (by simp) ?_
     refine AllReadyH.cons rfl (fun K hK => ?_) (AllReadyH.cons rfl (fun K hK => ?_) AllReadyH.nil)
     ·go_simp
      refine (CK3.out _ sa).mono ?_
      rintro e w21 ⟨rfl, hb1⟩
      have sc1 := View.more sa hb1
      have cb1 := cell_on hb1 ca
      go_wp2_with fail
      refine hK.out _ _ sc1 (fun _ => ?_)
      clear hK K
      replace hS := sc1
      try simp only [Act.put, sP1, sP2, sP3]
      refine wpAnyH_ready (rs := [7]) (by kernel_rfl) (by simp) ?_
      refine AllReadyH.cons rfl (fun K hK => ?_) AllReadyH.nil
      go_simp
      refine hK.out _ _ sc1 (fun _ => ?_)
      clear hK K
      replace hS := sc1
      try simp only [Act.put, sP1, sP2, sP3]
      refine Flo.takeAt (i := 8) (d := some 114) (v := ?vm09_8) rfl (by rfl) (by kernel_rfl) (by kernel_rfl) (by kernel_rfl) (fun _ _ _ h => h) (Or.inl ⟨by rfl, ?ym09_8⟩) hS ?_
      case ym09_8 => intro wx hSw; (go_simp) <;> with_reducible rfl
      simp only [Act.put, sP1, sP2, sP3]
      refine Flo.takeAt (i := 9) (d := some 6) (v := ?vm010_9) rfl (by rfl) (by kernel_rfl) (by kernel_rfl) (by kernel_rfl) (fun _ _ _ h => h) (Or.inl ⟨by rfl, ?ym010_9⟩) hS ?_
      case ym010_9 => intro wx hSw; (go_simp) <;> with_reducible rfl
      simp only [Act.put, sP1, sP2, sP3]
      refine wpAnyH_done (by kernel_rfl) ?_ _
      refine NoPanic.normal ?_
      go_wp2_with fail
      go_ret
      exact ⟨rfl, FIN.out _ (View.more LO.out sc1)⟩
     ·go_simp
      refine hK.out _ _ sa (fun _ => ?_)
      clear hK K
      replace hS := sa
      try simp only [Act.put, sP1, sP2, sP3]
      refine wpAnyH_ready (rs := [1]) (by kernel_rfl) (by simp) ?_
      refine AllReadyH.cons rfl (fun K hK => ?_) AllReadyH.nil
      go_simp
      refine (CK3.out _ sa).mono ?_
      rintro e w21 ⟨rfl, hb1⟩
      have sc1 := View.more sa hb1
      have cb1 := cell_on hb1 ca
      go_wp2_with fail
      refine hK.out _ _ sc1 (fun _ => ?_)
      clear hK K
      replace hS := sc1
      try simp only [Act.put, sP1, sP2, sP3]
      refine Flo.takeAt (i := 8) (d := some 114) (v := ?vm011_8) rfl (by rfl) (by kernel_rfl) (by kernel_rfl) (by kernel_rfl) (fun _ _ _ h => h) (Or.inl ⟨by rfl, ?ym011_8⟩) hS ?_
      case ym011_8 => intro wx hSw; (go_simp) <;> with_reducible rfl
      simp only [Act.put, sP1, sP2, sP3]
      refine Flo.takeAt (i := 9) (d := some 6) (v := ?vm012_9) rfl (by rfl) (by kernel_rfl) (by kernel_rfl) (by kernel_rfl) (fun _ _ _ h => h) (Or.inl ⟨by rfl, ?ym012_9⟩) hS ?_
      case ym012_9 => intro wx hSw; (go_simp) <;> with_reducible rfl
      simp only [Act.put, sP1, sP2, sP3]
      refine wpAnyH_done (by kernel_rfl) ?_ _
      refine NoPanic.normal ?_
      go_wp2_with fail
      go_ret
      exact ⟨rfl, FIN.out _ (View.more LO.out sc1)⟩
   ·rw [hm] at hE hmi
    have hE2 : errM N = 1 := by rw [hE]; rfl
    have hmi2 : (if y < x then (y : Int) else (x : Int)) = 1 := by split <;> omega
    have CK2 := CK.out
    rw [hE2] at CK2
    have CK3 := hid CK2
    clear CK2 hE2 hE hm hmi
    have s0 : Below wr.heap.size wr wr.drew := Below.drew (same _)
    obtain ⟨wa, hwa⟩ : ∃ wa, (World.alloc wr (.cells #[.int .i64 2, .int .i64 1, .int .i64 3, .int .i64 4] 44)).drew = wa := ⟨_, rfl⟩
    have sa : Below wr.heap.size wr wa := by rw [← hwa]; exact Below.drew (new (same _) _)
    have ca : wa.cell? ⟨wr.heap.size, 1, none⟩ = some (.int .i64 1) := by rw [← hwa]; exact cell_at4 wr 1 1 (by decide)
    go_wp2_with fail
    refine wp_region_noPanic ?_
    refine wp_region_held_drew (S := fun wx => Below wr.heap.size wr wx) (by kernel_rfl) s0 (fun hS => ?_)
    refine Flo.takeAt (i := 0) (d := some 106) (v := ?vm11_0) rfl (by rfl) (by kernel_rfl) (by kernel_rfl) (by kernel_rfl) (fun _ _ _ h => h) (Or.inl ⟨by rfl, ?ym11_0⟩) hS ?_
    case ym11_0 => intro wx hSw; (go_simp) <;> with_reducible rfl
    simp only [Act.put, sP1, sP2, sP3]
    refine Flo.takeAt (i := 3) (d := some 109) (v := ?vm12_3) rfl (by rfl) (by kernel_rfl) (by kernel_rfl) (by kernel_rfl) (fun _ _ _ h => h) (Or.inl ⟨by rfl, ?ym12_3⟩) hS ?_
    case ym12_3 => intro wx hSw; (go_simp) <;> with_reducible rfl
    simp only [Act.put, sP1, sP2, sP3]
    refine Flo.takeAt (i := 4) (d := some 110) (v := ?vm13_4) rfl (by rfl) (by kernel_rfl) (by kernel_rfl) (by kernel_rfl) (fun _ _ _ h => h) (Or.inl ⟨by rfl, ?ym13_4⟩) hS ?_
    case ym13_4 => intro wx hSw; (go_simp) <;> with_reducible rfl
    simp only [Act.put, sP1, sP2, sP3]
    refine Flo.takeAt (i := 5) (d := some 111) (v := ?vm14_5) rfl (by rfl) (by kernel_rfl) (by kernel_rfl) (by kernel_rfl) (fun _ _ _ h => h) (Or.inl ⟨by rfl, ?ym14_5⟩) hS ?_
    case ym14_5 => intro wx hSw; (go_simp) <;> with_reducible rfl
    simp only [Act.put, sP1, sP2, sP3]
    refine wpAnyH_ready (rs := [1, 2]) (by kernel_rfl) (by simp) ?_
    refine AllReadyH.cons rfl (fun K hK => ?_) (AllReadyH.cons rfl (fun K hK => ?_) AllReadyH.nil)
    ·go_simp
     refine (CK3.out _ s0).mono ?_
     rintro e w21 ⟨rfl, hb1⟩
     have sc1 := View.more s0 hb1
     go_wp2_with fail
     refine hK.out _ _ sc1 (fun _ => ?_)
     clear hK K
     replace hS := sc1
     try simp only [Act.put, sP1, sP2, sP3]
     refine wpAnyH_ready (rs := [2]) (by kernel_rfl) (by simp) ?_
     refine AllReadyH.cons rfl (fun K hK => ?_) AllReadyH.nil
     go_simp
     refine hK.out _ _ (new sc1 (.cells #[.int .i64 2, .int .i64 1, .int .i64 3, .int .i64 4] 44)) (fun _ => ?_)
     clear hK K
     replace hS := (new sc1 (.cells #[.int .i64 2, .int .i64 1, .int .i64 3, .int .i64 4] 44))
     try simp only [Act.put, sP1, sP2, sP3]
     have sn2 := new sc1 (.cells #[.int .i64 2, .int .i64 1, .int .i64 3, .int .i64 4] 44)
     refine Flo.takeAt (i := 6) (d := some 112) (v := ?vm15_6) rfl (by rfl) (by kernel_rfl) (by kernel_rfl) (by kernel_rfl) (fun _ _ _ h => h) (Or.inl ⟨by rfl, ?ym15_6⟩) hS ?_
     case ym15_6 => intro wx hSw; (go_simp) <;> with_reducible rfl
     simp only [Act.put, sP1, sP2, sP3]
     refine wpAnyH_ready (rs := [7]) (by kernel_rfl) (by simp) ?_
     refine AllReadyH.cons rfl (fun K hK => ?_) AllReadyH.nil
     go_simp
     refine hK.out _ _ sn2 (fun _ => ?_)
     clear hK K
     replace hS := sn2
     try simp only [Act.put, sP1, sP2, sP3]
     refine Flo.takeAt (i := 8) (d := some 114) (v := ?vm16_8) rfl (by rfl) (by kernel_rfl) (by kernel_rfl) (by kernel_rfl) (fun _ _ _ h => h) (Or.inl ⟨by rfl, ?ym16_8⟩) hS ?_
     case ym16_8 => intro wx hSw; (go_simp) <;> with_reducible rfl
     simp only [Act.put, sP1, sP2, sP3]
     refine Flo.takeAt (i := 9) (d := some 6) (v := ?vm17_9) rfl (by rfl) (by kernel_rfl) (by kernel_rfl) (by kernel_rfl) (fun _ _ _ h => h) (Or.inl ⟨by rfl, ?ym17_9⟩) hS ?_
     case ym17_9 => intro wx hSw; (go_simp) <;> with_reducible rfl
     simp only [Act.put, sP1, sP2, sP3]
     refine wpAnyH_done (by kernel_rfl) ?_ _
     refine NoPanic.normal ?_
     go_wp2_with fail
     go_ret
     exact ⟨rfl, FIN.out _ (View.more LO.out sn2)⟩
    ·go_simp
     refine hK.out _ _ sa (fun _ => ?_)
     clear hK K
     replace hS := sa
     try simp only [Act.put, sP1, sP2, sP3]
     refine Flo.takeAt (i := 6) (d := some 112) (v := ?vm18_6) rfl (by rfl) (by kernel_rfl) (by kernel_rfl) (by kernel_rfl) (fun _ _ _ h => h) (Or.inl ⟨by rfl, ?ym18_6⟩) hS ?_
     case ym18_6 => intro wx hSw; (go_simp) <;> with_reducible rfl
     simp only [Act.put, sP1, sP2, sP3]
     refine wpAnyH_ready (rs := [1, 7]) (by kernel_rfl) (by simp) ?_
     refine AllReadyH.cons rfl (fun K hK => ?_) (AllReadyH.cons rfl (fun K hK => ?_) AllReadyH.nil)
     ·go_simp
      refine (CK3.out _ sa).mono ?_
      rintro e w21 ⟨rfl, hb1⟩
      have sc1 := View.more sa hb1
      have cb1 := cell_on hb1 ca
      go_wp2_with fail
      refine hK.out _ _ sc1 (fun _ => ?_)
      clear hK K
      replace hS := sc1
      try simp only [Act.put, sP1, sP2, sP3]
      refine wpAnyH_ready (rs := [7]) (by kernel_rfl) (by simp) ?_
      refine AllReadyH.cons rfl (fun K hK => ?_) AllReadyH.nil
      go_simp
      refine hK.out _ _ sc1 (fun _ => ?_)
      clear hK K
      replace hS := sc1
      try simp only [Act.put, sP1, sP2, sP3]
      refine Flo.takeAt (i := 8) (d := some 114) (v := ?vm19_8) rfl (by rfl) (by kernel_rfl) (by kernel_rfl) (by kernel_rfl) (fun _ _ _ h => h) (Or.inl ⟨by rfl, ?ym19_8⟩) hS ?_
      case ym19_8 => intro wx hSw; (go_simp) <;> with_reducible rfl
      simp only [Act.put, sP1, sP2, sP3]
      refine Flo.takeAt (i := 9) (d := some 6) (v := ?vm110_9) rfl (by rfl) (by kernel_rfl) (by kernel_rfl) (by kernel_rfl) (fun _ _ _ h => h) (Or.inl ⟨by rfl, ?ym110_9⟩) hS ?_
      case ym110_9 => intro wx hSw; (go_simp) <;> with_reducible rfl
      simp only [Act.put, sP1, sP2, sP3]
      refine wpAnyH_done (by kernel_rfl) ?_ _
      refine NoPanic.normal ?_
      go_wp2_with fail
      go_ret
      exact ⟨rfl, FIN.out _ (View.more LO.out sc1)⟩
     ·go_simp
      refine hK.out _ _ sa (fun _ => ?_)
      clear hK K
      replace hS := sa
      try simp only [Act.put, sP1, sP2, sP3]
      refine wpAnyH_ready (rs := [1]) (by kernel_rfl) (by simp) ?_
      refine AllReadyH.cons rfl (fun K hK => ?_) AllReadyH.nil
      go_simp
      refine (CK3.out _ sa).mono ?_
      rintro e w21 ⟨rfl, hb1⟩
      have sc1 := View.more sa hb1
      have cb1 := cell_on hb1 ca
      go_wp2_with fail
      refine hK.out _ _ sc1 (fun _ => ?_)
      clear hK K
      replace hS := sc1
      try simp only [Act.put, sP1, sP2, sP3]
      refine Flo.takeAt (i := 8) (d := some 114) (v := ?vm111_8) rfl (by rfl) (by kernel_rfl) (by kernel_rfl) (by kernel_rfl) (fun _ _ _ h => h) (Or.inl ⟨by rfl, ?ym111_8⟩) hS ?_
      case ym111_8 => intro wx hSw; (go_simp) <;> with_reducible rfl
      simp only [Act.put, sP1, sP2, sP3]
      refine Flo.takeAt (i := 9) (d := some 6) (v := ?vm112_9) rfl (by rfl) (by kernel_rfl) (by kernel_rfl) (by kernel_rfl) (fun _ _ _ h => h) (Or.inl ⟨by rfl, ?ym112_9⟩) hS ?_
      case ym112_9 => intro wx hSw; (go_simp) <;> with_reducible rfl
      simp only [Act.put, sP1, sP2, sP3]
      refine wpAnyH_done (by kernel_rfl) ?_ _
      refine NoPanic.normal ?_
      go_wp2_with fail
      go_ret
      exact ⟨rfl, FIN.out _ (View.more LO.out sc1)⟩
   ·rw [hm] at hE hmi
    have hE2 : errM N = 3 := by rw [hE]; rfl
    have hmi2 : (if y < x then (y : Int) else (x : Int)) = 2 := by split <;> omega
    have CK2 := CK.out
    rw [hE2] at CK2
    have CK3 := hid CK2
    clear CK2 hE2 hE hm hmi
    have s0 : Below wr.heap.size wr wr.drew := Below.drew (same _)
    obtain ⟨wa, hwa⟩ : ∃ wa, (World.alloc wr (.cells #[.int .i64 2, .int .i64 1, .int .i64 3, .int .i64 4] 44)).drew = wa := ⟨_, rfl⟩
    have sa : Below wr.heap.size wr wa := by rw [← hwa]; exact Below.drew (new (same _) _)
    have ca : wa.cell? ⟨wr.heap.size, 2, none⟩ = some (.int .i64 3) := by rw [← hwa]; exact cell_at4 wr 2 3 (by decide)
    go_wp2_with fail
    refine wp_region_noPanic ?_
    refine wp_region_held_drew (S := fun wx => Below wr.heap.size wr wx) (by kernel_rfl) s0 (fun hS => ?_)
    refine Flo.takeAt (i := 0) (d := some 106) (v := ?vm21_0) rfl (by rfl) (by kernel_rfl) (by kernel_rfl) (by kernel_rfl) (fun _ _ _ h => h) (Or.inl ⟨by rfl, ?ym21_0⟩) hS ?_
    case ym21_0 => intro wx hSw; (go_simp) <;> with_reducible rfl
    simp only [Act.put, sP1, sP2, sP3]
    refine Flo.takeAt (i := 3) (d := some 109) (v := ?vm22_3) rfl (by rfl) (by kernel_rfl) (by kernel_rfl) (by kernel_rfl) (fun _ _ _ h => h) (Or.inl ⟨by rfl, ?ym22_3⟩) hS ?_
    case ym22_3 => intro wx hSw; (go_simp) <;> with_reducible rfl
    simp only [Act.put, sP1, sP2, sP3]
    refine Flo.takeAt (i := 4) (d := some 110) (v := ?vm23_4) rfl (by rfl) (by kernel_rfl) (by kernel_rfl) (by kernel_rfl) (fun _ _ _ h => h) (Or.inl ⟨by rfl, ?ym23_4⟩) hS ?_
    case ym23_4 => intro wx hSw; (go_simp) <;> with_reducible rfl
    simp only [Act.put, sP1, sP2, sP3]
    refine Flo.takeAt (i := 5) (d := some 111) (v := ?vm24_5) rfl (by rfl) (by kernel_rfl) (by kernel_rfl) (by kernel_rfl) (fun _ _ _ h => h) (Or.inl ⟨by rfl, ?ym24_5⟩) hS ?_
    case ym24_5 => intro wx hSw; (go_simp) <;> with_reducible rfl
    simp only [Act.put, sP1, sP2, sP3]
    refine wpAnyH_ready (rs := [1, 2]) (by kernel_rfl) (by simp) ?_
    refine AllReadyH.cons rfl (fun K hK => ?_) (AllReadyH.cons rfl (fun K hK => ?_) AllReadyH.nil)
    ·go_simp
     refine (CK3.out _ s0).mono ?_
     rintro e w21 ⟨rfl, hb1⟩
     have sc1 := View.more s0 hb1
     go_wp2_with fail
     refine hK.out _ _ sc1 (fun _ => ?_)
     clear hK K
     replace hS := sc1
     try simp only [Act.put, sP1, sP2, sP3]
     refine wpAnyH_ready (rs := [2]) (by kernel_rfl) (by simp) ?_
     refine AllReadyH.cons rfl (fun K hK => ?_) AllReadyH.nil
     go_simp
     refine hK.out _ _ (new sc1 (.cells #[.int .i64 2, .int .i64 1, .int .i64 3, .int .i64 4] 44)) (fun _ => ?_)
     clear hK K
     replace hS := (new sc1 (.cells #[.int .i64 2, .int .i64 1, .int .i64 3, .int .i64 4] 44))
     try simp only [Act.put, sP1, sP2, sP3]
     have sn2 := new sc1 (.cells #[.int .i64 2, .int .i64 1, .int .i64 3, .int .i64 4] 44)
     refine Flo.takeAt (i := 6) (d := some 112) (v := ?vm25_6) rfl (by rfl) (by kernel_rfl) (by kernel_rfl) (by kernel_rfl) (fun _ _ _ h => h) (Or.inl ⟨by rfl, ?ym25_6⟩) hS ?_
     case ym25_6 => intro wx hSw; (go_simp) <;> with_reducible rfl
     simp only [Act.put, sP1, sP2, sP3]
     refine wpAnyH_ready (rs := [7]) (by kernel_rfl) (by simp) ?_
     refine AllReadyH.cons rfl (fun K hK => ?_) AllReadyH.nil
     go_simp
     refine hK.out _ _ sn2 (fun _ => ?_)
     clear hK K
     replace hS := sn2
     try simp only [Act.put, sP1, sP2, sP3]
     refine Flo.takeAt (i := 8) (d := some 114) (v := ?vm26_8) rfl (by rfl) (by kernel_rfl) (by kernel_rfl) (by kernel_rfl) (fun _ _ _ h => h) (Or.inl ⟨by rfl, ?ym26_8⟩) hS ?_
     case ym26_8 => intro wx hSw; (go_simp) <;> with_reducible rfl
     simp only [Act.put, sP1, sP2, sP3]
     refine Flo.takeAt (i := 9) (d := some 6) (v := ?vm27_9) rfl (by rfl) (by kernel_rfl) (by kernel_rfl) (by kernel_rfl) (fun _ _ _ h => h) (Or.inl ⟨by rfl, ?ym27_9⟩) hS ?_
     case ym27_9 => intro wx hSw; (go_simp) <;> with_reducible rfl
     simp only [Act.put, sP1, sP2, sP3]
     refine wpAnyH_done (by kernel_rfl) ?_ _
     refine NoPanic.normal ?_
     go_wp2_with fail
     go_ret
     exact ⟨rfl, FIN.out _ (View.more LO.out sn2)⟩
    ·go_simp
     refine hK.out _ _ sa (fun _ => ?_)
     clear hK K
     replace hS := sa
     try simp only [Act.put, sP1, sP2, sP3]
     refine Flo.takeAt (i := 6) (d := some 112) (v := ?vm28_6) rfl (by rfl) (by kernel_rfl) (by kernel_rfl) (by kernel_rfl) (fun _ _ _ h => h) (Or.inl ⟨by rfl, ?ym28_6⟩) hS ?_
     case ym28_6 => intro wx hSw; (go_simp) <;> with_reducible rfl
     simp only [Act.put, sP1, sP2, sP3]
     refine wpAnyH_ready (rs := [1, 7]) (by kernel_rfl) (by simp) ?_
     refine AllReadyH.cons rfl (fun K hK => ?_) (AllReadyH.cons rfl (fun K hK => ?_) AllReadyH.nil)
     ·go_simp
      refine (CK3.out _ sa).mono ?_
      rintro e w21 ⟨rfl, hb1⟩
      have sc1 := View.more sa hb1
      have cb1 := cell_on hb1 ca
      go_wp2_with fail
      refine hK.out _ _ sc1 (fun _ => ?_)
      clear hK K
      replace hS := sc1
      try simp only [Act.put, sP1, sP2, sP3]
      refine wpAnyH_ready (rs := [7]) (by kernel_rfl) (by simp) ?_
      refine AllReadyH.cons rfl (fun K hK => ?_) AllReadyH.nil
      go_simp
      refine hK.out _ _ sc1 (fun _ => ?_)
      clear hK K
      replace hS := sc1
      try simp only [Act.put, sP1, sP2, sP3]
      refine Flo.takeAt (i := 8) (d := some 114) (v := ?vm29_8) rfl (by rfl) (by kernel_rfl) (by kernel_rfl) (by kernel_rfl) (fun _ _ _ h => h) (Or.inl ⟨by rfl, ?ym29_8⟩) hS ?_
      case ym29_8 => intro wx hSw; (go_simp) <;> with_reducible rfl
      simp only [Act.put, sP1, sP2, sP3]
      refine Flo.takeAt (i := 9) (d := some 6) (v := ?vm210_9) rfl (by rfl) (by kernel_rfl) (by kernel_rfl) (by kernel_rfl) (fun _ _ _ h => h) (Or.inl ⟨by rfl, ?ym210_9⟩) hS ?_
      case ym210_9 => intro wx hSw; (go_simp) <;> with_reducible rfl
      simp only [Act.put, sP1, sP2, sP3]
      refine wpAnyH_done (by kernel_rfl) ?_ _
      refine NoPanic.normal ?_
      go_wp2_with fail
      go_ret
      exact ⟨rfl, FIN.out _ (View.more LO.out sc1)⟩
     ·go_simp
      refine hK.out _ _ sa (fun _ => ?_)
      clear hK K
      replace hS := sa
      try simp only [Act.put, sP1, sP2, sP3]
      refine wpAnyH_ready (rs := [1]) (by kernel_rfl) (by simp) ?_
      refine AllReadyH.cons rfl (fun K hK => ?_) AllReadyH.nil
      go_simp
      refine (CK3.out _ sa).mono ?_
      rintro e w21 ⟨rfl, hb1⟩
      have sc1 := View.more sa hb1
      have cb1 := cell_on hb1 ca
      go_wp2_with fail
      refine hK.out _ _ sc1 (fun _ => ?_)
      clear hK K
      replace hS := sc1
      try simp only [Act.put, sP1, sP2, sP3]
      refine Flo.takeAt (i := 8) (d := some 114) (v := ?vm211_8) rfl (by rfl) (by kernel_rfl) (by kernel_rfl) (by kernel_rfl) (fun _ _ _ h => h) (Or.inl ⟨by rfl, ?ym211_8⟩) hS ?_
      case ym211_8 => intro wx hSw; (go_simp) <;> with_reducible rfl
      simp only [Act.put, sP1, sP2, sP3]
      refine Flo.takeAt (i := 9) (d := some 6) (v := ?vm212_9) rfl (by rfl) (by kernel_rfl) (by kernel_rfl) (by kernel_rfl) (fun _ _ _ h => h) (Or.inl ⟨by rfl, ?ym212_9⟩) hS ?_
      case ym212_9 => intro wx hSw; (go_simp) <;> with_reducible rfl
      simp only [Act.put, sP1, sP2, sP3]
      refine wpAnyH_done (by kernel_rfl) ?_ _
      refine NoPanic.normal ?_
      go_wp2_with fail
      go_ret
      exact ⟨rfl, FIN.out _ (View.more LO.out sc1)⟩
   ·rw [hm] at hE hmi
    have hE2 : errM N = 4 := by rw [hE]; rfl
    have hmi2 : (if y < x then (y : Int) else (x : Int)) = 3 := by split <;> omega
    have CK2 := CK.out
    rw [hE2] at CK2
    have CK3 := hid CK2
    clear CK2 hE2 hE hm hmi
    have s0 : Below wr.heap.size wr wr.drew := Below.drew (same _)
    obtain ⟨wa, hwa⟩ : ∃ wa, (World.alloc wr (.cells #[.int .i64 2, .int .i64 1, .int .i64 3, .int .i64 4] 44)).drew = wa := ⟨_, rfl⟩
    have sa : Below wr.heap.size wr wa := by rw [← hwa]; exact Below.drew (new (same _) _)
    have ca : wa.cell? ⟨wr.heap.size, 3, none⟩ = some (.int .i64 4) := by rw [← hwa]; exact cell_at4 wr 3 4 (by decide)
    go_wp2_with fail
    refine wp_region_noPanic ?_
    refine wp_region_held_drew (S := fun wx => Below wr.heap.size wr wx) (by kernel_rfl) s0 (fun hS => ?_)
    refine Flo.takeAt (i := 0) (d := some 106) (v := ?vm31_0) rfl (by rfl) (by kernel_rfl) (by kernel_rfl) (by kernel_rfl) (fun _ _ _ h => h) (Or.inl ⟨by rfl, ?ym31_0⟩) hS ?_
    case ym31_0 => intro wx hSw; (go_simp) <;> with_reducible rfl
    simp only [Act.put, sP1, sP2, sP3]
    refine Flo.takeAt (i := 3) (d := some 109) (v := ?vm32_3) rfl (by rfl) (by kernel_rfl) (by kernel_rfl) (by kernel_rfl) (fun _ _ _ h => h) (Or.inl ⟨by rfl, ?ym32_3⟩) hS ?_
    case ym32_3 => intro wx hSw; (go_simp) <;> with_reducible rfl
    simp only [Act.put, sP1, sP2, sP3]
    refine Flo.takeAt (i := 4) (d := some 110) (v := ?vm33_4) rfl (by rfl) (by kernel_rfl) (by kernel_rfl) (by kernel_rfl) (fun _ _ _ h => h) (Or.inl ⟨by rfl, ?ym33_4⟩) hS ?_
    case ym33_4 => intro wx hSw; (go_simp) <;> with_reducible rfl
    simp only [Act.put, sP1, sP2, sP3]
    refine Flo.takeAt (i := 5) (d := some 111) (v := ?vm34_5) rfl (by rfl) (by kernel_rfl) (by kernel_rfl) (by kernel_rfl) (fun _ _ _ h => h) (Or.inl ⟨by rfl, ?ym34_5⟩) hS ?_
    case ym34_5 => intro wx hSw; (go_simp) <;> with_reducible rfl
    simp only [Act.put, sP1, sP2, sP3]
    refine wpAnyH_ready (rs := [1, 2]) (by kernel_rfl) (by simp) ?_
    refine AllReadyH.cons rfl (fun K hK => ?_) (AllReadyH.cons rfl (fun K hK => ?_) AllReadyH.nil)
    ·go_simp
     refine (CK3.out _ s0).mono ?_
     rintro e w21 ⟨rfl, hb1⟩
     have sc1 := View.more s0 hb1
     go_wp2_with fail
     refine hK.out _ _ sc1 (fun _ => ?_)
     clear hK K
     replace hS := sc1
     try simp only [Act.put, sP1, sP2, sP3]
     refine wpAnyH_ready (rs := [2]) (by kernel_rfl) (by simp) ?_
     refine AllReadyH.cons rfl (fun K hK => ?_) AllReadyH.nil
     go_simp
     refine hK.out _ _ (new sc1 (.cells #[.int .i64 2, .int .i64 1, .int .i64 3, .int .i64 4] 44)) (fun _ => ?_)
     clear hK K
     replace hS := (new sc1 (.cells #[.int .i64 2, .int .i64 1, .int .i64 3, .int .i64 4] 44))
     try simp only [Act.put, sP1, sP2, sP3]
     have sn2 := new sc1 (.cells #[.int .i64 2, .int .i64 1, .int .i64 3, .int .i64 4] 44)
     refine Flo.takeAt (i := 6) (d := some 112) (v := ?vm35_6) rfl (by rfl) (by kernel_rfl) (by kernel_rfl) (by kernel_rfl) (fun _ _ _ h => h) (Or.inl ⟨by rfl, ?ym35_6⟩) hS ?_
     case ym35_6 => intro wx hSw; (go_simp) <;> with_reducible rfl
     simp only [Act.put, sP1, sP2, sP3]
     refine wpAnyH_ready (rs := [7]) (by kernel_rfl) (by simp) ?_
     refine AllReadyH.cons rfl (fun K hK => ?_) AllReadyH.nil
     go_simp
     refine hK.out _ _ sn2 (fun _ => ?_)
     clear hK K
     replace hS := sn2
     try simp only [Act.put, sP1, sP2, sP3]
     refine Flo.takeAt (i := 8) (d := some 114) (v := ?vm36_8) rfl (by rfl) (by kernel_rfl) (by kernel_rfl) (by kernel_rfl) (fun _ _ _ h => h) (Or.inl ⟨by rfl, ?ym36_8⟩) hS ?_
     case ym36_8 => intro wx hSw; (go_simp) <;> with_reducible rfl
     simp only [Act.put, sP1, sP2, sP3]
     refine Flo.takeAt (i := 9) (d := some 6) (v := ?vm37_9) rfl (by rfl) (by kernel_rfl) (by kernel_rfl) (by kernel_rfl) (fun _ _ _ h => h) (Or.inl ⟨by rfl, ?ym37_9⟩) hS ?_
     case ym37_9 => intro wx hSw; (go_simp) <;> with_reducible rfl
     simp only [Act.put, sP1, sP2, sP3]
     refine wpAnyH_done (by kernel_rfl) ?_ _
     refine NoPanic.normal ?_
     go_wp2_with fail
     go_ret
     exact ⟨rfl, FIN.out _ (View.more LO.out sn2)⟩
    ·go_simp
     refine hK.out _ _ sa (fun _ => ?_)
     clear hK K
     replace hS := sa
     try simp only [Act.put, sP1, sP2, sP3]
     refine Flo.takeAt (i := 6) (d := some 112) (v := ?vm38_6) rfl (by rfl) (by kernel_rfl) (by kernel_rfl) (by kernel_rfl) (fun _ _ _ h => h) (Or.inl ⟨by rfl, ?ym38_6⟩) hS ?_
     case ym38_6 => intro wx hSw; (go_simp) <;> with_reducible rfl
     simp only [Act.put, sP1, sP2, sP3]
     refine wpAnyH_ready (rs := [1, 7]) (by kernel_rfl) (by simp) ?_
     refine AllReadyH.cons rfl (fun K hK => ?_) (AllReadyH.cons rfl (fun K hK => ?_) AllReadyH.nil)
     ·go_simp
      refine (CK3.out _ sa).mono ?_
      rintro e w21 ⟨rfl, hb1⟩
      have sc1 := View.more sa hb1
      have cb1 := cell_on hb1 ca
      go_wp2_with fail
      refine hK.out _ _ sc1 (fun _ => ?_)
      clear hK K
      replace hS := sc1
      try simp only [Act.put, sP1, sP2, sP3]
      refine wpAnyH_ready (rs := [7]) (by kernel_rfl) (by simp) ?_
      refine AllReadyH.cons rfl (fun K hK => ?_) AllReadyH.nil
      go_simp
      refine hK.out _ _ sc1 (fun _ => ?_)
      clear hK K
      replace hS := sc1
      try simp only [Act.put, sP1, sP2, sP3]
      refine Flo.takeAt (i := 8) (d := some 114) (v := ?vm39_8) rfl (by rfl) (by kernel_rfl) (by kernel_rfl) (by kernel_rfl) (fun _ _ _ h => h) (Or.inl ⟨by rfl, ?ym39_8⟩) hS ?_
      case ym39_8 => intro wx hSw; (go_simp) <;> with_reducible rfl
      simp only [Act.put, sP1, sP2, sP3]
      refine Flo.takeAt (i := 9) (d := some 6) (v := ?vm310_9) rfl (by rfl) (by kernel_rfl) (by kernel_rfl) (by kernel_rfl) (fun _ _ _ h => h) (Or.inl ⟨by rfl, ?ym310_9⟩) hS ?_
      case ym310_9 => intro wx hSw; (go_simp) <;> with_reducible rfl
      simp only [Act.put, sP1, sP2, sP3]
      refine wpAnyH_done (by kernel_rfl) ?_ _
      refine NoPanic.normal ?_
      go_wp2_with fail
      go_ret
      exact ⟨rfl, FIN.out _ (View.more LO.out sc1)⟩
     ·go_simp
      refine hK.out _ _ sa (fun _ => ?_)
      clear hK K
      replace hS := sa
      try simp only [Act.put, sP1, sP2, sP3]
      refine wpAnyH_ready (rs := [1]) (by kernel_rfl) (by simp) ?_
      refine AllReadyH.cons rfl (fun K hK => ?_) AllReadyH.nil
      go_simp
      refine (CK3.out _ sa).mono ?_
      rintro e w21 ⟨rfl, hb1⟩
      have sc1 := View.more sa hb1
      have cb1 := cell_on hb1 ca
      go_wp2_with fail
      refine hK.out _ _ sc1 (fun _ => ?_)
      clear hK K
      replace hS := sc1
      try simp only [Act.put, sP1, sP2, sP3]
      refine Flo.takeAt (i := 8) (d := some 114) (v := ?vm311_8) rfl (by rfl) (by kernel_rfl) (by kernel_rfl) (by kernel_rfl) (fun _ _ _ h => h) (Or.inl ⟨by rfl, ?ym311_8⟩) hS ?_
      case ym311_8 => intro wx hSw; (go_simp) <;> with_reducible rfl
      simp only [Act.put, sP1, sP2, sP3]
      refine Flo.takeAt (i := 9) (d := some 6) (v := ?vm312_9) rfl (by rfl) (by kernel_rfl) (by kernel_rfl) (by kernel_rfl) (fun _ _ _ h => h) (Or.inl ⟨by rfl, ?ym312_9⟩) hS ?_
      case ym312_9 => intro wx hSw; (go_simp) <;> with_reducible rfl
      simp only [Act.put, sP1, sP2, sP3]
      refine wpAnyH_done (by kernel_rfl) ?_ _
      refine NoPanic.normal ?_
      go_wp2_with fail
      go_ret
      exact ⟨rfl, FIN.out _ (View.more LO.out sc1)⟩

end Go.Proofs.YtnodofbpogcheaaGreat.Wf
