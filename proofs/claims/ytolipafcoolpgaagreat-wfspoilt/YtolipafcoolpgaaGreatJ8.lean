/-
  Wfe, Wff, Wfl: laid together.
-/
import Derived.Test.YtolipafcoolpgaaGreatWfd
import Derived.Test.YtolipafcoolpgaaGreatChkM
import Derived.Test.YtolipafcoolpgaaGreatChkW
/-
  wf: may an instruction be, whatever stands beside it? Plainly.
-/
namespace Go.Proofs.YtolipafcoolpgaaGreat.Wf
open Go.RowKit View Rd Num Opn Copy Ty Srt Go.Proofs.YtolipafcoolpgaaGreat.Mod Chk

set_option linter.unusedVariables false

set_option maxHeartbeats 4000000 in
theorem form_iff {v : IV} (h1 : 1 ≤ v.op) (h2 : v.op ≤ 30) : formB v = false ↔ CountG v (mk v.op) ∨ ExtraG v (mk v.op) ∨ GiveG v := by
 have h : v.op = 1 ∨ v.op = 2 ∨ v.op = 3 ∨ v.op = 4 ∨ v.op = 5 ∨ v.op = 6 ∨ v.op = 7 ∨ v.op = 8 ∨ v.op = 9 ∨ v.op = 10 ∨ v.op = 11 ∨ v.op = 12 ∨ v.op = 13 ∨ v.op = 14 ∨ v.op = 15 ∨ v.op = 16 ∨ v.op = 17 ∨ v.op = 18 ∨ v.op = 19 ∨ v.op = 20 ∨ v.op = 21 ∨ v.op = 22 ∨ v.op = 23 ∨ v.op = 24 ∨ v.op = 25 ∨ v.op = 26 ∨ v.op = 27 ∨ v.op = 28 ∨ v.op = 29 ∨ v.op = 30 := by omega
 rw [← Bool.not_eq_true]
 rcases h with h | h | h | h | h | h | h | h | h | h | h | h | h | h | h | h | h | h | h | h | h | h | h | h | h | h | h | h | h | h
 all_goals
  by_cases h0 : v.ty = 0 <;> simp [formB, swB, CountG, ExtraG, GiveG, mustB, mayB, noTB, endB, h, h0, mk] <;> omega

set_option maxHeartbeats 2000000 in
theorem insFormFault_any (v : IV) (w : World) : Calls Tryz.prog 159 #[v.val] w fun e w' => Ans (fun r => r = true ↔ ¬ formB v = true) w e w' := by
 have LOW : Hid (v.op < 1 → ¬ formB v = true) := fun h => by simp [formB]; omega
 have HIGH : Hid (30 < v.op → ¬ formB v = true) := fun h => by simp [formB]; omega
 by_cases h1 : v.op < 1
 ·have t1 : decide (v.op < 1) = true := by simpa using h1
  have D := hid (LOW.out h1)
  clear h1
  go_enter Tryz.func159, Tryz.ntmps159
  go_wp2_with fail
  go_ret
  exact ⟨true, rfl, ⟨fun _ => D.out, fun _ => rfl⟩, new (same w) _⟩
 have t1 : decide (v.op < 1) = false := by simpa using h1
 by_cases h2 : 30 < v.op
 ·have t2 : decide (30 < v.op) = true := by simpa using h2
  have D := hid (HIGH.out h2)
  clear h1 h2
  go_enter Tryz.func159, Tryz.ntmps159
  go_wp2_with fail
  go_ret
  exact ⟨true, rfl, ⟨fun _ => D.out, fun _ => rfl⟩, new (same w) _⟩
 have t2 : decide (30 < v.op) = false := by simpa using h2
 have FI := hid (show ¬ formB v = true ↔ CountG v (mk v.op) ∨ ExtraG v (mk v.op) ∨ GiveG v by rw [Bool.not_eq_true]; exact form_iff (by omega) (by omega))
 clear h1 h2 LOW HIGH
 go_enter Tryz.func159, Tryz.ntmps159
 go_wp2_with fail
 refine (countFault_any v _).mono ?_
 rintro e w1 ⟨r1, rfl, hr1, hb1⟩
 have R1 := hid hr1
 have I1 := hid ((InsAt.alloc w v).on hb1)
 have B1 := hid (View.more (new (same w) _) hb1)
 clear hr1 hb1
 cases r1 with
 | true =>
  have D := hid (FI.out.2 (.inl (R1.out.1 rfl)))
  go_wp2_with fail
  go_ret
  exact ⟨true, rfl, ⟨fun _ => D.out, fun _ => rfl⟩, B1.out⟩
 | false =>
 have N1 := hid (show ¬ CountG v (mk v.op) from fun h => absurd (R1.out.2 h) (by simp))
 obtain ⟨c0, c1, c2, c3, c4, c5, c6⟩ := I1.out
 go_wp2_with fail
 refine (extraFault_any v _).mono ?_
 rintro e w2 ⟨r2, rfl, hr2, hb2⟩
 have R2 := hid hr2
 have I2 := hid (I1.out.on hb2)
 have B2 := hid (View.more B1.out hb2)
 clear hr2 hb2 c0 c1 c2 c3 c4 c5 c6
 cases r2 with
 | true =>
  have D := hid (FI.out.2 (.inr (.inl (R2.out.1 rfl))))
  go_wp2_with fail
  go_ret
  exact ⟨true, rfl, ⟨fun _ => D.out, fun _ => rfl⟩, B2.out⟩
 | false =>
 have N2 := hid (show ¬ ExtraG v (mk v.op) from fun h => absurd (R2.out.2 h) (by simp))
 obtain ⟨c0, c1, c2, c3, c4, c5, c6⟩ := I2.out
 go_wp2_with fail
 refine (giveFault_any v _).mono ?_
 rintro e w3 ⟨r3, rfl, hr3, hb3⟩
 have R3 := hid hr3
 have B3 := hid (View.more B2.out hb3)
 clear hr3 hb3 c0 c1 c2 c3 c4 c5 c6
 go_wp2_with fail
 go_ret
 refine ⟨r3, rfl, ?_, B3.out⟩
 show r3 = true ↔ ¬ formB v = true
 rw [FI.out, R3.out]
 exact ⟨fun h => .inr (.inr h), fun h => by
  rcases h with h | h | h
  ·exact absurd h N1.out
  ·exact absurd h N2.out
  ·exact h⟩

theorem inner_ans (x : Int) (w : World) : Calls Tryz.prog 118 #[.int .i64 x] w fun e w' => Ans (fun r => r = true ↔ ¬ (x = 1 ∨ x = 2)) w e w' :=
 (isInner_any x w).mono fun e w' ⟨h1, h2⟩ => ⟨_, h1, by unfold innB; simp, by rw [h2]; exact same w⟩

theorem noType_ans (x : Int) (w : World) : Calls Tryz.prog 119 #[.int .i64 x] w fun e w' => Ans (fun r => r = true ↔ ¬ (1 ≤ x ∧ x ≤ 4)) w e w' :=
 (isNoType_any x w).mono fun e w' ⟨h1, h2⟩ => ⟨_, h1, by unfold noTB; simp; omega, by rw [h2]; exact same w⟩

theorem blockForm_any (s : Sl) (I : Nat → IV) (w : World) (hs : Inss w s I) (hn : s.n ≤ 1000) : Calls Tryz.prog 122 #[.agg #[.slice s.a s.n s.c]] w fun e w' => Ans (fun r => r = true ↔ ∃ k, k < s.n ∧ ¬ formB (I k) = true) w e w' := by
 have HS := hid hs
 clear hs
 go_enter Tryz.func122, Tryz.ntmps122
 go_wp2_with fail
 refine (has_formI s I (fun k => ¬ formB (I k) = true) _ hn (fun wx h => HS.out.on (View.more (new (same w) _) h)) (fun k hk wx h => insFormFault_any (I k) wx)).mono ?_
 rintro e w1 ⟨r, rfl, hr, hb⟩
 have R := hid hr
 have B := hid (View.more (new (same w) _) hb)
 clear hr hb
 go_wp2_with fail
 go_ret
 exact ⟨r, rfl, R.out, B.out⟩

set_option maxHeartbeats 1000000 in
theorem externForm_any (M : MV) (t : Nat) (w : World) (hp : Ints w (M.E t).par (M.EP t)) (hn : (M.E t).par.n ≤ 1000) : Calls Tryz.prog 71 #[.agg #[.string (M.E t).name, .slice (M.E t).par.a (M.E t).par.n (M.E t).par.c, .int .i64 (M.E t).res]] w fun e w' => Ans (fun r => r = true ↔ ¬ FormE M t) w e w' := by
 have HP := hid hp
 clear hp
 obtain ⟨v, hv⟩ : ∃ v, M.E t = v := ⟨_, rfl⟩
 have DE := hid (show FormE M t ↔ 0 ≤ v.res ∧ v.res ≤ 2 ∧ ∀ k, k < v.par.n → M.EP t k = 1 ∨ M.EP t k = 2 by unfold FormE; rw [hv])
 rw [hv] at HP hn ⊢
 clear hv
 have ec : ∀ w1, Below (w.alloc (.cells #[.string v.name, .slice v.par.a v.par.n v.par.c, .int .i64 v.res] 65)).heap.size (w.alloc (.cells #[.string v.name, .slice v.par.a v.par.n v.par.c, .int .i64 v.res] 65)) w1 → w1.cell? ⟨w.heap.size, 2, none⟩ = some (.int .i64 v.res) := fun w1 h => cell_on h (by simp)
 have EC := hid ec
 clear ec
 go_enter Tryz.func71, Tryz.ntmps71
 go_wp2_with fail
 refine (has_inn v.par (M.EP t) (fun k => ¬ (M.EP t k = 1 ∨ M.EP t k = 2)) _ hn (fun wx h => HP.out.on (View.more (new (same w) _) h)) (fun k hk wx h => inner_ans (M.EP t k) wx)).mono ?_
 rintro e w1 ⟨r, rfl, hr, hb⟩
 have R := hid hr
 have B := hid (View.more (new (same w) _) hb)
 have c2 := EC.out w1 hb
 clear hr hb EC
 cases r with
 | true =>
  have D := hid (show ¬ FormE M t from fun h => by obtain ⟨k, h1, h2⟩ := R.out.1 rfl; exact h2 ((DE.out.1 h).2.2 k h1))
  go_wp2_with fail
  go_ret
  exact ⟨true, rfl, ⟨fun _ => D.out, fun _ => rfl⟩, B.out⟩
 | false =>
 have P1 := hid (show ∀ k, k < v.par.n → M.EP t k = 1 ∨ M.EP t k = 2 from fun k hk => by
  by_cases q : M.EP t k = 1 ∨ M.EP t k = 2
  ·exact q
  ·exact absurd (R.out.2 ⟨k, hk, q⟩) (by simp))
 clear R
 by_cases h0 : v.res = 0
 ·have t0 : (v.res != 0) = false := by simp [h0]
  have D := hid (show FormE M t from DE.out.2 ⟨by omega, by omega, P1.out⟩)
  clear h0
  go_wp2_with fail
  go_ret
  exact ⟨false, rfl, ⟨(fun h => by cases h), (fun h => absurd D.out h)⟩, B.out⟩
 have t0 : (v.res != 0) = true := by simp [h0]
 go_wp2_with fail
 refine (inner_ans v.res _).mono ?_
 rintro e w2 ⟨r, rfl, hr, hb⟩
 have R := hid hr
 have B2 := hid (View.more B.out hb)
 have H0 := hid h0
 clear hr hb h0
 go_wp2_with fail
 go_ret
 refine ⟨r, rfl, ?_, B2.out⟩
 show r = true ↔ ¬ FormE M t
 rw [R.out, DE.out]
 have := H0.out
 constructor
 ·rintro h ⟨h1, h2, _⟩
  omega
 ·intro h q
  exact h ⟨by omega, by omega, P1.out⟩

set_option maxHeartbeats 4000000 in
theorem funcForm_any (F : FV) (w : World) (hF : In w F) (hl : Light F) : Calls Tryz.prog 72 #[F.val] w fun e w' => Ans (fun r => r = true ↔ ¬ FormF F) w e w' := by
 have HF := hid hF
 have HL := hid hl
 have gp := hl.par
 have gb := hl.blk
 clear hF hl
 go_enter Tryz.func72, Tryz.ntmps72
 go_wp2_with fail
 refine (has_noT F.par F.P (fun k => ¬ (1 ≤ F.P k ∧ F.P k ≤ 4)) _ (by omega) (fun wx h => HF.out.par.on (View.more (new (same w) _) h)) (fun k hk wx h => noType_ans (F.P k) wx)).mono ?_
 rintro e w1 ⟨r, rfl, hr, hb⟩
 have R := hid hr
 have B1 := hid (View.more (new (same w) _) hb)
 have F1 := hid ((FuncAt.alloc w F).on hb)
 clear hr hb
 cases r with
 | true =>
  have D := hid (show ¬ FormF F from fun h => by obtain ⟨k, h1, h2⟩ := R.out.1 rfl; have := h.2.1 k h1; exact h2 ⟨this.1, this.2.1⟩)
  go_wp2_with fail
  go_ret
  exact ⟨true, rfl, ⟨fun _ => D.out, fun _ => rfl⟩, B1.out⟩
 | false =>
 have P1 := hid (show ∀ k, k < F.par.n → 1 ≤ F.P k ∧ F.P k ≤ 4 from fun k hk => by
  by_cases q : 1 ≤ F.P k ∧ F.P k ≤ 4
  ·exact q
  ·exact absurd (R.out.2 ⟨k, hk, q⟩) (by simp))
 clear R
 obtain ⟨c0, c1, c2, c3, c4⟩ := F1.out
 go_wp2_with fail
 refine (isNoResult_any F.res _).mono ?_
 rintro e w2 ⟨rfl, rfl⟩
 have NR := hid (show noRB F.res = true ↔ ¬ (0 ≤ F.res ∧ F.res ≤ 4 ∧ F.res ≠ 3) by unfold noRB noTB; simp; omega)
 cases hq : noRB F.res with
 | true =>
  have D := hid (show ¬ FormF F from fun h => NR.out.1 hq ⟨h.1.1, h.1.2.1, h.1.2.2.1⟩)
  clear hq
  go_wp2_with fail
  go_ret
  exact ⟨true, rfl, ⟨fun _ => D.out, fun _ => rfl⟩, B1.out⟩
 | false =>
 have P2 := hid (show 0 ≤ F.res ∧ F.res ≤ 4 ∧ F.res ≠ 3 from by
  by_cases q : 0 ≤ F.res ∧ F.res ≤ 4 ∧ F.res ≠ 3
  ·exact q
  ·have := NR.out.2 q; rw [hq] at this; cases this)
 clear hq NR
 have LAST : Hid (∀ wx, Below w2.heap.size w2 wx → (F.out = true → F.res ≤ 2 ∧ ∀ k, k < F.par.n → F.P k ≤ 2) → Calls Tryz.prog 121 #[.slice F.blk.a F.blk.n F.blk.c, .func (.func 122) #[] #[]] wx fun e w' => Ans (fun r => r = true ↔ ¬ FormF F) wx e w') := fun wx hb ho => by
  refine (has_formB F.blk F.B (fun j => ∃ k, k < (F.B j).n ∧ ¬ formB (F.I j k) = true) wx (by omega) (fun wy h => HF.out.blk.on (View.more (View.more B1.out hb) h)) (fun j hj wy h => blockForm_any (F.B j) (F.I j) wy ((HF.out.ins j hj).on (View.more (View.more B1.out hb) h)) (by have := HL.out.ins j hj; omega))).mono ?_
  rintro e w' ⟨r, h1, h2, h3⟩
  refine ⟨r, h1, ?_, h3⟩
  show r = true ↔ ¬ FormF F
  rw [h2]
  constructor
  ·rintro ⟨j, hj, k, hk, hn⟩ h
   exact hn (h.2.2 j hj k hk)
  ·intro h
   by_cases q : ∃ j, j < F.blk.n ∧ ∃ k, k < (F.B j).n ∧ ¬ formB (F.I j k) = true
   ·exact q
   ·refine absurd ⟨⟨P2.out.1, P2.out.2.1, P2.out.2.2, fun o => (ho o).1⟩, fun k hk => ⟨(P1.out k hk).1, (P1.out k hk).2, fun o => (ho o).2 k hk⟩, fun j hj k hk => ?_⟩ h
    cases z : formB (F.I j k) with
    | true => rfl
    | false => exact absurd ⟨j, hj, k, hk, by rw [z]; simp⟩ q
 cases ho : F.out with
 | false =>
  rw [ho] at c1
  have NO := hid ho
  clear ho
  go_wp2_with fail
  refine (LAST.out _ (same _) (fun o => by rw [NO.out] at o; cases o)).mono ?_
  rintro e w3 ⟨r, rfl, hr, hb⟩
  have R := hid hr
  have B3 := hid (View.more B1.out hb)
  clear hr hb c0 c1 c2 c3 c4
  go_wp2_with fail
  go_ret
  exact ⟨r, rfl, R.out, B3.out⟩
 | true =>
 rw [ho] at c1
 have YO := hid ho
 clear ho
 go_wp2_with fail
 refine (has_inn F.par F.P (fun k => ¬ (F.P k = 1 ∨ F.P k = 2)) _ (by omega) (fun wx h => HF.out.par.on (View.more B1.out h)) (fun k hk wx h => inner_ans (F.P k) wx)).mono ?_
 rintro e w3 ⟨r, rfl, hr, hb⟩
 have R := hid hr
 have C3 := hid hb
 have F3 := hid (F1.out.on hb)
 clear hr hb c0 c1 c2 c3 c4
 cases r with
 | true =>
  have D := hid (show ¬ FormF F from fun h => by obtain ⟨k, h1, h2⟩ := R.out.1 rfl; have := h.2.1 k h1; have := this.2.2 YO.out; have := (P1.out k h1).1; omega)
  go_wp2_with fail
  go_ret
  exact ⟨true, rfl, ⟨fun _ => D.out, fun _ => rfl⟩, View.more B1.out C3.out⟩
 | false =>
 have P3 := hid (show ∀ k, k < F.par.n → F.P k ≤ 2 from fun k hk => by
  by_cases q : F.P k = 1 ∨ F.P k = 2
  ·omega
  ·exact absurd (R.out.2 ⟨k, hk, q⟩) (by simp))
 clear R
 obtain ⟨c0, c1, c2, c3, c4⟩ := F3.out
 by_cases h0 : F.res = 0
 ·have t0 : (F.res != 0) = false := by simp [h0]
  have OO := hid (show F.out = true → F.res ≤ 2 ∧ ∀ k, k < F.par.n → F.P k ≤ 2 from fun _ => ⟨by omega, P3.out⟩)
  clear h0
  go_wp2_with fail
  refine (LAST.out _ C3.out OO.out).mono ?_
  rintro e w4 ⟨r, rfl, hr, hb⟩
  have R := hid hr
  have B4 := hid (View.more (View.more B1.out C3.out) hb)
  clear hr hb c0 c1 c2 c3 c4
  go_wp2_with fail
  go_ret
  exact ⟨r, rfl, R.out, B4.out⟩
 have t0 : (F.res != 0) = true := by simp [h0]
 go_wp2_with fail
 refine (inner_ans F.res _).mono ?_
 rintro e w4 ⟨r, rfl, hr, hb⟩
 have R := hid hr
 have C4 := hid (View.more C3.out hb)
 have F4 := hid (F3.out.on hb)
 have H0 := hid h0
 clear hr hb c0 c1 c2 c3 c4 h0
 cases r with
 | true =>
  have D := hid (show ¬ FormF F from fun h => by have := R.out.1 rfl; have := h.1.2.2.2 YO.out; have := h.1.1; have := H0.out; omega)
  go_wp2_with fail
  go_ret
  exact ⟨true, rfl, ⟨fun _ => D.out, fun _ => rfl⟩, View.more B1.out C4.out⟩
 | false =>
 have OO := hid (show F.out = true → F.res ≤ 2 ∧ ∀ k, k < F.par.n → F.P k ≤ 2 from fun _ => ⟨by
  by_cases q : F.res = 1 ∨ F.res = 2
  ·omega
  ·exact absurd (R.out.2 q) (by simp), P3.out⟩)
 clear R
 obtain ⟨c0, c1, c2, c3, c4⟩ := F4.out
 go_wp2_with fail
 refine (LAST.out _ C4.out OO.out).mono ?_
 rintro e w5 ⟨r, rfl, hr, hb⟩
 have R := hid hr
 have B5 := hid (View.more (View.more B1.out C4.out) hb)
 clear hr hb c0 c1 c2 c3 c4
 go_wp2_with fail
 go_ret
 exact ⟨r, rfl, R.out, B5.out⟩

set_option maxHeartbeats 2000000 in
theorem formFault_any (M : MV) (w : World) (hM : InM w M) (hs : SmallM M) : Calls Tryz.prog 27 #[M.val] w fun e w' => Ans (fun r => r = true ↔ ¬ FormM M) w e w' := by
 have x1 := hs.ext
 have x4 := hs.fns
 obtain ⟨W, hW⟩ : ∃ W, w.alloc (.cells (mcells M) 27) = W := ⟨_, rfl⟩
 have BX := hid (show W.cell? ⟨w.heap.size, 3, none⟩ = some (.slice M.fns.a M.fns.n M.fns.c) by rw [← hW]; simp)
 have HM := hid (show InM W M by rw [← hW]; exact hM.on (new (same w) _))
 have LW := hid (show Below w.heap.size w W by rw [← hW]; exact new (same w) _)
 have HS := hid hs
 have HWW := hid hW
 clear hM hs hW
 go_enter Tryz.func27, Tryz.ntmps27
 go_wp2_with fail
 simp only [HWW.out]
 refine (has_formE M.ext M.E (fun i => ¬ FormE M i) W (by omega) (fun wx h => (HM.out.on h).ext) (fun i hi wx h => externForm_any M i wx ((HM.out.on h).extP i hi) (by have := (HS.out.extI i hi).2; omega))).mono ?_
 rintro e w1 ⟨r, rfl, hr, hb⟩
 have B1 := hid hb
 have R := hid hr
 clear hr hb
 cases r with
 | true =>
  have D := hid (show ¬ FormM M from fun h => by obtain ⟨i, h1, h2⟩ := R.out.1 rfl; exact h2 (h.ext i h1))
  go_wp2_with fail
  go_ret
  exact ⟨true, rfl, ⟨fun _ => D.out, fun _ => rfl⟩, View.more LW.out B1.out⟩
 | false =>
 have P1 := hid (show ∀ i, i < M.ext.n → FormE M i from fun i hi => by
  by_cases q : FormE M i
  ·exact q
  ·exact absurd (R.out.2 ⟨i, hi, q⟩) (by simp))
 clear R
 have m3 := cell_on B1.out BX.out
 go_wp2_with fail
 refine (has_formF M.fns M.F (fun i => ¬ FormF (M.F i)) _ (by omega) (fun wx h => (HM.out.on (View.more B1.out h)).fns) (fun i hi wx h => funcForm_any (M.F i) wx ((HM.out.on (View.more B1.out h)).fnI i hi) (HS.out.light i hi))).mono ?_
 rintro e w2 ⟨r, rfl, hr, hb⟩
 have B2 := hid (View.more B1.out hb)
 have R := hid hr
 clear hr hb m3
 go_wp2_with fail
 go_ret
 refine ⟨r, rfl, ?_, View.more LW.out B2.out⟩
 show r = true ↔ ¬ FormM M
 rw [R.out]
 constructor
 ·rintro ⟨i, h1, h2⟩ h
  exact h2 (h.fns i h1)
 ·intro h
  by_cases q : ∃ i, i < M.fns.n ∧ ¬ FormF (M.F i)
  ·exact q
  ·exact absurd ⟨P1.out, fun i hi => by
    by_cases z : FormF (M.F i)
    ·exact z
    ·exact absurd ⟨i, hi, z⟩ q⟩ h

end Go.Proofs.YtolipafcoolpgaaGreat.Wf

/-
  wf: a block's row, and where its end leads.
-/
namespace Go.Proofs.YtolipafcoolpgaaGreat.Wf
open Go.RowKit View Rd Num Opn Copy Srt Go.Proofs.YtolipafcoolpgaaGreat.Mod Chk

set_option linter.unusedVariables false

def RowI (s : Sl) (I : Nat → IV) (k : Nat) : Prop := endB (I k).op = decide (k = s.n - 1) ∧ ¬ (0 < k ∧ (I k).op = 26 ∧ (I (k - 1)).op ≠ 26)
def RowB (s : Sl) (I : Nat → IV) : Prop := 1 ≤ s.n ∧ ∀ k, k < s.n → RowI s I k

set_option maxRecDepth 10000 in
set_option maxHeartbeats 4000000 in
theorem rowFault_any (s : Sl) (I : Nat → IV) (w : World) (hs : Inss w s I) (hn : s.n ≤ 1000) : Calls Tryz.prog 125 #[.agg #[.slice s.a s.n s.c]] w fun e w' => Ans (fun r => r = true ↔ ¬ RowB s I) w e w' := by
 obtain ⟨W, hW⟩ : ∃ W, w.alloc (.cells #[.slice s.a s.n s.c] 40) = W := ⟨_, rfl⟩
 have BX := hid (show W.cell? ⟨w.heap.size, 0, none⟩ = some (.slice s.a s.n s.c) by rw [← hW]; simp)
 have m0 := BX.out
 have HS := hid (show Inss W s I by rw [← hW]; exact hs.on (new (same w) _))
 have LW := hid (show Below w.heap.size w W by rw [← hW]; exact new (same w) _)
 have HWW := hid hW
 have YES := hid (show ∀ wx, Below W.heap.size W wx → ¬ RowB s I → Ans (fun r => r = true ↔ ¬ RowB s I) w (.returned (.bool true)) wx from fun wx h hn => ⟨true, rfl, by simp [hn], View.more LW.out h⟩)
 clear hs hW
 have e0 : ((s.n : Int) == 0) = decide (s.n = 0) := by rw [Bool.eq_iff_iff]; simp
 have wr1 : IntKind.i64.wrap ((s.n : Int) - 1) = (s.n : Int) - 1 := by simp only [IntKind.wrap_i64]; omega
 have wr2 : wrap64 ((s.n : Int) - 1) = (s.n : Int) - 1 := by unfold wrap64; omega
 have E0 := hid e0
 clear e0
 go_enter Tryz.func125, Tryz.ntmps125
 go_wp2_with fail
 simp only [HWW.out]
 clear HWW
 go_loopw [9] (fun iv wr => ∃ k : Nat, k ≤ s.n ∧ iv = .int .i64 k ∧ (∀ t, t < k → RowI s I t) ∧ Below W.heap.size W wr) (fun iv _ => s.n - (intOf iv).toNat)
 case atStart => exact ⟨0, Nat.zero_le _, rfl, fun t ht => by omega, same _⟩
 case round =>
  obtain ⟨k, hk0, rfl, hall, hb⟩ := hrel
  have HK := hid (And.intro hall hb)
  have m0 := cell_on hb BX.out
  have hbz := World.block_lt_of_cell? _ _ m0
  by_cases lk : k < s.n
  ·obtain ⟨ib, io, hiy, c0, c1, c2, c3, c4, c5, c6⟩ := (HS.out.on hb).at lk
   clear hall hb
   obtain ⟨v, hv⟩ : ∃ v, I k = v := ⟨_, rfl⟩
   rw [hv] at c0 c1 c2 c3 c4 c5 c6
   have HV := hid hv
   clear hv
   have L2 := hid (show Below W.heap.size W (wr.alloc (.cells v.cells 43)) from new HK.out.2 _)
   have ec : ∀ w1, Below (wr.alloc (.cells v.cells 43)).heap.size (wr.alloc (.cells v.cells 43)) w1 → w1.cell? ⟨wr.heap.size, 0, none⟩ = some (.int .i64 v.op) := fun w1 h => cell_on h (by simp)
   have EC := hid ec
   clear ec
   have ENDS := hid (endsW_any v.op)
   by_cases hkl : k = s.n - 1
   ·have qk : ((k : Int) == (s.n : Int) - 1) = true := by simp; omega
    cases hE : endB v.op with
    | true =>
     have HEQ := hid (show endB (I k).op = decide (k = s.n - 1) by rw [HV.out, hE]; simp [hkl])
     clear hkl
     by_cases h26 : v.op = 26
     ·have t26 : (v.op == 26) = true := by simp [h26]
      have HOP := hid h26
      clear h26
      rcases Nat.eq_zero_or_pos k with hkz | hk1
      ·have d0 : decide ((0 : Int) < (k : Int)) = false := by simp; omega
       have d1 : decide (0 < k) = false := by simp; omega
       have HI := hid (show RowI s I k from ⟨HEQ.out, fun h => absurd h.1 (by omega)⟩)
       clear hkz
       go_wp2_with fail
       refine (ENDS.out _).mono ?_
       rintro e w9 ⟨rfl, hw9⟩
       rw [hw9, hE]
       clear hw9
       go_wp2_with fail
       go_round
       case rel => exact ⟨k + 1, by omega, by go_num, upto1 HK.out.1 HI.out, L2.out⟩
       case measure => simp [intOf]; omega
      ·have d0 : decide ((0 : Int) < (k : Int)) = true := by simp; omega
       have d1 : decide (0 < k) = true := by simp; omega
       obtain ⟨i, hi⟩ : ∃ i, k = i + 1 := ⟨k - 1, by omega⟩
       obtain ⟨jb, jo, hjy, j0, _⟩ := (HS.out.on L2.out).at (show i < s.n by omega)
       have b5 : IntKind.i64.wrap ((k : Int) - 1) = (i : Int) := by simp only [IntKind.wrap_i64]; omega
       have b6 : wrap64 ((k : Int) - 1) = (i : Int) := by unfold wrap64; omega
       have b7 : (k : Int) - 1 = (i : Int) := by omega
       have HIK := hid hi
       clear hi
       by_cases hp : (I i).op = 26
       ·have t5 : ((I i).op != 26) = false := by simp [hp]
        have HI := hid (show RowI s I k from ⟨HEQ.out, fun h => h.2.2 (by rw [HIK.out, Nat.add_sub_cancel]; exact hp)⟩)
        clear hp
        go_wp2_with fail
        refine (ENDS.out _).mono ?_
        rintro e w9 ⟨rfl, hw9⟩
        rw [hw9, hE]
        clear hw9
        go_wp2_with fail
        go_round
        case rel => exact ⟨k + 1, by omega, by go_num, upto1 HK.out.1 HI.out, L2.out⟩
        case measure => simp [intOf]; omega
       ·have t5 : ((I i).op != 26) = true := by simp [hp]
        have HN := hid (show ¬ RowB s I from fun h => (h.2 k lk).2 ⟨hk1, by rw [HV.out]; exact HOP.out, by rw [HIK.out, Nat.add_sub_cancel]; exact hp⟩)
        clear hp
        go_wp2_with fail
        refine (ENDS.out _).mono ?_
        rintro e w9 ⟨rfl, hw9⟩
        rw [hw9, hE]
        clear hw9
        go_wp2_with fail
        go_ret
        exact YES.out _ L2.out HN.out
     ·have t26 : (v.op == 26) = false := by simp [h26]
      have HI := hid (show RowI s I k from ⟨HEQ.out, fun h => h26 (by rw [← HV.out]; exact h.2.1)⟩)
      clear h26
      go_wp2_with fail
      refine (ENDS.out _).mono ?_
      rintro e w9 ⟨rfl, hw9⟩
      rw [hw9, hE]
      clear hw9
      go_wp2_with fail
      go_round
      case rel => exact ⟨k + 1, by omega, by go_num, upto1 HK.out.1 HI.out, L2.out⟩
      case measure => simp [intOf]; omega
    | false =>
     have HN := hid (show ¬ RowB s I from fun h => by have := (h.2 k lk).1; rw [HV.out, hE] at this; simp [hkl] at this)
     clear hkl
     go_wp2_with fail
     refine (ENDS.out _).mono ?_
     rintro e w9 ⟨rfl, hw9⟩
     rw [hw9, hE]
     clear hw9
     go_wp2_with fail
     go_ret
     exact YES.out _ L2.out HN.out
   ·have qk : ((k : Int) == (s.n : Int) - 1) = false := by simp; omega
    cases hE : endB v.op with
    | true =>
     have HN := hid (show ¬ RowB s I from fun h => by have := (h.2 k lk).1; rw [HV.out, hE] at this; simp [hkl] at this)
     clear hkl
     go_wp2_with fail
     refine (ENDS.out _).mono ?_
     rintro e w9 ⟨rfl, hw9⟩
     rw [hw9, hE]
     clear hw9
     go_wp2_with fail
     go_ret
     exact YES.out _ L2.out HN.out
    | false =>
     have HEQ := hid (show endB (I k).op = decide (k = s.n - 1) by rw [HV.out, hE]; simp [hkl])
     clear hkl
     by_cases h26 : v.op = 26
     ·have t26 : (v.op == 26) = true := by simp [h26]
      have HOP := hid h26
      clear h26
      rcases Nat.eq_zero_or_pos k with hkz | hk1
      ·have d0 : decide ((0 : Int) < (k : Int)) = false := by simp; omega
       have d1 : decide (0 < k) = false := by simp; omega
       have HI := hid (show RowI s I k from ⟨HEQ.out, fun h => absurd h.1 (by omega)⟩)
       clear hkz
       go_wp2_with fail
       refine (ENDS.out _).mono ?_
       rintro e w9 ⟨rfl, hw9⟩
       rw [hw9, hE]
       clear hw9
       go_wp2_with fail
       go_round
       case rel => exact ⟨k + 1, by omega, by go_num, upto1 HK.out.1 HI.out, L2.out⟩
       case measure => simp [intOf]; omega
      ·have d0 : decide ((0 : Int) < (k : Int)) = true := by simp; omega
       have d1 : decide (0 < k) = true := by simp; omega
       obtain ⟨i, hi⟩ : ∃ i, k = i + 1 := ⟨k - 1, by omega⟩
       obtain ⟨jb, jo, hjy, j0, _⟩ := (HS.out.on L2.out).at (show i < s.n by omega)
       have b5 : IntKind.i64.wrap ((k : Int) - 1) = (i : Int) := by simp only [IntKind.wrap_i64]; omega
       have b6 : wrap64 ((k : Int) - 1) = (i : Int) := by unfold wrap64; omega
       have b7 : (k : Int) - 1 = (i : Int) := by omega
       have HIK := hid hi
       clear hi
       by_cases hp : (I i).op = 26
       ·have t5 : ((I i).op != 26) = false := by simp [hp]
        have HI := hid (show RowI s I k from ⟨HEQ.out, fun h => h.2.2 (by rw [HIK.out, Nat.add_sub_cancel]; exact hp)⟩)
        clear hp
        go_wp2_with fail
        refine (ENDS.out _).mono ?_
        rintro e w9 ⟨rfl, hw9⟩
        rw [hw9, hE]
        clear hw9
        go_wp2_with fail
        go_round
        case rel => exact ⟨k + 1, by omega, by go_num, upto1 HK.out.1 HI.out, L2.out⟩
        case measure => simp [intOf]; omega
       ·have t5 : ((I i).op != 26) = true := by simp [hp]
        have HN := hid (show ¬ RowB s I from fun h => (h.2 k lk).2 ⟨hk1, by rw [HV.out]; exact HOP.out, by rw [HIK.out, Nat.add_sub_cancel]; exact hp⟩)
        clear hp
        go_wp2_with fail
        refine (ENDS.out _).mono ?_
        rintro e w9 ⟨rfl, hw9⟩
        rw [hw9, hE]
        clear hw9
        go_wp2_with fail
        go_ret
        exact YES.out _ L2.out HN.out
     ·have t26 : (v.op == 26) = false := by simp [h26]
      have HI := hid (show RowI s I k from ⟨HEQ.out, fun h => h26 (by rw [← HV.out]; exact h.2.1)⟩)
      clear h26
      go_wp2_with fail
      refine (ENDS.out _).mono ?_
      rintro e w9 ⟨rfl, hw9⟩
      rw [hw9, hE]
      clear hw9
      go_wp2_with fail
      go_round
      case rel => exact ⟨k + 1, by omega, by go_num, upto1 HK.out.1 HI.out, L2.out⟩
      case measure => simp [intOf]; omega
  ·obtain rfl : k = s.n := by omega
   clear hall hb
   by_cases h0 : s.n = 0
   ·have t0 : ((s.n : Int) == 0) = true := by simp [h0]
    have t1 : (s.n == 0) = true := by simp [h0]
    have HN := hid (show ¬ RowB s I from fun h => by have := h.1; omega)
    clear h0
    go_wp2_with fail
    go_ret
    exact YES.out _ HK.out.2 HN.out
   ·have t0 : ((s.n : Int) == 0) = false := by simp; omega
    have t1 : (s.n == 0) = false := by simp [h0]
    have HN := hid (show RowB s I from ⟨by omega, HK.out.1⟩)
    clear h0
    go_wp2_with fail
    go_ret
    exact ⟨false, rfl, ⟨fun h => absurd h (by simp), fun h => absurd HN.out h⟩, View.more LW.out HK.out.2⟩

end Go.Proofs.YtolipafcoolpgaaGreat.Wf
