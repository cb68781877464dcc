/-
  wf: whether what an instruction takes is there.
-/
import Derived.Test.YtbmfimojhcdnbaaGreatJ16
namespace Go.Proofs.YtbmfimojhcdnbaaGreat.Wf
open Go.RowKit View Rd Num Opn Copy Srt Go.Proofs.YtbmfimojhcdnbaaGreat.Mod Go.Proofs.YtbmfimojhcdnbaaGreat.Chk Go.Proofs.YtbmfimojhcdnbaaGreat.Flo Go.Proofs.YtbmfimojhcdnbaaGreat.Dm

set_option linter.unusedVariables false

/-- The row of places where values are given. -/
structure Gv (F : FV) (w : World) (O : Nat) (bl pl : Nat → Int) : Prop where
  cb : ∀ v, v ≤ allV F → w.cell? ⟨O, v * 2, none⟩ = some (.int .i64 (bl v))
  cp : ∀ v, v ≤ allV F → w.cell? ⟨O, v * 2 + 1, none⟩ = some (.int .i64 (pl v))
  par : ∀ v, v ≤ F.par.n → bl v = 0 ∧ pl v = -1
  val : ∀ b' k', b' < F.blk.n → k' < (F.B b').n → (F.I b' k').ty ≠ 0 → bl (idx F b' k') = b' ∧ pl (idx F b' k') = k'

theorem Gv.on {F : FV} {w w' : World} {O : Nat} {bl pl : Nat → Int} (h : Gv F w O bl pl) (hb : Below w.heap.size w w') : Gv F w' O bl pl :=
  ⟨fun v hv => cell_on hb (h.cb v hv), fun v hv => cell_on hb (h.cp v hv), h.par, h.val⟩

theorem Gv.useI {F : FV} {w : World} {O : Nat} {bl pl : Nat → Int} (hw : Gv F w O bl pl) {b k i b0 k0 : Nat} (h1 : 1 ≤ F.A b k i) (h2 : F.A b k i ≤ allV F) (hb : b0 < F.blk.n) (hk : k0 < (F.B b0).n) (ht : (F.I b0 k0).ty ≠ 0) (he : F.A b k i = idx F b0 k0) : UseI F b k i ↔ There F b k i b0 k0 := by
  refine ⟨fun h => h.2.2 b0 k0 hb hk ht he, fun h => ⟨h1, h2, fun b' k' a c d e => ?_⟩⟩
  have e2 : idx F b' k' = idx F b0 k0 := by have := he.symm.trans e; omega
  have q1 := hw.val b' k' a c d
  have q2 := hw.val b0 k0 hb hk ht
  rw [e2] at q1
  have r1 : b' = b0 := by have := q1.1.symm.trans q2.1; omega
  have r2 : k' = k0 := by have := q1.2.symm.trans q2.2; omega
  rw [r1, r2]; exact h

theorem dom_zero {F : FV} {b : Nat} (h0 : 0 < F.blk.n) (h : Go.Proofs.YtbmfimojhcdnbaaGreat.Flo.Way (su F) 0 b) : DomR F 0 b := ⟨.refl _, h, .inr fun h => h.1 rfl⟩

/-- What a place answers: the value that stands there is there. -/
def Sees (F : FV) (b k i : Nat) (fb fp : Int) : Prop := (F.I b k).op = 26 ∧ DomR F fb.toNat (F.J b k i).toNat ∨ (F.I b k).op ≠ 26 ∧ (fb = b ∧ fp < k ∨ fb ≠ b ∧ DomR F fb.toNat b)

theorem Gv.sees {F : FV} {w : World} {O : Nat} {bl pl : Nat → Int} (hw : Gv F w O bl pl) (hway : ∀ i, i < F.blk.n → Go.Proofs.YtbmfimojhcdnbaaGreat.Flo.Way (su F) 0 i) {b k i v : Nat} (lb : b < F.blk.n) (hp : (F.I b k).op = 26 → (F.J b k i).toNat < F.blk.n) (hv : F.A b k i = v) (h1 : 1 ≤ v) (h2 : v ≤ allV F) :
    (∃ b0 : Nat, bl v = b0 ∧ b0 < F.blk.n) ∧ (UseI F b k i ↔ Sees F b k i (bl v) (pl v)) := by
  by_cases g : v ≤ F.par.n
  · obtain ⟨e1, e2⟩ := hw.par v g
    refine ⟨⟨0, by rw [e1]; rfl, by omega⟩, ⟨fun _ => ?_, fun _ => useI_par (by omega) (by omega)⟩⟩
    rw [e1, e2]
    by_cases ho : (F.I b k).op = 26
    · exact .inl ⟨ho, dom_zero (by omega) (hway _ (hp ho))⟩
    · refine .inr ⟨ho, ?_⟩
      by_cases hb0 : b = 0
      · exact .inl ⟨by omega, by omega⟩
      · exact .inr ⟨by omega, dom_zero (by omega) (hway b lb)⟩
  · obtain ⟨b0, k0, lb0, lk0, ht0, he0⟩ := idx_onto F F.blk.n (Nat.le_refl _) v (by omega) (by rw [lastOf_all]; omega)
    obtain ⟨e1, e2⟩ := hw.val b0 k0 lb0 lk0 ht0
    rw [he0] at e1 e2
    refine ⟨⟨b0, e1, lb0⟩, ?_⟩
    rw [hw.useI (by omega) (by omega) lb0 lk0 ht0 (by rw [hv, he0]), e1, e2]
    unfold There Sees
    by_cases ho : (F.I b k).op = 26
    · rw [if_pos ho]; simp [ho]
    · rw [if_neg ho]
      constructor
      · rintro (⟨h1, h2⟩ | ⟨h1, h2⟩)
        · exact .inr ⟨ho, .inl ⟨by omega, by omega⟩⟩
        · exact .inr ⟨ho, .inr ⟨by omega, h2⟩⟩
      · rintro (⟨h1, _⟩ | ⟨_, ⟨h1, h2⟩ | ⟨h1, h2⟩⟩)
        · exact absurd h1 ho
        · exact .inl ⟨by omega, by omega⟩
        · exact .inr ⟨by omega, h2⟩

theorem spot_at {g n c x : Nat} (hx : x < n) : ∀ wx, (Instr.indexAt 112 (.slice (some ⟨g, 0, none⟩) n c) (.int .i64 x)).run Tryz.prog wx = .ok (.pointer (some ⟨g, x * 2, none⟩)) wx := by
  have := index_row (s := ⟨some ⟨g, 0, none⟩, n, c⟩) rfl (show Tryz.prog.underlying 112 = some (.slice 118) by kernel_rfl) (show (Tryz.prog.info? 118).map (fun i => i.size) = some 2 by kernel_rfl) hx
  simpa using this

def ArgsOk (F : FV) (b k : Nat) (u : IV) : Prop := ∀ i, i < u.args.n → UseI F b k i

set_option maxRecDepth 10000 in
set_option maxHeartbeats 8000000 in
theorem argFault_any (F : FV) (b k : Nat) (L : List Nat) (par : Nat → Nat) (O n cO g c : Nat) (bl pl ov : Nat → Int) (w : World) (hF : In w F) (hl : Light F) (hf : FormF F) (hfl : FlowF F) (lb : b < F.blk.n) (lk : k < (F.B b).n)
    (hgv : Gv F w O bl pl) (hn : n = allV F + 1) (hgr : Gro (su F) L par []) (hr : Ro w g F.blk.n ov) (ho : OverIs F ov) (hc : F.blk.n ≤ c) (hcO : n ≤ cO) :
    Calls Tryz.prog 91 #[.agg #[.slice (some ⟨O, 0, none⟩) n cO, .slice (some ⟨g, 0, none⟩) F.blk.n c], (F.I b k).val, .agg #[.int .i64 b, .int .i64 k]] w fun e w' => Ans (fun r => r = true ↔ ¬ ArgsOk F b k (F.I b k)) w e w' := by
  have gb := hl.blk
  have gi := hl.ins b lb
  have ga := hl.args b lb k lk
  have gin := hl.into b lb k lk
  have gv := allV_le hl
  have hway : ∀ i, i < F.blk.n → Go.Proofs.YtbmfimojhcdnbaaGreat.Flo.Way (su F) 0 i := fun i hi => (hfl.2 i hi).1
  have JP := hid (show (F.I b k).op = 26 → (F.I b k).into.n = (F.I b k).args.n ∧ ∀ i, i < (F.I b k).into.n → ∃ p : Nat, F.J b k i = p ∧ p < F.blk.n from fun h => by
    obtain ⟨_, h1, h2⟩ := (hfl.2 b lb).2 k lk h
    exact ⟨phi_into (hf.2.2 b lb k lk) h, fun i hi => ⟨_, h2 i hi, pvL_lt _ (getD_mem (by omega))⟩⟩)
  have IA := hid (hF.args b lb k lk)
  have II := hid (hF.into b lb k lk)
  have HW := hid hway
  have HG := hid hgv
  have HN0 := hid hn
  have HGR := hid hgr
  have HRO := hid hr
  have HOV := hid ho
  obtain ⟨u, hu⟩ : ∃ u, F.I b k = u := ⟨_, rfl⟩
  have EU := hid hu
  rw [hu] at JP IA II ga gin ⊢
  obtain ⟨W1, hW1⟩ : ∃ W1, w.alloc (.cells #[.slice (some ⟨O, 0, none⟩) n cO, .slice (some ⟨g, 0, none⟩) F.blk.n c] 115) = W1 := ⟨_, rfl⟩
  obtain ⟨W2, hW2⟩ : ∃ W2, W1.alloc (.cells u.cells 50) = W2 := ⟨_, rfl⟩
  obtain ⟨W, hW⟩ : ∃ W, W2.alloc (.cells #[.int .i64 b, .int .i64 k] 118) = W := ⟨_, rfl⟩
  have z1 : W1.heap.size = w.heap.size + 1 := by rw [← hW1]; simp
  have z2 : W2.heap.size = w.heap.size + 1 + 1 := by rw [← hW2]; simp [z1]
  have BX := hid (show W.cell? ⟨w.heap.size, 0, none⟩ = some (.slice (some ⟨O, 0, none⟩) n cO) ∧ W.cell? ⟨w.heap.size, 1, none⟩ = some (.slice (some ⟨g, 0, none⟩) F.blk.n c) ∧ W.cell? ⟨w.heap.size + 1, 0, none⟩ = some (.int .i64 u.op) ∧ W.cell? ⟨w.heap.size + 1, 5, none⟩ = some (.slice u.args.a u.args.n u.args.c) ∧ W.cell? ⟨w.heap.size + 1, 6, none⟩ = some (.slice u.into.a u.into.n u.into.c) ∧ W.cell? ⟨w.heap.size + 1 + 1, 0, none⟩ = some (.int .i64 b) ∧ W.cell? ⟨w.heap.size + 1 + 1, 1, none⟩ = some (.int .i64 k) from by
    have a1 : W2.cell? ⟨w.heap.size, 0, none⟩ = some (.slice (some ⟨O, 0, none⟩) n cO) ∧ W2.cell? ⟨w.heap.size, 1, none⟩ = some (.slice (some ⟨g, 0, none⟩) F.blk.n c) := by
      have q : Below W1.heap.size W1 W2 := by rw [← hW2]; exact new (same _) _
      exact ⟨cell_on q (by rw [← hW1]; simp), cell_on q (by rw [← hW1]; simp)⟩
    have q : Below W2.heap.size W2 W := by rw [← hW]; exact new (same _) _
    have a2 : W2.cell? ⟨w.heap.size + 1, 0, none⟩ = some (.int .i64 u.op) ∧ W2.cell? ⟨w.heap.size + 1, 5, none⟩ = some (.slice u.args.a u.args.n u.args.c) ∧ W2.cell? ⟨w.heap.size + 1, 6, none⟩ = some (.slice u.into.a u.into.n u.into.c) := by
      rw [← z1, ← hW2]; exact ⟨by simp, by simp, by simp⟩
    exact ⟨cell_on q a1.1, cell_on q a1.2, cell_on q a2.1, cell_on q a2.2.1, cell_on q a2.2.2, by rw [← z2, ← hW]; simp, by rw [← z2, ← hW]; simp⟩)
  have LW := hid (show Below w.heap.size w W by rw [← hW, ← hW2, ← hW1]; exact new (new (new (same w) _) _) _)
  have zW : w.heap.size + 3 = W.heap.size := by rw [← hW]; simp [z2]
  obtain ⟨m0, m1, m2, m3, m4, m5, m6⟩ := BX.out
  clear hF hl hf hfl hgv hn hgr hr ho hway hu
  go_enter Tryz.func91, Tryz.ntmps91
  go_wp2_with fail
  clear hW1 hW2 hW z1 z2 m0 m1 m2 m3 m4 m5 m6
  go_loopw [13] (fun iv wr => ∃ i : Nat, i ≤ u.args.n ∧ iv = .int .i64 i ∧ (∀ t, t < i → UseI F b k t) ∧ Below W.heap.size W wr) (fun iv _ => u.args.n - (intOf iv).toNat)
  case atStart => exact ⟨0, Nat.zero_le _, rfl, fun t ht => by omega, same _⟩
  case round =>
    obtain ⟨i, hi, rfl, hall, hb⟩ := hrel
    have HI := hid (And.intro hall hb)
    have LL := hid (View.more LW.out hb)
    by_cases li : i < u.args.n
    · obtain ⟨pb, po, hpx, hpc⟩ := (IA.out.on LL.out).at li
      obtain ⟨m0, m1, m2, m3, m4, m5, m6⟩ := BX.out
      replace m0 := cell_on hb m0
      replace m1 := cell_on hb m1
      replace m2 := cell_on hb m2
      replace m4 := cell_on hb m4
      replace m5 := cell_on hb m5
      replace m6 := cell_on hb m6
      have z0 := World.block_lt_of_cell? _ _ m0
      have z1 := World.block_lt_of_cell? _ _ m2
      have z2 := World.block_lt_of_cell? _ _ m5
      clear m3
      by_cases g1 : F.A b k i < 1
      · have t1 : decide (F.A b k i < 1) = true := by simpa using g1
        have HN := hid (show ¬ ArgsOk F b k u from fun h => by have := (h i li).1; omega)
        clear hall hb g1
        go_wp2_with fail
        go_ret
        exact ⟨true, rfl, ⟨fun _ => HN.out, fun _ => rfl⟩, LL.out⟩
      have t1 : decide (F.A b k i < 1) = false := by simpa using g1
      by_cases g2 : (n : Int) ≤ F.A b k i
      · have t2 : decide ((n : Int) ≤ F.A b k i) = true := by simpa using g2
        have HN := hid (show ¬ ArgsOk F b k u from fun h => by have := (h i li).2.1; have := HN0.out; omega)
        clear hall hb g1 g2
        go_wp2_with fail
        go_ret
        exact ⟨true, rfl, ⟨fun _ => HN.out, fun _ => rfl⟩, LL.out⟩
      have t2 : decide ((n : Int) ≤ F.A b k i) = false := by simpa using g2
      obtain ⟨v, hv⟩ : ∃ v : Nat, F.A b k i = v := ⟨(F.A b k i).toNat, by omega⟩
      have hvn : v < n := by omega
      have hvv : v ≤ allV F := by have := HN0.out; omega
      have GV := HG.out.on LL.out
      have hvx := spot_at (g := O) (c := cO) hvn
      have q1 := GV.cb v hvv
      have q2 := GV.cp v hvv
      obtain ⟨⟨b0, eb0, lb0⟩, hsee⟩ := GV.sees HW.out lb (fun h => by
        obtain ⟨e, hh⟩ := JP.out (by rw [← EU.out]; exact h)
        obtain ⟨p, hp, hp2⟩ := hh i (by omega)
        rw [hp]; simpa using hp2) hv (by omega) hvv
      rw [eb0] at q1 hsee
      obtain ⟨P, hP⟩ : ∃ P, pl v = P := ⟨_, rfl⟩
      rw [hP] at q2 hsee
      rw [hv] at hpc t1 t2
      have SEE := hid (show UseI F b k i ↔ Sees F b k i b0 P from hsee)
      obtain ⟨W3, hW3⟩ : ∃ W3, wr.alloc (.cells #[.int .i64 b0, .int .i64 P] 118) = W3 := ⟨_, rfl⟩
      have N3 := hid (show Below wr.heap.size wr W3 by rw [← hW3]; exact new (same _) _)
      have L2 := hid (View.more HI.out.2 N3.out)
      have y0 : W3.cell? ⟨wr.heap.size, 0, none⟩ = some (.int .i64 b0) := by rw [← hW3]; simp
      have y1 : W3.cell? ⟨wr.heap.size, 1, none⟩ = some (.int .i64 P) := by rw [← hW3]; simp
      have M0 := cell_on N3.out m0
      have M1 := cell_on N3.out m1
      have M2 := cell_on N3.out m2
      have M4 := cell_on N3.out m4
      have M5 := cell_on N3.out m5
      have M6 := cell_on N3.out m6
      have st0 : Below W3.heap.size W3 W3.drew := Below.drew (same _)
      have A0 : ∀ wx, Below W3.heap.size W3 wx → wx.cell? ⟨w.heap.size, 0, none⟩ = some (.slice (some ⟨O, 0, none⟩) n cO) := fun wx h => cell_on h M0
      have A1 : ∀ wx, Below W3.heap.size W3 wx → wx.cell? ⟨w.heap.size, 1, none⟩ = some (.slice (some ⟨g, 0, none⟩) F.blk.n c) := fun wx h => cell_on h M1
      have A4 : ∀ wx, Below W3.heap.size W3 wx → wx.cell? ⟨w.heap.size + 1, 6, none⟩ = some (.slice u.into.a u.into.n u.into.c) := fun wx h => cell_on h M4
      have A5 : ∀ wx, Below W3.heap.size W3 wx → wx.cell? ⟨w.heap.size + 1 + 1, 0, none⟩ = some (.int .i64 b) := fun wx h => cell_on h M5
      have Y0 : ∀ wx, Below W3.heap.size W3 wx → wx.cell? ⟨wr.heap.size, 0, none⟩ = some (.int .i64 b0) := fun wx h => cell_on h y0
      have HA := hid (And.intro st0 (And.intro A0 (And.intro A1 (And.intro A4 (And.intro A5 Y0)))))
      clear st0 A0 A1 A4 A5 Y0
      have YES := hid (show ∀ wx, Below W.heap.size W wx → ¬ UseI F b k i → Ans (fun r => r = true ↔ ¬ ArgsOk F b k u) w (.returned (.bool true)) wx from fun wx h hno => ⟨true, rfl, ⟨fun _ => fun h => hno (h i li), fun _ => rfl⟩, View.more LW.out h⟩)
      clear hall hb g1 g2 hv GV hsee eb0 hP
      by_cases h26 : u.op = 26
      · have t26 : (u.op == 26) = true := by simp [h26]
        obtain ⟨e, hh⟩ := JP.out h26
        obtain ⟨p, hp, hp2⟩ := hh i (by omega)
        obtain ⟨jb, jo, hjx, hjc⟩ := (II.out.on (View.more LL.out N3.out)).at (k := i) (by omega)
        rw [hp] at hjc
        have J0 : ∀ wx, Below W3.heap.size W3 wx → wx.cell? ⟨jb, jo, none⟩ = some (.int .i64 p) := fun wx h => cell_on h hjc
        have HJ := hid J0
        have SE := hid (show UseI F b k i ↔ DomR F b0 p by
          rw [SEE.out]
          unfold Sees
          rw [EU.out, hp]
          simp [h26])
        clear h26 e hh hp hjc J0
        go_upto_region 8 with fail
        clear hW3 y0 y1 M0 M1 M2 M4 M5 M6 m0 m1 m2 m4 m5 m6 hpc q1 q2
        have J0 := HJ.out
        obtain ⟨st0, A0, A1, A4, A5, Y0⟩ := HA.out
        refine wp_region_noPanic ?_
        refine wp_region_held_drew (S := fun wx => Below W3.heap.size W3 wx) (by kernel_rfl) st0 (fun hS => ?_)
        refine takeAt (i := 0) (d := some 36) (v := ?vr80) rfl (by rfl) (by kernel_rfl) (by kernel_rfl) (by kernel_rfl) (fun _ _ _ h => h) (Or.inl ⟨by rfl, ?yr80⟩) hS ?_
        case yr80 => intro wx hSw; (go_simp) <;> with_reducible rfl
        simp only [Act.put, List.setIfInBounds_toArray, List.set_cons_zero, List.set_cons_succ]
        refine takeAt (i := 1) (d := some 37) (v := ?vr81) rfl (by rfl) (by kernel_rfl) (by kernel_rfl) (by kernel_rfl) (fun _ _ _ h => h) (Or.inl ⟨by rfl, ?yr81⟩) hS ?_
        case yr81 => intro wx hSw; (go_simp) <;> with_reducible rfl
        simp only [Act.put, List.setIfInBounds_toArray, List.set_cons_zero, List.set_cons_succ]
        refine takeAt (i := 2) (d := some 38) (v := ?vr82) rfl (by rfl) (by kernel_rfl) (by kernel_rfl) (by kernel_rfl) (fun _ _ _ h => h) (Or.inl ⟨by rfl, ?yr82⟩) hS ?_
        case yr82 => intro wx hSw; (go_simp) <;> with_reducible rfl
        simp only [Act.put, List.setIfInBounds_toArray, List.set_cons_zero, List.set_cons_succ]
        refine takeAt (i := 3) (d := some 39) (v := ?vr83) rfl (by rfl) (by kernel_rfl) (by kernel_rfl) (by kernel_rfl) (fun _ _ _ h => h) (Or.inl ⟨by rfl, ?yr83⟩) hS ?_
        case yr83 => intro wx hSw; (go_simp) <;> with_reducible rfl
        simp only [Act.put, List.setIfInBounds_toArray, List.set_cons_zero, List.set_cons_succ]
        refine takeAt (i := 4) (d := some 40) (v := ?vr84) rfl (by rfl) (by kernel_rfl) (by kernel_rfl) (by kernel_rfl) (fun _ _ _ h => h) (Or.inl ⟨by rfl, ?yr84⟩) hS ?_
        case yr84 => intro wx hSw; (go_simp) <;> with_reducible rfl
        simp only [Act.put, List.setIfInBounds_toArray, List.set_cons_zero, List.set_cons_succ]
        refine takeAt (i := 5) (d := some 41) (v := ?vr85) rfl (by rfl) (by kernel_rfl) (by kernel_rfl) (by kernel_rfl) (fun _ _ _ h => h) (Or.inl ⟨by rfl, ?yr85⟩) hS ?_
        case yr85 => intro wx hSw; (go_simp) <;> with_reducible rfl
        simp only [Act.put, List.setIfInBounds_toArray, List.set_cons_zero, List.set_cons_succ]
        refine takeAt (i := 6) (d := some 42) (v := ?vr86) rfl (by rfl) (by kernel_rfl) (by kernel_rfl) (by kernel_rfl) (fun _ _ _ h => h) (Or.inl ⟨by rfl, ?yr86⟩) hS ?_
        case yr86 => intro wx hSw; (go_simp) <;> with_reducible rfl
        simp only [Act.put, List.setIfInBounds_toArray, List.set_cons_zero, List.set_cons_succ]
        refine takeAt (i := 7) (d := some 43) (v := ?vr87) rfl (by rfl) (by kernel_rfl) (by kernel_rfl) (by kernel_rfl) (fun _ _ _ h => h) (Or.inl ⟨by rfl, ?yr87⟩) hS ?_
        case yr87 => intro wx hSw; (go_simp) <;> with_reducible rfl
        simp only [Act.put, List.setIfInBounds_toArray, List.set_cons_zero, List.set_cons_succ]
        refine wpAnyH_ready (rs := [8]) (by kernel_rfl) (by simp) ?_
        refine AllReadyH.cons rfl (fun K hK => ?_) AllReadyH.nil
        go_simp
        refine (isOver_any F L par ⟨some ⟨O, 0, none⟩, n, cO⟩ g c ov b0 p _ HGR.out (HRO.out.on (View.more (View.more LL.out N3.out) st0)) HOV.out HW.out lb0 hp2 gb hc).mono ?_
        rintro e wp1 ⟨r, rfl, hr, hbp⟩
        have p1 : Below W3.heap.size W3 wp1 := View.more st0 hbp
        have RR := hid hr
        clear hr hbp
        go_wp2_with fail
        refine hK.out _ _ p1 (fun _ => ?_)
        clear hK K
        replace hS := p1
        try simp only [Act.put, List.setIfInBounds_toArray, List.set_cons_zero, List.set_cons_succ]
        refine takeAt (i := 9) (d := some 45) (v := ?vr89) rfl (by rfl) (by kernel_rfl) (by kernel_rfl) (by kernel_rfl) (fun _ _ _ h => h) (Or.inl ⟨by rfl, ?yr89⟩) hS ?_
        case yr89 => intro wx hSw; (go_simp) <;> with_reducible rfl
        simp only [Act.put, List.setIfInBounds_toArray, List.set_cons_zero, List.set_cons_succ]
        refine wpAnyH_done (by kernel_rfl) ?_ _
        refine NoPanic.normal ?_
        have P1 := hid p1
        clear hS st0 p1 A0 A1 A4 A5 Y0 J0
        cases r with
        | false =>
          have HN := hid (show ¬ UseI F b k i from fun h => by have := RR.out.2 (SE.out.1 h); cases this)
          go_wp2_with fail
          go_ret
          exact YES.out _ (View.more L2.out P1.out) HN.out
        | true =>
          have HP := hid (SE.out.2 (RR.out.1 rfl))
          go_wp2_with fail
          go_round
          case rel => exact ⟨i + 1, by omega, by go_num, upto1 HI.out.1 HP.out, View.more L2.out P1.out⟩
          case measure => simp [intOf]; omega
      · have t26 : (u.op == 26) = false := by simp [h26]
        by_cases h5 : b0 = b
        · have t5 : ((b0 : Int) == (b : Int)) = true := by simp [h5]
          have t6 : (b0 == b) = true := by simp [h5]
          by_cases h7 : (k : Int) ≤ P
          · have t7 : decide ((k : Int) ≤ P) = true := by simpa using h7
            have HN := hid (show ¬ UseI F b k i from fun h => by
              have h2 := SEE.out.1 h
              unfold Sees at h2
              rw [EU.out] at h2
              rcases h2 with ⟨h3, _⟩ | ⟨_, ⟨_, h3⟩ | ⟨h3, _⟩⟩
              · exact h26 h3
              · omega
              · omega)
            clear h26 h5 h7
            go_wp2_with fail
            go_ret
            exact YES.out _ L2.out HN.out
          · have t7 : decide ((k : Int) ≤ P) = false := by simpa using h7
            have HP := hid (SEE.out.2 (by unfold Sees; rw [EU.out]; exact .inr ⟨h26, .inl ⟨by omega, by omega⟩⟩))
            clear h26 h5 h7
            go_wp2_with fail
            go_round
            case rel => exact ⟨i + 1, by omega, by go_num, upto1 HI.out.1 HP.out, L2.out⟩
            case measure => simp [intOf]; omega
        · have t5 : ((b0 : Int) == (b : Int)) = false := by rw [beq_eq_false_iff_ne]; omega
          have t6 : (b0 == b) = false := by simp [h5]
          have SE := hid (show UseI F b k i ↔ DomR F b0 b by
            rw [SEE.out]
            unfold Sees
            rw [EU.out]
            constructor
            · rintro (⟨h3, _⟩ | ⟨_, ⟨h3, _⟩ | ⟨_, h3⟩⟩)
              · exact absurd h3 h26
              · omega
              · simpa using h3
            · intro h3
              exact .inr ⟨h26, .inr ⟨by omega, by simpa using h3⟩⟩)
          clear h26 h5
          go_wp2_with fail
          refine (isOver_any F L par ⟨some ⟨O, 0, none⟩, n, cO⟩ g c ov b0 b _ HGR.out (HRO.out.on (View.more LL.out N3.out)) HOV.out HW.out lb0 lb gb hc).mono ?_
          rintro e wp1 ⟨r, rfl, hr, hbp⟩
          have P1 := hid hbp
          have RR := hid hr
          clear hr hbp
          cases r with
          | false =>
            have HN := hid (show ¬ UseI F b k i from fun h => by have := RR.out.2 (SE.out.1 h); cases this)
            go_wp2_with fail
            go_ret
            exact YES.out _ (View.more L2.out P1.out) HN.out
          | true =>
            have HP := hid (SE.out.2 (RR.out.1 rfl))
            go_wp2_with fail
            go_round
            case rel => exact ⟨i + 1, by omega, by go_num, upto1 HI.out.1 HP.out, View.more L2.out P1.out⟩
            case measure => simp [intOf]; omega
    · obtain rfl : i = u.args.n := by omega
      clear hall hb
      go_wp2_with fail
      go_ret
      exact ⟨false, rfl, ⟨fun h => absurd h (by simp), fun h => absurd HI.out.1 h⟩, LL.out⟩

end Go.Proofs.YtbmfimojhcdnbaaGreat.Wf
