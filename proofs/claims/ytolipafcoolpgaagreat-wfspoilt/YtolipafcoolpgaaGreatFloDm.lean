/-
  What is over what, by the document: plnref3.Doms.
-/
import Derived.Test.YtolipafcoolpgaaGreatJ3
import Derived.BigRegion
namespace Go.Proofs.YtolipafcoolpgaaGreat.Flo
open Go.RowKit View Rd Copy Num Ty Srt

set_option linter.unusedVariables false

def DomR (F : FV) (a b : Nat) : Prop := Way (su F) 0 a ∧ Way (su F) 0 b ∧ (a = b ∨ ¬ (a ≠ 0 ∧ Way (suL F a) 0 b))

theorem underlying157 : Tryz.prog.underlying 157 = some (.slice 151) := by kernel_rfl
theorem info151 : (Tryz.prog.info? 151).map (fun i => (i.zero, i.size, i.bytes)) = some (some (.slice none 0 0), 1, 24) := by kernel_rfl
theorem size151 : (Tryz.prog.info? 151).map (fun i => i.size) = some 1 := by kernel_rfl

theorem rows_at {g n x : Nat} (hx : x < n) : ∀ wx, (Instr.indexAt 157 (.slice (some ⟨g, 0, none⟩) n n) (.int .i64 x)).run Tryz.prog wx = .ok (.pointer (some ⟨g, x, none⟩)) wx := by
 have := index_row (s := ⟨some ⟨g, 0, none⟩, n, n⟩) rfl underlying157 size151 hx
 simpa using this

structure Sq (w : World) (O lo n a : Nat) (R : Nat → Nat) (D : Nat → Nat → Bool) : Prop where
 row : w.rowIs O 151 n (fun i => if i < a then .slice (some ⟨R i, 0, none⟩) n n else .slice none 0 0)
 rows : ∀ i, i < a → w.rowIs (R i) 4 n (fun b => .bool (D i b))
 ge : ∀ i, i < a → lo ≤ R i
 inj : ∀ i j, i < a → j < a → R i = R j → i = j

theorem Sq.keep {w w' : World} {O lo n a : Nat} {R : Nat → Nat} {D : Nat → Nat → Bool} (h : Sq w O lo n a R D) (hb : ∀ b, (b = O ∨ ∃ i, i < a ∧ b = R i) → w'.heap[b]? = w.heap[b]?) : Sq w' O lo n a R D :=
 ⟨h.row.of_block (hb O (.inl rfl)), fun i hi => (h.rows i hi).of_block (hb _ (.inr ⟨i, hi, rfl⟩)), h.ge, h.inj⟩

theorem Sq.on {w w' : World} {O lo n a : Nat} {R : Nat → Nat} {D : Nat → Nat → Bool} (h : Sq w O lo n a R D) (hb : Below w.heap.size w w') : Sq w' O lo n a R D :=
 h.keep (fun b hbb => by
  rcases hbb with rfl | ⟨i, hi, rfl⟩
  ·exact hb.block _ h.row.lt
  ·exact hb.block _ (h.rows i hi).lt)

theorem Sq.off {w : World} {O lo n a : Nat} {R : Nat → Nat} {D : Nat → Nat → Bool} (h : Sq w O lo n a R D) {i : Nat} (hi : i < a) : R i ≠ O := by
 intro eq
 have q1 := h.rows i hi
 have q2 := h.row
 rw [eq] at q1
 obtain ⟨c1, e1, _⟩ := q1
 obtain ⟨c2, e2, _⟩ := q2
 rw [e1] at e2
 simp at e2

theorem Sq.more {w : World} {O lo n a : Nat} {R : Nat → Nat} {D : Nat → Nat → Bool} (h : Sq w O lo n a R D) (ha : a < n) (hlo : lo ≤ w.heap.size) (hO : O < w.heap.size) :
  Sq ((w.alloc (.cells (madeCells #[.bool false] n) 4)).setCell ⟨O, a, none⟩ (.slice (some ⟨w.heap.size, 0, none⟩) n n)) O lo n (a + 1) (fun i => if i = a then w.heap.size else R i) (fun i => if i = a then fun _ => false else D i) := by
 have h1 := h.on (new (same w) (.cells (madeCells #[.bool false] n) 4))
 refine ⟨(h1.row.set a _).congr (fun i hi => ?_), fun i hi => ?_, fun i hi => ?_, fun i j hi hj e => ?_⟩
 ·by_cases e : i = a
  ·subst e; simp
  ·rw [if_neg e]
   by_cases e2 : i < a
   ·rw [if_pos e2, if_pos (by omega)]; simp [e]
   ·rw [if_neg e2, if_neg (by omega)]
 ·by_cases e : i = a
  ·subst e
   simp only [if_true]
   exact (World.rowIs_made w (.bool false) n 4).of_block (Below.heap_setCell _ _ _ _ (by show w.heap.size ≠ O; omega))
  ·simp only [if_neg e]
   have hi' : i < a := by omega
   exact (h1.rows i hi').of_block (Below.heap_setCell _ _ _ _ (h.off hi'))
 ·by_cases e : i = a
  ·simp only [e, if_true]; exact hlo
  ·simp only [if_neg e]; exact h.ge i (by omega)
 ·by_cases e1 : i = a
  ·by_cases e2 : j = a
   ·rw [e1, e2]
   ·simp only [e1, if_true, if_neg e2] at e
    have := (h.rows j (by omega)).lt
    omega
  ·by_cases e2 : j = a
   ·simp only [e2, if_true, if_neg e1] at e
    have := (h.rows i (by omega)).lt
    omega
   ·simp only [if_neg e1, if_neg e2] at e
    exact h.inj i j (by omega) (by omega) e

theorem Sq.set {w : World} {O lo n a : Nat} {R : Nat → Nat} {D : Nat → Nat → Bool} (h : Sq w O lo n a R D) {i b : Nat} (hi : i < a) (v : Bool) :
  Sq (w.setCell ⟨R i, b, none⟩ (.bool v)) O lo n a R (fun j => if j = i then fun c => if c = b then v else D i c else D j) := by
 refine ⟨h.row.of_block (Below.heap_setCell _ _ _ _ (fun e => h.off hi e.symm)), fun j hj => ?_, h.ge, h.inj⟩
 by_cases e : j = i
 ·subst e
  simp only [if_true]
  exact ((h.rows j hj).set b (.bool v)).congr (fun c _ => by split <;> rfl)
 ·simp only [if_neg e]
  exact (h.rows j hj).of_block (Below.heap_setCell _ _ _ _ (fun eq => e (h.inj j i hj hi eq)))

def DomsIs (F : FV) (w : World) (e : Ending) (w' : World) : Prop :=
 ∃ (O : Nat) (R : Nat → Nat) (D : Nat → Nat → Bool), e = .returned (.slice (some ⟨O, 0, none⟩) F.blk.n F.blk.n) ∧ Sq w' O w.heap.size F.blk.n F.blk.n R D ∧ (∀ a, a < F.blk.n → ∀ b, b < F.blk.n → (D a b = true ↔ DomR F a b)) ∧ Below w.heap.size w w'

theorem dom_cases {F : FV} {a b : Nat} {fb ga : Bool} {g : Bool} (ha : Way (su F) 0 a) (hf : fb = true ↔ Way (su F) 0 b) (hg : g = true ↔ a ≠ 0 ∧ Way (suL F a) 0 b) : (fb && (decide (a = b) || !g)) = true ↔ DomR F a b := by
 unfold DomR
 rw [← hf, ← hg]
 cases fb <;> cases g <;> simp [ha]

set_option maxRecDepth 10000 in
set_option maxHeartbeats 4000000 in
theorem doms_ref (F : FV) (w : World) (hF : In w F) (hl : Light F) : Calls Tryz.prog 111 #[F.val] w fun e w' => DomsIs F w e w' := by
 have HF := hid hF
 have HL := hid hl
 have gb := hl.blk
 have hmk := run_make_row' (P := Tryz.prog) 157 151 (.slice none 0 0) 24 underlying157 info151 rfl .i64 .i64 F.blk.n (by omega) (by omega)
 have hmk2 := run_make_row' (P := Tryz.prog) 151 4 (.bool false) 1 underlying151 info4 rfl .i64 .i64 F.blk.n (by omega) (by omega)
 have HK2 := hid hmk2
 clear hF hl hmk2
 go_enter Tryz.func111, Tryz.ntmps111
 go_wp2_with fail
 clear hmk
 obtain ⟨w1, hw1⟩ : ∃ w1, (w.alloc (.cells (fcells F) 36)).alloc (.cells (madeCells #[.slice none 0 0] F.blk.n) 151) = w1 := ⟨_, rfl⟩
 have b1 : Below w.heap.size w w1 := by rw [← hw1]; exact new (new (same w) _) _
 have f1 : FuncAt w1 w.heap.size F := by rw [← hw1]; exact (FuncAt.alloc w F).on (new (same _) _)
 have r1 : w1.rowIs (w.heap.size + 1) 151 F.blk.n (fun _ => .slice none 0 0) := by
  rw [← hw1]
  have := World.rowIs_made (w.alloc (.cells (fcells F) 36)) (.slice none 0 0) F.blk.n 151
  simpa using this
 have z1 : w1.heap.size = w.heap.size + 2 := by rw [← hw1]; simp
 have HB1 := hid b1
 have HF1 := hid f1
 have HR1 := hid r1
 have Z1 := hid z1
 rw [hw1]
 clear hw1 b1 f1 r1 z1
 obtain ⟨O, hO⟩ : ∃ O, w.heap.size + 1 = O := ⟨_, rfl⟩
 rw [hO] at HR1 ⊢
 have HO := hid hO
 clear hO
 refine (reach_ref F _ (HF.out.on HB1.out) HL.out).mono ?_
 rintro e w2 ⟨f, ⟨RM, rfl, hr2, hM2, hb2⟩, hf2⟩
 have HFB := hid (show ∀ i, i < F.blk.n → (f i = true ↔ Way (su F) 0 i) from fun i hi => by
  rw [hf2 i hi, suL_neg (show (-1 : Int) < 0 by decide)]
  exact ⟨fun h => h.2.2, fun h => ⟨by unfold isB; simp; omega, by decide, h⟩⟩)
 have ST := hid (show Sq w2 O w.heap.size F.blk.n 0 (fun _ => 0) (fun _ _ => false) from ⟨(HR1.out.of_block (hb2.block _ HR1.out.lt)).congr (fun i _ => by simp), fun i hi => by omega, fun i hi => by omega, fun i j hi => by omega⟩)
 have HR2 := hid (And.intro hr2 (And.intro (HF1.out.on hb2) (View.more HB1.out hb2)))
 have hRM : w1.heap.size ≤ RM := hM2
 have HRM := hid (show O < RM by have := HO.out; have := Z1.out; omega)
 clear hr2 hM2 hb2 hf2 hRM HF1 HR1
 go_wp2_with fail
 go_loopw [5] (fun i wr => ∃ a : Nat, a ≤ F.blk.n ∧ i = .int .i64 a ∧ ∃ R D, Sq wr O w.heap.size F.blk.n a R D ∧ (∀ i, i < a → RM < R i) ∧ (∀ i, i < a → ∀ b, b < F.blk.n → (D i b = true ↔ DomR F i b)) ∧ wr.rowIs RM 4 F.blk.n (fun i => .bool (f i)) ∧ FuncAt wr w.heap.size F ∧ Below w.heap.size w wr) (fun i _ => F.blk.n - (intOf i).toNat)
 case atStart => exact ⟨0, Nat.zero_le _, rfl, _, _, ST.out, fun i hi => by omega, fun i hi => by omega, HR2.out.1, HR2.out.2.1, HR2.out.2.2⟩
 case round =>
  clear ST HR2
  obtain ⟨a, ha, rfl, R, D, hsq, hRR, hD, hr, hf, hb⟩ := hrel
  have HS := hid (And.intro hsq (And.intro hRR (And.intro hD (And.intro hr (And.intro hf hb)))))
  by_cases hlt : a < F.blk.n
  ·have hat := rows_at (g := O) hlt
   have hoc := hsq.row.cell hlt
   have hof := hsq.row.frozen a
   have hOl := hsq.row.lt
   have hrl := hr.lt
   have hmk2 := HK2.out
   have hne : O ≠ wr.heap.size := by omega
   clear hsq hRR hD hr hf hb
   obtain ⟨w3, hw3⟩ : ∃ w3, (wr.alloc (.cells (madeCells #[.bool false] F.blk.n) 4)).setCell ⟨O, a, none⟩ (.slice (some ⟨wr.heap.size, 0, none⟩) F.blk.n F.blk.n) = w3 := ⟨_, rfl⟩
   go_upto_region 7 with fail
   have sq3 := HS.out.1.more hlt (by have := HS.out.2.2.2.2.2.size; omega) hOl
   have b3 : Below w.heap.size w w3 := by rw [← hw3]; exact (new HS.out.2.2.2.2.2 _).setCell (by show _ ≤ O; have := HO.out; omega) _
   have k3 : ∀ b, b ≠ O → b < wr.heap.size → w3.heap[b]? = wr.heap[b]? := fun b h1 h2 => by rw [← hw3, Below.heap_setCell _ _ _ _ h1, Below.heap_alloc _ _ _ h2]
   have r3 : w3.rowIs RM 4 F.blk.n (fun i => .bool (f i)) := HS.out.2.2.2.1.of_block (k3 RM (by have := HRM.out; omega) hrl)
   have f3 : FuncAt w3 w.heap.size F := HS.out.2.2.2.2.1.kept (p := fun b => b = w.heap.size) ⟨by rw [← hw3]; simp, fun b hb => by subst hb; exact k3 _ (by have := HO.out; omega) (by have := HO.out; omega)⟩ rfl
   have z3 : w3.heap.size = wr.heap.size + 1 := by rw [← hw3]; simp
   rw [hw3] at sq3
   obtain ⟨R3, hR3⟩ : ∃ R3 : Nat → Nat, (fun i => if i = a then wr.heap.size else R i) = R3 := ⟨_, rfl⟩
   obtain ⟨D3, hD3⟩ : ∃ D3 : Nat → Nat → Bool, (fun i => if i = a then fun _ => false else D i) = D3 := ⟨_, rfl⟩
   rw [hR3, hD3] at sq3
   have RA := hid (show R3 a = wr.heap.size by rw [← hR3]; simp)
   have RL := hid (show ∀ i, i < a + 1 → RM < R3 i from fun i hi => by
    rw [← hR3]
    by_cases e : i = a
    ·simp only [e, if_true]; exact hrl
    ·simp only [if_neg e]; exact HS.out.2.1 i (by omega))
   have DA := hid (show D3 a = fun _ => false by rw [← hD3]; simp)
   have DL := hid (show ∀ i, i < a → D3 i = D i from fun i hi => by rw [← hD3]; simp only [if_neg (show i ≠ a by omega)])
   have H3 := hid (And.intro sq3 (And.intro r3 (And.intro f3 b3)))
   have Z3 := hid z3
   have hra := r3.cell hlt
   have hba := bool_at (g := RM) hlt
   clear hw3 sq3 b3 k3 r3 f3 z3 hR3 hD3 hat hoc hof hOl hrl hmk2 hne
   by_cases hfa : f a = true
   ·rw [hfa] at hra
    obtain ⟨c0, c1, c2, c3, c4⟩ := H3.out.2.2.1
    have FA := hid hfa
    clear hfa
    go_wp2_with fail
    refine (from_ref F 0 a _ (HF.out.on H3.out.2.2.2) HL.out).mono ?_
    rintro e w4 ⟨g, ⟨WB, rfl, hg4, hW4, hb4⟩, hg⟩
    have GW := hid (show ∀ i, i < F.blk.n → (g i = true ↔ a ≠ 0 ∧ Way (suL F a) 0 i) from fun i hi => by
     rw [hg i hi]
     exact ⟨fun h => ⟨by have := h.2.1; omega, h.2.2⟩, fun h => ⟨by unfold isB; simp; omega, by have := h.1; omega, h.2⟩⟩)
    have H4 := hid (And.intro (H3.out.1.on hb4) (And.intro (H3.out.2.1.of_block (hb4.block _ H3.out.2.1.lt)) (And.intro hg4 (And.intro (H3.out.2.2.1.on hb4) (View.more H3.out.2.2.2 hb4)))))
    have HWB := hid (show R3 a < WB by have := RA.out; have := Z3.out; have : w3.heap.size ≤ WB := hW4; omega)
    have hRM2 := HRM.out
    have hwO := HO.out
    clear hg4 hW4 hb4 hg c0 c1 c2 c3 c4 hra hba
    go_wp2_with fail
    obtain ⟨RA', hRA'⟩ : ∃ RA', R3 a = RA' := ⟨_, rfl⟩
    have hra1 : RM < RA' := by rw [← hRA']; exact RL.out a (by omega)
    have hra2 : RA' < WB := by rw [← hRA']; exact HWB.out
    have HRA := hid hRA'
    clear hRA' hwO
    go_loopw [7] (fun i wx => ∃ b : Nat, b ≤ F.blk.n ∧ i = .int .i64 b ∧ ∃ D4, Sq wx O w.heap.size F.blk.n (a + 1) R3 D4 ∧ (∀ i, i < a → D4 i = D3 i) ∧ (∀ c, c < b → (D4 a c = true ↔ DomR F a c)) ∧ wx.rowIs RM 4 F.blk.n (fun i => .bool (f i)) ∧ wx.rowIs WB 4 F.blk.n (fun i => .bool (g i)) ∧ FuncAt wx w.heap.size F ∧ Below w.heap.size w wx) (fun i _ => F.blk.n - (intOf i).toNat)
    case atStart => exact ⟨0, Nat.zero_le _, rfl, D3, H4.out.1, fun _ _ => rfl, fun c hc => by omega, H4.out.2.1, H4.out.2.2.1, H4.out.2.2.2.1, H4.out.2.2.2.2⟩
    case round =>
     clear H4
     obtain ⟨b, hbn, rfl, D4, hsq, hDL, hDA, hr, hg, hf, hb⟩ := hrel
     have H5 := hid (And.intro hsq (And.intro hDL (And.intro hDA (And.intro hr (And.intro hg (And.intro hf hb))))))
     by_cases hbl : b < F.blk.n
     ·have i1 := rows_at (g := O) hlt
      have i2 := bool_at (g := RM) hbl
      have i3 := bool_at (g := WB) hbl
      have i4 := bool_at (g := RA') hbl
      have k1 : wr.cell? ⟨O, a, none⟩ = some (.slice (some ⟨RA', 0, none⟩) F.blk.n F.blk.n) := by
       have := hsq.row.cell hlt
       rw [if_pos (by omega), HRA.out] at this
       exact this
      have k2 := hr.cell hbl
      have k3 := hg.cell hbl
      have k4 : wr.cell? ⟨RA', b, none⟩ = some (.bool (D4 a b)) := by
       have := (hsq.rows a (by omega)).cell hbl
       rw [HRA.out] at this
       exact this
      have k5 : wr.frozen? ⟨RA', b, none⟩ = false := by
       have := (hsq.rows a (by omega)).frozen b
       rw [HRA.out] at this
       exact this
      have fin : Hid (∀ v : Bool, (v = true ↔ DomR F a b) → ∃ D5, Sq (wr.setCell ⟨RA', b, none⟩ (.bool v)) O w.heap.size F.blk.n (a + 1) R3 D5 ∧ (∀ i, i < a → D5 i = D3 i) ∧ (∀ c, c < b + 1 → (D5 a c = true ↔ DomR F a c)) ∧ (wr.setCell ⟨RA', b, none⟩ (.bool v)).rowIs RM 4 F.blk.n (fun i => .bool (f i)) ∧ (wr.setCell ⟨RA', b, none⟩ (.bool v)).rowIs WB 4 F.blk.n (fun i => .bool (g i)) ∧ FuncAt (wr.setCell ⟨RA', b, none⟩ (.bool v)) w.heap.size F ∧ Below w.heap.size w (wr.setCell ⟨RA', b, none⟩ (.bool v))) := fun v hv => by
       have q := H5.out.1.set (i := a) (b := b) (by omega) v
       rw [HRA.out] at q
       refine ⟨_, q, fun i hi => ?_, fun c hc => ?_, H5.out.2.2.2.1.setOther (by show RM ≠ RA'; omega) _, H5.out.2.2.2.2.1.setOther (by show WB ≠ RA'; omega) _, H5.out.2.2.2.2.2.1.kept ((Kept.refl (fun b => b ≠ RA') wr).setCell (fun h => h rfl) _) (by show w.heap.size ≠ RA'; have := HO.out; omega), H5.out.2.2.2.2.2.2.setCell (by show _ ≤ RA'; have := HO.out; omega) _⟩
       ·simp only [if_neg (show i ≠ a by omega)]; exact H5.out.2.1 i hi
       ·simp only [if_true]
        by_cases e : c = b
        ·subst e; simp only [if_true]; exact hv
        ·simp only [if_neg e]; exact H5.out.2.2.1 c (by omega)
      have hdc := hid (dom_cases (F := F) (a := a) (b := b) (fb := f b) (ga := true) (g := g b) ((HFB.out a hlt).1 FA.out) (HFB.out b hbl) (GW.out b hbl))
      clear hsq hDL hDA hr hg hf hb
      cases hfb : f b with
      | false =>
       rw [hfb] at k2 hdc
       go_wp2_with fail
       go_region
       go_wp2_with fail
       obtain ⟨D5, h5⟩ := fin.out false (by simpa using hdc.out)
       go_round
       case rel => exact ⟨b + 1, by omega, by go_num, D5, h5.1.on (Below.drew (same _)), h5.2.1, h5.2.2.1, h5.2.2.2.1.drew, h5.2.2.2.2.1.drew, h5.2.2.2.2.2.1.on (Below.drew (same _)), Below.drew h5.2.2.2.2.2.2⟩
       case measure => simp [intOf]; omega
      | true =>
       rw [hfb] at k2 hdc
       by_cases hab : a = b
       ·have t1 : ((a : Int) == (b : Int)) = true := by simp [hab]
        have HV := hid (show DomR F a b by have := hdc.out; simpa [hab] using this)
        clear hab
        go_wp2_with fail
        go_region
        go_wp2_with fail
        obtain ⟨D5, h5⟩ := fin.out true ⟨fun _ => HV.out, fun _ => rfl⟩
        go_round
        case rel => exact ⟨b + 1, by omega, by go_num, D5, h5.1.on (Below.drew (same _)), h5.2.1, h5.2.2.1, h5.2.2.2.1.drew, h5.2.2.2.2.1.drew, h5.2.2.2.2.2.1.on (Below.drew (same _)), Below.drew h5.2.2.2.2.2.2⟩
        case measure => simp [intOf]; omega
       ·have t1 : ((a : Int) == (b : Int)) = false := by simp; omega
        cases hgb : g b with
        | false =>
         rw [hgb] at k3 hdc
         have HV := hid (show DomR F a b by have := hdc.out; simpa [hab] using this)
         clear hab
         go_wp2_with fail
         go_region
         go_wp2_with fail
         obtain ⟨D5, h5⟩ := fin.out true ⟨fun _ => HV.out, fun _ => rfl⟩
         go_round
         case rel => exact ⟨b + 1, by omega, by go_num, D5, h5.1.on (Below.drew (same _)), h5.2.1, h5.2.2.1, h5.2.2.2.1.drew, h5.2.2.2.2.1.drew, h5.2.2.2.2.2.1.on (Below.drew (same _)), Below.drew h5.2.2.2.2.2.2⟩
         case measure => simp [intOf]; omega
        | true =>
         rw [hgb] at k3 hdc
         have HV := hid (show ¬ DomR F a b by have := hdc.out; simpa [hab] using this)
         clear hab
         go_wp2_with fail
         go_region
         go_wp2_with fail
         obtain ⟨D5, h5⟩ := fin.out false ⟨fun h => (by cases h), fun h => absurd h HV.out⟩
         go_round
         case rel => exact ⟨b + 1, by omega, by go_num, D5, h5.1.on (Below.drew (same _)), h5.2.1, h5.2.2.1, h5.2.2.2.1.drew, h5.2.2.2.2.1.drew, h5.2.2.2.2.2.1.on (Below.drew (same _)), Below.drew h5.2.2.2.2.2.2⟩
         case measure => simp [intOf]; omega
     ·obtain rfl : b = F.blk.n := by omega
      clear hsq hDL hDA hr hg hf hb
      go_wp2_with fail
      have FIN := hid (show ∃ R D, Sq wr O w.heap.size F.blk.n (a + 1) R D ∧ (∀ i, i < a + 1 → RM < R i) ∧ (∀ i, i < a + 1 → ∀ b, b < F.blk.n → (D i b = true ↔ DomR F i b)) ∧ wr.rowIs RM 4 F.blk.n (fun i => .bool (f i)) ∧ FuncAt wr w.heap.size F ∧ Below w.heap.size w wr from ⟨R3, D4, H5.out.1, RL.out, fun i hi c hc => by
       by_cases e : i = a
       ·subst e; exact H5.out.2.2.1 c hc
       ·rw [H5.out.2.1 i (by omega), DL.out i (by omega)]; exact HS.out.2.2.1 i (by omega) c hc, H5.out.2.2.2.1, H5.out.2.2.2.2.2.1, H5.out.2.2.2.2.2.2⟩)
      go_round
      case rel =>
       first
        | exact ⟨a + 1, by omega, by go_num, FIN.out⟩
        | ((repeat apply Exists.intro); exact ⟨⟨a + 1, by omega, by go_num, FIN.out⟩, rfl⟩)
      case measure => simp [intOf]; omega
   ·have hfa' : f a = false := by simpa using hfa
    rw [hfa'] at hra
    have FIN := hid (show ∃ R D, Sq w3 O w.heap.size F.blk.n (a + 1) R D ∧ (∀ i, i < a + 1 → RM < R i) ∧ (∀ i, i < a + 1 → ∀ b, b < F.blk.n → (D i b = true ↔ DomR F i b)) ∧ w3.rowIs RM 4 F.blk.n (fun i => .bool (f i)) ∧ FuncAt w3 w.heap.size F ∧ Below w.heap.size w w3 from ⟨R3, D3, H3.out.1, RL.out, fun i hi c hc => by
     by_cases e : i = a
     ·subst e
      rw [DA.out]
      simp only [Bool.false_eq_true, false_iff]
      intro h
      exact hfa ((HFB.out i hlt).2 h.1)
     ·rw [DL.out i (by omega)]; exact HS.out.2.2.1 i (by omega) c hc, H3.out.2.1, H3.out.2.2.1, H3.out.2.2.2⟩)
    clear hfa hfa'
    go_wp2_with fail
    go_round
    case rel =>
     first
      | exact ⟨a + 1, by omega, by go_num, FIN.out⟩
      | ((repeat apply Exists.intro); exact ⟨⟨a + 1, by omega, by go_num, FIN.out⟩, rfl⟩)
    case measure => simp [intOf]; omega
  ·obtain rfl : a = F.blk.n := by omega
   clear hsq hRR hD hr hf hb
   go_wp2_with fail
   go_ret
   exact ⟨O, R, D, rfl, HS.out.1, HS.out.2.2.1, HS.out.2.2.2.2.2⟩

end Go.Proofs.YtolipafcoolpgaaGreat.Flo
