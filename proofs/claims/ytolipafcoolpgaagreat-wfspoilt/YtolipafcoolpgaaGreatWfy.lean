/-
  wf: whether an Ins has the types that its Op asks for.
-/
import Derived.Test.YtolipafcoolpgaaGreatJ14
import Derived.Test.YtolipafcoolpgaaGreatJ8
namespace Go.Proofs.YtolipafcoolpgaaGreat.Wf
open Go.RowKit View Rd Num Opn Copy Srt Go.Proofs.YtolipafcoolpgaaGreat.Mod Chk

set_option linter.unusedVariables false

theorem isT0 {v : IV} {got g : Nat → Int} {G : Int} : IsT v got G 0 g ↔ v.ty = G ∧ v.args.n = 0 := by
 unfold IsT; exact ⟨fun h => ⟨h.1, h.2.1⟩, fun h => ⟨h.1, h.2, fun i hi => by omega⟩⟩

theorem isT1 {v : IV} {got g : Nat → Int} {G : Int} : IsT v got G 1 g ↔ v.ty = G ∧ v.args.n = 1 ∧ got 0 = g 0 := by
 unfold IsT
 exact ⟨fun h => ⟨h.1, h.2.1, h.2.2 0 (by omega)⟩, fun h => ⟨h.1, h.2.1, fun i hi => (show i = 0 by omega) ▸ h.2.2⟩⟩

theorem isT2 {v : IV} {got g : Nat → Int} {G : Int} : IsT v got G 2 g ↔ v.ty = G ∧ v.args.n = 2 ∧ got 0 = g 0 ∧ got 1 = g 1 := by
 unfold IsT
 refine ⟨fun h => ⟨h.1, h.2.1, h.2.2 0 (by omega), h.2.2 1 (by omega)⟩, fun h => ⟨h.1, h.2.1, fun i hi => ?_⟩⟩
 have : i = 0 ∨ i = 1 := by omega
 rcases this with rfl | rfl
 ·exact h.2.2.1
 ·exact h.2.2.2

theorem isT3 {v : IV} {got g : Nat → Int} {G : Int} : IsT v got G 3 g ↔ v.ty = G ∧ v.args.n = 3 ∧ got 0 = g 0 ∧ got 1 = g 1 ∧ got 2 = g 2 := by
 unfold IsT
 refine ⟨fun h => ⟨h.1, h.2.1, h.2.2 0 (by omega), h.2.2 1 (by omega), h.2.2 2 (by omega)⟩, fun h => ⟨h.1, h.2.1, fun i hi => ?_⟩⟩
 have : i = 0 ∨ i = 1 ∨ i = 2 := by omega
 rcases this with rfl | rfl | rfl
 ·exact h.2.2.1
 ·exact h.2.2.2.1
 ·exact h.2.2.2.2

theorem lit3 (w : World) (x y z : Int) (f : Nat → Int) (hx : f 0 = x) (hy : f 1 = y) (hz : f 2 = z) (N : Nat) (hN : w.heap.size = N) : Ints (w.alloc (.cells #[.int .i64 x, .int .i64 y, .int .i64 z] 3)) ⟨some ⟨N, 0, none⟩, 3, 3⟩ f := by
 subst hN
 refine ⟨Nat.le_refl _, by show 3 ≤ _; omega, fun h => by simp at h, fun _ => ⟨w.heap.size, 0, rfl, fun i hi => ?_⟩⟩
 have : i = 0 ∨ i = 1 ∨ i = 2 := by simp at hi; omega
 rcases this with rfl | rfl | rfl <;> simp [hx, hy, hz]

theorem ints_negs {w : World} {g n : Nat} {y : Int} (h : w.rowIs g 3 n (Dm.negs y n)) (hn : n ≤ 1000) : Ints w ⟨some ⟨g, 0, none⟩, n, n⟩ (fun _ => y) :=
 ⟨Nat.le_refl _, by show n ≤ _; omega, fun h => by simp at h, fun _ => ⟨g, 0, rfl, fun i hi => by
  have hi' : i < n := hi
  have := h.cell (i := i) hi'
  simpa [Dm.negs, hi'] using this⟩⟩

structure TyIn (M : MV) (w : World) (v : IV) (s : Sl) (A T : Nat → Int) : Prop where
 args : Ints w v.args A
 typs : Ints w s T
 lt : ∀ i, i < v.args.n → 0 ≤ A i ∧ A i < s.n
 few : v.args.n ≤ 20
 form : formB v = true
 sym : SymI M v
 mod : InM w M
 small : SmallM M

theorem form_ty0 {v : IV} (h : formB v = true) (h1 : v.op ≠ 25) (h2 : v.op ≠ 22) (h3 : v.op ≠ 23) : (v.op = 21 ∨ endB v.op = true) ↔ v.ty = 0 := by
 unfold formB at h
 simp only [Bool.and_eq_true, Bool.or_eq_true, decide_eq_true_eq] at h
 have := h.1.2
 rcases this with h' | h'
 ·omega
 ·by_cases e : v.ty = 0 <;> by_cases e' : v.op = 21 <;> cases e2 : endB v.op <;> simp_all

abbrev tcells (v : IV) (s : Sl) : Array Value := #[.int .i64 v.op, .int .i64 v.ty, .int .i64 v.to, .int .i64 v.sym, .int .i64 v.num, .slice v.args.a v.args.n v.args.c, .slice v.into.a v.into.n v.into.c, .slice s.a s.n s.c]

abbrev gotW (A T : Nat → Int) : Nat → Int := fun i => T (A i).toNat

theorem is_at (o : Int) (v : IV) (s t : Sl) (A T g : Nat → Int) (gives : Int) (w : World) (ho : v.op = o) (hA : Ints w v.args A) (hT : Ints w s T) (ht : Ints w t g) (hr : ∀ i, i < v.args.n → 0 ≤ A i ∧ A i < s.n) (h20 : v.args.n ≤ 20) :
  Calls Tryz.prog 135 #[.agg #[.int .i64 o, .int .i64 v.ty, .int .i64 v.to, .int .i64 v.sym, .int .i64 v.num, .slice v.args.a v.args.n v.args.c, .slice v.into.a v.into.n v.into.c, .slice s.a s.n s.c], .int .i64 gives, .slice t.a t.n t.c] w fun e w' => Ans (fun r => r = true ↔ IsT v (gotW A T) gives t.n g) w e w' := by
 subst ho
 exact is_any v s t A T g gives w hA hT ht hr h20

theorem is_at' (o : Int) (k : Nat) (v : IV) (s t : Sl) (A T g : Nat → Int) (gives : Int) (w : World) (ho : v.op = o) (hk : v.sym = k) (hA : Ints w v.args A) (hT : Ints w s T) (ht : Ints w t g) (hr : ∀ i, i < v.args.n → 0 ≤ A i ∧ A i < s.n) (h20 : v.args.n ≤ 20) :
  Calls Tryz.prog 135 #[.agg #[.int .i64 o, .int .i64 v.ty, .int .i64 v.to, .int .i64 k, .int .i64 v.num, .slice v.args.a v.args.n v.args.c, .slice v.into.a v.into.n v.into.c, .slice s.a s.n s.c], .int .i64 gives, .slice t.a t.n t.c] w fun e w' => Ans (fun r => r = true ↔ IsT v (gotW A T) gives t.n g) w e w' := by
 subst ho
 rw [← hk]
 exact is_any v s t A T g gives w hA hT ht hr h20

set_option maxHeartbeats 1000000 in
theorem retFits_any (M : MV) (res : Int) (v : IV) (s : Sl) (A T : Nat → Int) (w : World) (h : TyIn M w v s A T) :
  Calls Tryz.prog 137 #[.int .i64 res, tval v s] w fun e w' => Ans (fun r => r = true ↔ if res = 0 then IsT v (gotW A T) 0 0 A else IsT v (gotW A T) 0 1 (fun _ => res)) w e w' := by
 have HH := hid h
 clear h
 by_cases e : res = 0
 ·have t1 : (res == 0) = true := by simpa using e
  have E := hid e
  clear e
  have L := hid (new (same w) (.cells (tcells v s) 116))
  go_enter Tryz.func137, Tryz.ntmps137
  go_wp2_with fail
  refine (is_any v s ⟨none, 0, 0⟩ A T A 0 _ (HH.out.args.on L.out) (HH.out.typs.on L.out) (Flo.litN _ _) HH.out.lt HH.out.few).mono ?_
  rintro e w1 ⟨r, rfl, hr, hb⟩
  have H := hid hr
  have B := hid (View.more L.out hb)
  clear hr hb
  go_wp2_with fail
  go_ret
  exact ⟨r, rfl, H.out, B.out⟩
 ·have t1 : (res == 0) = false := by simpa using e
  have E := hid e
  clear e
  have L := hid (new (new (same w) (.cells (tcells v s) 116)) (.cells #[.int .i64 res] 3))
  go_enter Tryz.func137, Tryz.ntmps137
  go_wp2_with fail
  refine (is_any v s ⟨some ⟨w.heap.size + 1, 0, none⟩, 1, 1⟩ A T (fun _ => res) 0 _ (HH.out.args.on L.out) (HH.out.typs.on L.out) (Flo.lit1 _ res (fun _ => res) rfl _ (by simp)) HH.out.lt HH.out.few).mono ?_
  rintro e w1 ⟨r, rfl, hr, hb⟩
  have H := hid hr
  have B := hid (View.more L.out hb)
  clear hr hb
  go_wp2_with fail
  go_ret
  exact ⟨r, rfl, H.out, B.out⟩

theorem retFits_at (M : MV) (o : Int) (res : Int) (v : IV) (s : Sl) (A T : Nat → Int) (w : World) (ho : v.op = o) (h : TyIn M w v s A T) :
  Calls Tryz.prog 137 #[.int .i64 res, .agg #[.int .i64 o, .int .i64 v.ty, .int .i64 v.to, .int .i64 v.sym, .int .i64 v.num, .slice v.args.a v.args.n v.args.c, .slice v.into.a v.into.n v.into.c, .slice s.a s.n s.c]] w fun e w' => Ans (fun r => r = true ↔ if res = 0 then IsT v (gotW A T) 0 0 A else IsT v (gotW A T) 0 1 (fun _ => res)) w e w' := by
 subst ho
 exact retFits_any M res v s A T w h

theorem tyStart {M : MV} {v : IV} {s : Sl} {A T : Nat → Int} {w : World} {o : Int} (he : v.op = o) (h : TyIn M w v s A T) : ∃ W, (w.alloc (.cells (mcells M) 27)).alloc (.cells (tcells v s) 116) = W ∧ Hid (Below w.heap.size w W) ∧ Hid (W.cell? ⟨w.heap.size, 0, none⟩ = some (.slice M.ext.a M.ext.n M.ext.c) ∧ W.cell? ⟨w.heap.size, 3, none⟩ = some (.slice M.fns.a M.fns.n M.fns.c)) ∧ Hid (W.cell? ⟨w.heap.size + 1, 0, none⟩ = some (.int .i64 o) ∧ W.cell? ⟨w.heap.size + 1, 1, none⟩ = some (.int .i64 v.ty) ∧ W.cell? ⟨w.heap.size + 1, 2, none⟩ = some (.int .i64 v.to) ∧ W.cell? ⟨w.heap.size + 1, 3, none⟩ = some (.int .i64 v.sym) ∧ W.cell? ⟨w.heap.size + 1, 4, none⟩ = some (.int .i64 v.num) ∧ W.cell? ⟨w.heap.size + 1, 5, none⟩ = some (.slice v.args.a v.args.n v.args.c) ∧ W.cell? ⟨w.heap.size + 1, 6, none⟩ = some (.slice v.into.a v.into.n v.into.c) ∧ W.cell? ⟨w.heap.size + 1, 7, none⟩ = some (.slice s.a s.n s.c)) ∧ Hid (TyIn M W v s A T) := by
 obtain ⟨W, hW⟩ : ∃ W, (w.alloc (.cells (mcells M) 27)).alloc (.cells (tcells v s) 116) = W := ⟨_, rfl⟩
 have LW := hid (show Below w.heap.size w W by rw [← hW]; exact new (new (same w) _) _)
 have MX := hid (show W.cell? ⟨w.heap.size, 0, none⟩ = some (.slice M.ext.a M.ext.n M.ext.c) ∧ W.cell? ⟨w.heap.size, 3, none⟩ = some (.slice M.fns.a M.fns.n M.fns.c) by
  rw [← hW]; exact ⟨cell_on (new (same _) _) (by simp), cell_on (new (same _) _) (by simp)⟩)
 have TX := hid (show W.cell? ⟨w.heap.size + 1, 0, none⟩ = some (.int .i64 o) ∧ W.cell? ⟨w.heap.size + 1, 1, none⟩ = some (.int .i64 v.ty) ∧ W.cell? ⟨w.heap.size + 1, 2, none⟩ = some (.int .i64 v.to) ∧ W.cell? ⟨w.heap.size + 1, 3, none⟩ = some (.int .i64 v.sym) ∧ W.cell? ⟨w.heap.size + 1, 4, none⟩ = some (.int .i64 v.num) ∧ W.cell? ⟨w.heap.size + 1, 5, none⟩ = some (.slice v.args.a v.args.n v.args.c) ∧ W.cell? ⟨w.heap.size + 1, 6, none⟩ = some (.slice v.into.a v.into.n v.into.c) ∧ W.cell? ⟨w.heap.size + 1, 7, none⟩ = some (.slice s.a s.n s.c) by
  rw [← hW, ← he]; exact ⟨by simp, by simp, by simp, by simp, by simp, by simp, by simp, by simp⟩)
 have HH := hid (show TyIn M W v s A T from ⟨h.args.on LW.out, h.typs.on LW.out, h.lt, h.few, h.form, h.sym, h.mod.on LW.out, h.small⟩)
 exact ⟨W, hW, LW, MX, TX, HH⟩

set_option maxRecDepth 20000 in
set_option maxHeartbeats 4000000 in
theorem tf_2 (M : MV) (F : FV) (v : IV) (s : Sl) (A T : Nat → Int) (w : World) (he : v.op = 2) (h : TyIn M w v s A T) :
  Calls Tryz.prog 84 #[M.val, .int .i64 F.res, tval v s] w fun e w' => Ans (fun r => r = true ↔ FitI M F v v.args.n (gotW A T)) w e w' := by
 obtain ⟨W, hW, LW, ⟨m0, m3⟩, ⟨x0, x1, x2, x3, x4, x5, x6, x7⟩, HH⟩ := tyStart he h
 have HA := hid (form_args h.form)
 have HE := hid he
 clear h he
 have L := hid (same W)
 go_enter Tryz.func84, Tryz.ntmps84
 go_wp2_with fail
 clear hW m0 m3 x0 x1 x2 x3 x4 x5 x6 x7
 refine (is_at 2 v s ⟨none, 0, 0⟩ A T (A) (4) _ HE.out (HH.out.args.on L.out) (HH.out.typs.on L.out) (Flo.litN _ _) HH.out.lt HH.out.few).mono ?_
 rintro e w1 ⟨r, rfl, hr, hb⟩
 have H := hid hr
 have B := hid (View.more LW.out (View.more L.out hb))
 clear hr hb
 go_wp2_with fail
 go_ret
 refine ⟨r, rfl, H.out.trans ?_, B.out⟩
 have hn : v.args.n = 0 := by have := HA.out; rw [HE.out] at this; simp [mk] at this; omega
 rw [fi_2 HE.out]
 show IsT v (gotW A T) (4) 0 (A) ↔ _
 rw [isT0]
 simp [hn]

set_option maxRecDepth 20000 in
set_option maxHeartbeats 4000000 in
theorem tf_3 (M : MV) (F : FV) (v : IV) (s : Sl) (A T : Nat → Int) (w : World) (he : v.op = 3) (h : TyIn M w v s A T) :
  Calls Tryz.prog 84 #[M.val, .int .i64 F.res, tval v s] w fun e w' => Ans (fun r => r = true ↔ FitI M F v v.args.n (gotW A T)) w e w' := by
 obtain ⟨W, hW, LW, ⟨m0, m3⟩, ⟨x0, x1, x2, x3, x4, x5, x6, x7⟩, HH⟩ := tyStart he h
 have HA := hid (form_args h.form)
 have HE := hid he
 clear h he
 have L := hid (same W)
 go_enter Tryz.func84, Tryz.ntmps84
 go_wp2_with fail
 clear hW m0 m3 x0 x1 x2 x3 x4 x5 x6 x7
 refine (is_at 3 v s ⟨none, 0, 0⟩ A T (A) (3) _ HE.out (HH.out.args.on L.out) (HH.out.typs.on L.out) (Flo.litN _ _) HH.out.lt HH.out.few).mono ?_
 rintro e w1 ⟨r, rfl, hr, hb⟩
 have H := hid hr
 have B := hid (View.more LW.out (View.more L.out hb))
 clear hr hb
 go_wp2_with fail
 go_ret
 refine ⟨r, rfl, H.out.trans ?_, B.out⟩
 have hn : v.args.n = 0 := by have := HA.out; rw [HE.out] at this; simp [mk] at this; omega
 rw [fi_3 HE.out]
 show IsT v (gotW A T) (3) 0 (A) ↔ _
 rw [isT0]
 simp [hn]

set_option maxRecDepth 20000 in
set_option maxHeartbeats 4000000 in
theorem tf_18 (M : MV) (F : FV) (v : IV) (s : Sl) (A T : Nat → Int) (w : World) (he : v.op = 18) (h : TyIn M w v s A T) :
  Calls Tryz.prog 84 #[M.val, .int .i64 F.res, tval v s] w fun e w' => Ans (fun r => r = true ↔ FitI M F v v.args.n (gotW A T)) w e w' := by
 obtain ⟨W, hW, LW, ⟨m0, m3⟩, ⟨x0, x1, x2, x3, x4, x5, x6, x7⟩, HH⟩ := tyStart he h
 have HA := hid (form_args h.form)
 have HE := hid he
 clear h he
 have L := hid (same W)
 go_enter Tryz.func84, Tryz.ntmps84
 go_wp2_with fail
 clear hW m0 m3 x0 x1 x2 x3 x4 x5 x6 x7
 refine (is_at 18 v s ⟨none, 0, 0⟩ A T (A) (3) _ HE.out (HH.out.args.on L.out) (HH.out.typs.on L.out) (Flo.litN _ _) HH.out.lt HH.out.few).mono ?_
 rintro e w1 ⟨r, rfl, hr, hb⟩
 have H := hid hr
 have B := hid (View.more LW.out (View.more L.out hb))
 clear hr hb
 go_wp2_with fail
 go_ret
 refine ⟨r, rfl, H.out.trans ?_, B.out⟩
 have hn : v.args.n = 0 := by have := HA.out; rw [HE.out] at this; simp [mk] at this; omega
 rw [fi_18 HE.out]
 show IsT v (gotW A T) (3) 0 (A) ↔ _
 rw [isT0]
 simp [hn]

set_option maxRecDepth 20000 in
set_option maxHeartbeats 4000000 in
theorem tf_4 (M : MV) (F : FV) (v : IV) (s : Sl) (A T : Nat → Int) (w : World) (he : v.op = 4) (h : TyIn M w v s A T) :
  Calls Tryz.prog 84 #[M.val, .int .i64 F.res, tval v s] w fun e w' => Ans (fun r => r = true ↔ FitI M F v v.args.n (gotW A T)) w e w' := by
 obtain ⟨W, hW, LW, ⟨m0, m3⟩, ⟨x0, x1, x2, x3, x4, x5, x6, x7⟩, HH⟩ := tyStart he h
 have HA := hid (form_args h.form)
 have HE := hid he
 clear h he
 have L := hid (new (same W) (.cells #[.int .i64 (1), .int .i64 (1)] 3))
 go_enter Tryz.func84, Tryz.ntmps84
 go_wp2_with fail
 clear hW m0 m3 x0 x1 x2 x3 x4 x5 x6 x7
 refine (is_at 4 v s ⟨some ⟨W.heap.size, 0, none⟩, 2, 2⟩ A T (fun i => ([1, 1] : List Int).getD i 0) (1) _ HE.out (HH.out.args.on L.out) (HH.out.typs.on L.out) (Flo.lit2 _ (1) (1) (fun i => ([1, 1] : List Int).getD i 0) rfl rfl _ rfl) HH.out.lt HH.out.few).mono ?_
 rintro e w1 ⟨r, rfl, hr, hb⟩
 have H := hid hr
 have B := hid (View.more LW.out (View.more L.out hb))
 clear hr hb
 go_wp2_with fail
 go_ret
 refine ⟨r, rfl, H.out.trans ?_, B.out⟩
 have hn : v.args.n = 2 := by have := HA.out; rw [HE.out] at this; simp [mk] at this; omega
 rw [fi_4 HE.out]
 show IsT v (gotW A T) (1) 2 (fun i => ([1, 1] : List Int).getD i 0) ↔ _
 rw [isT2]
 simp [hn]

set_option maxRecDepth 20000 in
set_option maxHeartbeats 4000000 in
theorem tf_5 (M : MV) (F : FV) (v : IV) (s : Sl) (A T : Nat → Int) (w : World) (he : v.op = 5) (h : TyIn M w v s A T) :
  Calls Tryz.prog 84 #[M.val, .int .i64 F.res, tval v s] w fun e w' => Ans (fun r => r = true ↔ FitI M F v v.args.n (gotW A T)) w e w' := by
 obtain ⟨W, hW, LW, ⟨m0, m3⟩, ⟨x0, x1, x2, x3, x4, x5, x6, x7⟩, HH⟩ := tyStart he h
 have HA := hid (form_args h.form)
 have HE := hid he
 clear h he
 have L := hid (new (same W) (.cells #[.int .i64 (1), .int .i64 (1)] 3))
 go_enter Tryz.func84, Tryz.ntmps84
 go_wp2_with fail
 clear hW m0 m3 x0 x1 x2 x3 x4 x5 x6 x7
 refine (is_at 5 v s ⟨some ⟨W.heap.size, 0, none⟩, 2, 2⟩ A T (fun i => ([1, 1] : List Int).getD i 0) (1) _ HE.out (HH.out.args.on L.out) (HH.out.typs.on L.out) (Flo.lit2 _ (1) (1) (fun i => ([1, 1] : List Int).getD i 0) rfl rfl _ rfl) HH.out.lt HH.out.few).mono ?_
 rintro e w1 ⟨r, rfl, hr, hb⟩
 have H := hid hr
 have B := hid (View.more LW.out (View.more L.out hb))
 clear hr hb
 go_wp2_with fail
 go_ret
 refine ⟨r, rfl, H.out.trans ?_, B.out⟩
 have hn : v.args.n = 2 := by have := HA.out; rw [HE.out] at this; simp [mk] at this; omega
 rw [fi_5 HE.out]
 show IsT v (gotW A T) (1) 2 (fun i => ([1, 1] : List Int).getD i 0) ↔ _
 rw [isT2]
 simp [hn]

set_option maxRecDepth 20000 in
set_option maxHeartbeats 4000000 in
theorem tf_6 (M : MV) (F : FV) (v : IV) (s : Sl) (A T : Nat → Int) (w : World) (he : v.op = 6) (h : TyIn M w v s A T) :
  Calls Tryz.prog 84 #[M.val, .int .i64 F.res, tval v s] w fun e w' => Ans (fun r => r = true ↔ FitI M F v v.args.n (gotW A T)) w e w' := by
 obtain ⟨W, hW, LW, ⟨m0, m3⟩, ⟨x0, x1, x2, x3, x4, x5, x6, x7⟩, HH⟩ := tyStart he h
 have HA := hid (form_args h.form)
 have HE := hid he
 clear h he
 have L := hid (new (same W) (.cells #[.int .i64 (1), .int .i64 (1)] 3))
 go_enter Tryz.func84, Tryz.ntmps84
 go_wp2_with fail
 clear hW m0 m3 x0 x1 x2 x3 x4 x5 x6 x7
 refine (is_at 6 v s ⟨some ⟨W.heap.size, 0, none⟩, 2, 2⟩ A T (fun i => ([1, 1] : List Int).getD i 0) (1) _ HE.out (HH.out.args.on L.out) (HH.out.typs.on L.out) (Flo.lit2 _ (1) (1) (fun i => ([1, 1] : List Int).getD i 0) rfl rfl _ rfl) HH.out.lt HH.out.few).mono ?_
 rintro e w1 ⟨r, rfl, hr, hb⟩
 have H := hid hr
 have B := hid (View.more LW.out (View.more L.out hb))
 clear hr hb
 go_wp2_with fail
 go_ret
 refine ⟨r, rfl, H.out.trans ?_, B.out⟩
 have hn : v.args.n = 2 := by have := HA.out; rw [HE.out] at this; simp [mk] at this; omega
 rw [fi_6 HE.out]
 show IsT v (gotW A T) (1) 2 (fun i => ([1, 1] : List Int).getD i 0) ↔ _
 rw [isT2]
 simp [hn]

set_option maxRecDepth 20000 in
set_option maxHeartbeats 4000000 in
theorem tf_7 (M : MV) (F : FV) (v : IV) (s : Sl) (A T : Nat → Int) (w : World) (he : v.op = 7) (h : TyIn M w v s A T) :
  Calls Tryz.prog 84 #[M.val, .int .i64 F.res, tval v s] w fun e w' => Ans (fun r => r = true ↔ FitI M F v v.args.n (gotW A T)) w e w' := by
 obtain ⟨W, hW, LW, ⟨m0, m3⟩, ⟨x0, x1, x2, x3, x4, x5, x6, x7⟩, HH⟩ := tyStart he h
 have HA := hid (form_args h.form)
 have HE := hid he
 clear h he
 have L := hid (new (same W) (.cells #[.int .i64 (1), .int .i64 (1)] 3))
 go_enter Tryz.func84, Tryz.ntmps84
 go_wp2_with fail
 clear hW m0 m3 x0 x1 x2 x3 x4 x5 x6 x7
 refine (is_at 7 v s ⟨some ⟨W.heap.size, 0, none⟩, 2, 2⟩ A T (fun i => ([1, 1] : List Int).getD i 0) (1) _ HE.out (HH.out.args.on L.out) (HH.out.typs.on L.out) (Flo.lit2 _ (1) (1) (fun i => ([1, 1] : List Int).getD i 0) rfl rfl _ rfl) HH.out.lt HH.out.few).mono ?_
 rintro e w1 ⟨r, rfl, hr, hb⟩
 have H := hid hr
 have B := hid (View.more LW.out (View.more L.out hb))
 clear hr hb
 go_wp2_with fail
 go_ret
 refine ⟨r, rfl, H.out.trans ?_, B.out⟩
 have hn : v.args.n = 2 := by have := HA.out; rw [HE.out] at this; simp [mk] at this; omega
 rw [fi_7 HE.out]
 show IsT v (gotW A T) (1) 2 (fun i => ([1, 1] : List Int).getD i 0) ↔ _
 rw [isT2]
 simp [hn]

set_option maxRecDepth 20000 in
set_option maxHeartbeats 4000000 in
theorem tf_8 (M : MV) (F : FV) (v : IV) (s : Sl) (A T : Nat → Int) (w : World) (he : v.op = 8) (h : TyIn M w v s A T) :
  Calls Tryz.prog 84 #[M.val, .int .i64 F.res, tval v s] w fun e w' => Ans (fun r => r = true ↔ FitI M F v v.args.n (gotW A T)) w e w' := by
 obtain ⟨W, hW, LW, ⟨m0, m3⟩, ⟨x0, x1, x2, x3, x4, x5, x6, x7⟩, HH⟩ := tyStart he h
 have HA := hid (form_args h.form)
 have HE := hid he
 clear h he
 have L := hid (new (same W) (.cells #[.int .i64 (1), .int .i64 (1)] 3))
 go_enter Tryz.func84, Tryz.ntmps84
 go_wp2_with fail
 clear hW m0 m3 x0 x1 x2 x3 x4 x5 x6 x7
 refine (is_at 8 v s ⟨some ⟨W.heap.size, 0, none⟩, 2, 2⟩ A T (fun i => ([1, 1] : List Int).getD i 0) (1) _ HE.out (HH.out.args.on L.out) (HH.out.typs.on L.out) (Flo.lit2 _ (1) (1) (fun i => ([1, 1] : List Int).getD i 0) rfl rfl _ rfl) HH.out.lt HH.out.few).mono ?_
 rintro e w1 ⟨r, rfl, hr, hb⟩
 have H := hid hr
 have B := hid (View.more LW.out (View.more L.out hb))
 clear hr hb
 go_wp2_with fail
 go_ret
 refine ⟨r, rfl, H.out.trans ?_, B.out⟩
 have hn : v.args.n = 2 := by have := HA.out; rw [HE.out] at this; simp [mk] at this; omega
 rw [fi_8 HE.out]
 show IsT v (gotW A T) (1) 2 (fun i => ([1, 1] : List Int).getD i 0) ↔ _
 rw [isT2]
 simp [hn]

set_option maxRecDepth 20000 in
set_option maxHeartbeats 4000000 in
theorem tf_9 (M : MV) (F : FV) (v : IV) (s : Sl) (A T : Nat → Int) (w : World) (he : v.op = 9) (h : TyIn M w v s A T) :
  Calls Tryz.prog 84 #[M.val, .int .i64 F.res, tval v s] w fun e w' => Ans (fun r => r = true ↔ FitI M F v v.args.n (gotW A T)) w e w' := by
 obtain ⟨W, hW, LW, ⟨m0, m3⟩, ⟨x0, x1, x2, x3, x4, x5, x6, x7⟩, HH⟩ := tyStart he h
 have HA := hid (form_args h.form)
 have HE := hid he
 clear h he
 have L := hid (new (same W) (.cells #[.int .i64 (1), .int .i64 (1)] 3))
 go_enter Tryz.func84, Tryz.ntmps84
 go_wp2_with fail
 clear hW m0 m3 x0 x1 x2 x3 x4 x5 x6 x7
 refine (is_at 9 v s ⟨some ⟨W.heap.size, 0, none⟩, 2, 2⟩ A T (fun i => ([1, 1] : List Int).getD i 0) (1) _ HE.out (HH.out.args.on L.out) (HH.out.typs.on L.out) (Flo.lit2 _ (1) (1) (fun i => ([1, 1] : List Int).getD i 0) rfl rfl _ rfl) HH.out.lt HH.out.few).mono ?_
 rintro e w1 ⟨r, rfl, hr, hb⟩
 have H := hid hr
 have B := hid (View.more LW.out (View.more L.out hb))
 clear hr hb
 go_wp2_with fail
 go_ret
 refine ⟨r, rfl, H.out.trans ?_, B.out⟩
 have hn : v.args.n = 2 := by have := HA.out; rw [HE.out] at this; simp [mk] at this; omega
 rw [fi_9 HE.out]
 show IsT v (gotW A T) (1) 2 (fun i => ([1, 1] : List Int).getD i 0) ↔ _
 rw [isT2]
 simp [hn]

set_option maxRecDepth 20000 in
set_option maxHeartbeats 4000000 in
theorem tf_10 (M : MV) (F : FV) (v : IV) (s : Sl) (A T : Nat → Int) (w : World) (he : v.op = 10) (h : TyIn M w v s A T) :
  Calls Tryz.prog 84 #[M.val, .int .i64 F.res, tval v s] w fun e w' => Ans (fun r => r = true ↔ FitI M F v v.args.n (gotW A T)) w e w' := by
 obtain ⟨W, hW, LW, ⟨m0, m3⟩, ⟨x0, x1, x2, x3, x4, x5, x6, x7⟩, HH⟩ := tyStart he h
 have HA := hid (form_args h.form)
 have HE := hid he
 clear h he
 have L := hid (new (same W) (.cells #[.int .i64 (1), .int .i64 (1)] 3))
 go_enter Tryz.func84, Tryz.ntmps84
 go_wp2_with fail
 clear hW m0 m3 x0 x1 x2 x3 x4 x5 x6 x7
 refine (is_at 10 v s ⟨some ⟨W.heap.size, 0, none⟩, 2, 2⟩ A T (fun i => ([1, 1] : List Int).getD i 0) (1) _ HE.out (HH.out.args.on L.out) (HH.out.typs.on L.out) (Flo.lit2 _ (1) (1) (fun i => ([1, 1] : List Int).getD i 0) rfl rfl _ rfl) HH.out.lt HH.out.few).mono ?_
 rintro e w1 ⟨r, rfl, hr, hb⟩
 have H := hid hr
 have B := hid (View.more LW.out (View.more L.out hb))
 clear hr hb
 go_wp2_with fail
 go_ret
 refine ⟨r, rfl, H.out.trans ?_, B.out⟩
 have hn : v.args.n = 2 := by have := HA.out; rw [HE.out] at this; simp [mk] at this; omega
 rw [fi_10 HE.out]
 show IsT v (gotW A T) (1) 2 (fun i => ([1, 1] : List Int).getD i 0) ↔ _
 rw [isT2]
 simp [hn]

set_option maxRecDepth 20000 in
set_option maxHeartbeats 4000000 in
theorem tf_11 (M : MV) (F : FV) (v : IV) (s : Sl) (A T : Nat → Int) (w : World) (he : v.op = 11) (h : TyIn M w v s A T) :
  Calls Tryz.prog 84 #[M.val, .int .i64 F.res, tval v s] w fun e w' => Ans (fun r => r = true ↔ FitI M F v v.args.n (gotW A T)) w e w' := by
 obtain ⟨W, hW, LW, ⟨m0, m3⟩, ⟨x0, x1, x2, x3, x4, x5, x6, x7⟩, HH⟩ := tyStart he h
 have HA := hid (form_args h.form)
 have HE := hid he
 clear h he
 have L := hid (new (same W) (.cells #[.int .i64 (1), .int .i64 (1)] 3))
 go_enter Tryz.func84, Tryz.ntmps84
 go_wp2_with fail
 clear hW m0 m3 x0 x1 x2 x3 x4 x5 x6 x7
 refine (is_at 11 v s ⟨some ⟨W.heap.size, 0, none⟩, 2, 2⟩ A T (fun i => ([1, 1] : List Int).getD i 0) (1) _ HE.out (HH.out.args.on L.out) (HH.out.typs.on L.out) (Flo.lit2 _ (1) (1) (fun i => ([1, 1] : List Int).getD i 0) rfl rfl _ rfl) HH.out.lt HH.out.few).mono ?_
 rintro e w1 ⟨r, rfl, hr, hb⟩
 have H := hid hr
 have B := hid (View.more LW.out (View.more L.out hb))
 clear hr hb
 go_wp2_with fail
 go_ret
 refine ⟨r, rfl, H.out.trans ?_, B.out⟩
 have hn : v.args.n = 2 := by have := HA.out; rw [HE.out] at this; simp [mk] at this; omega
 rw [fi_11 HE.out]
 show IsT v (gotW A T) (1) 2 (fun i => ([1, 1] : List Int).getD i 0) ↔ _
 rw [isT2]
 simp [hn]

set_option maxRecDepth 20000 in
set_option maxHeartbeats 4000000 in
theorem tf_12 (M : MV) (F : FV) (v : IV) (s : Sl) (A T : Nat → Int) (w : World) (he : v.op = 12) (h : TyIn M w v s A T) :
  Calls Tryz.prog 84 #[M.val, .int .i64 F.res, tval v s] w fun e w' => Ans (fun r => r = true ↔ FitI M F v v.args.n (gotW A T)) w e w' := by
 obtain ⟨W, hW, LW, ⟨m0, m3⟩, ⟨x0, x1, x2, x3, x4, x5, x6, x7⟩, HH⟩ := tyStart he h
 have HA := hid (form_args h.form)
 have HE := hid he
 clear h he
 have L := hid (new (same W) (.cells #[.int .i64 (1), .int .i64 (1)] 3))
 go_enter Tryz.func84, Tryz.ntmps84
 go_wp2_with fail
 clear hW m0 m3 x0 x1 x2 x3 x4 x5 x6 x7
 refine (is_at 12 v s ⟨some ⟨W.heap.size, 0, none⟩, 2, 2⟩ A T (fun i => ([1, 1] : List Int).getD i 0) (1) _ HE.out (HH.out.args.on L.out) (HH.out.typs.on L.out) (Flo.lit2 _ (1) (1) (fun i => ([1, 1] : List Int).getD i 0) rfl rfl _ rfl) HH.out.lt HH.out.few).mono ?_
 rintro e w1 ⟨r, rfl, hr, hb⟩
 have H := hid hr
 have B := hid (View.more LW.out (View.more L.out hb))
 clear hr hb
 go_wp2_with fail
 go_ret
 refine ⟨r, rfl, H.out.trans ?_, B.out⟩
 have hn : v.args.n = 2 := by have := HA.out; rw [HE.out] at this; simp [mk] at this; omega
 rw [fi_12 HE.out]
 show IsT v (gotW A T) (1) 2 (fun i => ([1, 1] : List Int).getD i 0) ↔ _
 rw [isT2]
 simp [hn]

set_option maxRecDepth 20000 in
set_option maxHeartbeats 4000000 in
theorem tf_13 (M : MV) (F : FV) (v : IV) (s : Sl) (A T : Nat → Int) (w : World) (he : v.op = 13) (h : TyIn M w v s A T) :
  Calls Tryz.prog 84 #[M.val, .int .i64 F.res, tval v s] w fun e w' => Ans (fun r => r = true ↔ FitI M F v v.args.n (gotW A T)) w e w' := by
 obtain ⟨W, hW, LW, ⟨m0, m3⟩, ⟨x0, x1, x2, x3, x4, x5, x6, x7⟩, HH⟩ := tyStart he h
 have HA := hid (form_args h.form)
 have HE := hid he
 clear h he
 have L := hid (new (same W) (.cells #[.int .i64 (1), .int .i64 (1)] 3))
 go_enter Tryz.func84, Tryz.ntmps84
 go_wp2_with fail
 clear hW m0 m3 x0 x1 x2 x3 x4 x5 x6 x7
 refine (is_at 13 v s ⟨some ⟨W.heap.size, 0, none⟩, 2, 2⟩ A T (fun i => ([1, 1] : List Int).getD i 0) (1) _ HE.out (HH.out.args.on L.out) (HH.out.typs.on L.out) (Flo.lit2 _ (1) (1) (fun i => ([1, 1] : List Int).getD i 0) rfl rfl _ rfl) HH.out.lt HH.out.few).mono ?_
 rintro e w1 ⟨r, rfl, hr, hb⟩
 have H := hid hr
 have B := hid (View.more LW.out (View.more L.out hb))
 clear hr hb
 go_wp2_with fail
 go_ret
 refine ⟨r, rfl, H.out.trans ?_, B.out⟩
 have hn : v.args.n = 2 := by have := HA.out; rw [HE.out] at this; simp [mk] at this; omega
 rw [fi_13 HE.out]
 show IsT v (gotW A T) (1) 2 (fun i => ([1, 1] : List Int).getD i 0) ↔ _
 rw [isT2]
 simp [hn]

set_option maxRecDepth 20000 in
set_option maxHeartbeats 4000000 in
theorem tf_14 (M : MV) (F : FV) (v : IV) (s : Sl) (A T : Nat → Int) (w : World) (he : v.op = 14) (h : TyIn M w v s A T) :
  Calls Tryz.prog 84 #[M.val, .int .i64 F.res, tval v s] w fun e w' => Ans (fun r => r = true ↔ FitI M F v v.args.n (gotW A T)) w e w' := by
 obtain ⟨W, hW, LW, ⟨m0, m3⟩, ⟨x0, x1, x2, x3, x4, x5, x6, x7⟩, HH⟩ := tyStart he h
 have HA := hid (form_args h.form)
 have HE := hid he
 clear h he
 have L := hid (new (same W) (.cells #[.int .i64 (1), .int .i64 (1)] 3))
 go_enter Tryz.func84, Tryz.ntmps84
 go_wp2_with fail
 clear hW m0 m3 x0 x1 x2 x3 x4 x5 x6 x7
 refine (is_at 14 v s ⟨some ⟨W.heap.size, 0, none⟩, 2, 2⟩ A T (fun i => ([1, 1] : List Int).getD i 0) (2) _ HE.out (HH.out.args.on L.out) (HH.out.typs.on L.out) (Flo.lit2 _ (1) (1) (fun i => ([1, 1] : List Int).getD i 0) rfl rfl _ rfl) HH.out.lt HH.out.few).mono ?_
 rintro e w1 ⟨r, rfl, hr, hb⟩
 have H := hid hr
 have B := hid (View.more LW.out (View.more L.out hb))
 clear hr hb
 go_wp2_with fail
 go_ret
 refine ⟨r, rfl, H.out.trans ?_, B.out⟩
 have hn : v.args.n = 2 := by have := HA.out; rw [HE.out] at this; simp [mk] at this; omega
 rw [fi_14 HE.out]
 show IsT v (gotW A T) (2) 2 (fun i => ([1, 1] : List Int).getD i 0) ↔ _
 rw [isT2]
 simp [hn]

set_option maxRecDepth 20000 in
set_option maxHeartbeats 4000000 in
theorem tf_15 (M : MV) (F : FV) (v : IV) (s : Sl) (A T : Nat → Int) (w : World) (he : v.op = 15) (h : TyIn M w v s A T) :
  Calls Tryz.prog 84 #[M.val, .int .i64 F.res, tval v s] w fun e w' => Ans (fun r => r = true ↔ FitI M F v v.args.n (gotW A T)) w e w' := by
 obtain ⟨W, hW, LW, ⟨m0, m3⟩, ⟨x0, x1, x2, x3, x4, x5, x6, x7⟩, HH⟩ := tyStart he h
 have HA := hid (form_args h.form)
 have HE := hid he
 clear h he
 have L := hid (new (same W) (.cells #[.int .i64 (1), .int .i64 (1)] 3))
 go_enter Tryz.func84, Tryz.ntmps84
 go_wp2_with fail
 clear hW m0 m3 x0 x1 x2 x3 x4 x5 x6 x7
 refine (is_at 15 v s ⟨some ⟨W.heap.size, 0, none⟩, 2, 2⟩ A T (fun i => ([1, 1] : List Int).getD i 0) (2) _ HE.out (HH.out.args.on L.out) (HH.out.typs.on L.out) (Flo.lit2 _ (1) (1) (fun i => ([1, 1] : List Int).getD i 0) rfl rfl _ rfl) HH.out.lt HH.out.few).mono ?_
 rintro e w1 ⟨r, rfl, hr, hb⟩
 have H := hid hr
 have B := hid (View.more LW.out (View.more L.out hb))
 clear hr hb
 go_wp2_with fail
 go_ret
 refine ⟨r, rfl, H.out.trans ?_, B.out⟩
 have hn : v.args.n = 2 := by have := HA.out; rw [HE.out] at this; simp [mk] at this; omega
 rw [fi_15 HE.out]
 show IsT v (gotW A T) (2) 2 (fun i => ([1, 1] : List Int).getD i 0) ↔ _
 rw [isT2]
 simp [hn]

set_option maxRecDepth 20000 in
set_option maxHeartbeats 4000000 in
theorem tf_16 (M : MV) (F : FV) (v : IV) (s : Sl) (A T : Nat → Int) (w : World) (he : v.op = 16) (h : TyIn M w v s A T) :
  Calls Tryz.prog 84 #[M.val, .int .i64 F.res, tval v s] w fun e w' => Ans (fun r => r = true ↔ FitI M F v v.args.n (gotW A T)) w e w' := by
 obtain ⟨W, hW, LW, ⟨m0, m3⟩, ⟨x0, x1, x2, x3, x4, x5, x6, x7⟩, HH⟩ := tyStart he h
 have HA := hid (form_args h.form)
 have HE := hid he
 clear h he
 have L := hid (new (same W) (.cells #[.int .i64 (2)] 3))
 go_enter Tryz.func84, Tryz.ntmps84
 go_wp2_with fail
 clear hW m0 m3 x0 x1 x2 x3 x4 x5 x6 x7
 refine (is_at 16 v s ⟨some ⟨W.heap.size, 0, none⟩, 1, 1⟩ A T (fun i => ([2] : List Int).getD i 0) (2) _ HE.out (HH.out.args.on L.out) (HH.out.typs.on L.out) (Flo.lit1 _ (2) (fun i => ([2] : List Int).getD i 0) rfl _ rfl) HH.out.lt HH.out.few).mono ?_
 rintro e w1 ⟨r, rfl, hr, hb⟩
 have H := hid hr
 have B := hid (View.more LW.out (View.more L.out hb))
 clear hr hb
 go_wp2_with fail
 go_ret
 refine ⟨r, rfl, H.out.trans ?_, B.out⟩
 have hn : v.args.n = 1 := by have := HA.out; rw [HE.out] at this; simp [mk] at this; omega
 rw [fi_16 HE.out]
 show IsT v (gotW A T) (2) 1 (fun i => ([2] : List Int).getD i 0) ↔ _
 rw [isT1]
 simp [hn]

set_option maxRecDepth 20000 in
set_option maxHeartbeats 4000000 in
theorem tf_17 (M : MV) (F : FV) (v : IV) (s : Sl) (A T : Nat → Int) (w : World) (he : v.op = 17) (h : TyIn M w v s A T) :
  Calls Tryz.prog 84 #[M.val, .int .i64 F.res, tval v s] w fun e w' => Ans (fun r => r = true ↔ FitI M F v v.args.n (gotW A T)) w e w' := by
 obtain ⟨W, hW, LW, ⟨m0, m3⟩, ⟨x0, x1, x2, x3, x4, x5, x6, x7⟩, HH⟩ := tyStart he h
 have HA := hid (form_args h.form)
 have HE := hid he
 clear h he
 have L := hid (new (same W) (.cells #[.int .i64 (2), .int .i64 (v.ty), .int .i64 (v.ty)] 3))
 go_enter Tryz.func84, Tryz.ntmps84
 go_wp2_with fail
 clear hW m0 m3 x0 x1 x2 x3 x4 x5 x6 x7
 refine (is_at 17 v s ⟨some ⟨W.heap.size, 0, none⟩, 3, 3⟩ A T (fun i => ([2, v.ty, v.ty] : List Int).getD i 0) (v.ty) _ HE.out (HH.out.args.on L.out) (HH.out.typs.on L.out) (lit3 _ (2) (v.ty) (v.ty) (fun i => ([2, v.ty, v.ty] : List Int).getD i 0) rfl rfl rfl _ rfl) HH.out.lt HH.out.few).mono ?_
 rintro e w1 ⟨r, rfl, hr, hb⟩
 have H := hid hr
 have B := hid (View.more LW.out (View.more L.out hb))
 clear hr hb
 go_wp2_with fail
 go_ret
 refine ⟨r, rfl, H.out.trans ?_, B.out⟩
 have hn : v.args.n = 3 := by have := HA.out; rw [HE.out] at this; simp [mk] at this; omega
 rw [fi_17 HE.out]
 show IsT v (gotW A T) (v.ty) 3 (fun i => ([2, v.ty, v.ty] : List Int).getD i 0) ↔ _
 rw [isT3]
 simp [hn]

set_option maxRecDepth 20000 in
set_option maxHeartbeats 4000000 in
theorem tf_19 (M : MV) (F : FV) (v : IV) (s : Sl) (A T : Nat → Int) (w : World) (he : v.op = 19) (h : TyIn M w v s A T) :
  Calls Tryz.prog 84 #[M.val, .int .i64 F.res, tval v s] w fun e w' => Ans (fun r => r = true ↔ FitI M F v v.args.n (gotW A T)) w e w' := by
 obtain ⟨W, hW, LW, ⟨m0, m3⟩, ⟨x0, x1, x2, x3, x4, x5, x6, x7⟩, HH⟩ := tyStart he h
 have HA := hid (form_args h.form)
 have HE := hid he
 clear h he
 have L := hid (new (same W) (.cells #[.int .i64 (3), .int .i64 (1)] 3))
 go_enter Tryz.func84, Tryz.ntmps84
 go_wp2_with fail
 clear hW m0 m3 x0 x1 x2 x3 x4 x5 x6 x7
 refine (is_at 19 v s ⟨some ⟨W.heap.size, 0, none⟩, 2, 2⟩ A T (fun i => ([3, 1] : List Int).getD i 0) (3) _ HE.out (HH.out.args.on L.out) (HH.out.typs.on L.out) (Flo.lit2 _ (3) (1) (fun i => ([3, 1] : List Int).getD i 0) rfl rfl _ rfl) HH.out.lt HH.out.few).mono ?_
 rintro e w1 ⟨r, rfl, hr, hb⟩
 have H := hid hr
 have B := hid (View.more LW.out (View.more L.out hb))
 clear hr hb
 go_wp2_with fail
 go_ret
 refine ⟨r, rfl, H.out.trans ?_, B.out⟩
 have hn : v.args.n = 2 := by have := HA.out; rw [HE.out] at this; simp [mk] at this; omega
 rw [fi_19 HE.out]
 show IsT v (gotW A T) (3) 2 (fun i => ([3, 1] : List Int).getD i 0) ↔ _
 rw [isT2]
 simp [hn]

set_option maxRecDepth 20000 in
set_option maxHeartbeats 4000000 in
theorem tf_20 (M : MV) (F : FV) (v : IV) (s : Sl) (A T : Nat → Int) (w : World) (he : v.op = 20) (h : TyIn M w v s A T) :
  Calls Tryz.prog 84 #[M.val, .int .i64 F.res, tval v s] w fun e w' => Ans (fun r => r = true ↔ FitI M F v v.args.n (gotW A T)) w e w' := by
 obtain ⟨W, hW, LW, ⟨m0, m3⟩, ⟨x0, x1, x2, x3, x4, x5, x6, x7⟩, HH⟩ := tyStart he h
 have HA := hid (form_args h.form)
 have HE := hid he
 clear h he
 have L := hid (new (same W) (.cells #[.int .i64 (3)] 3))
 go_enter Tryz.func84, Tryz.ntmps84
 go_wp2_with fail
 clear hW m0 m3 x0 x1 x2 x3 x4 x5 x6 x7
 refine (is_at 20 v s ⟨some ⟨W.heap.size, 0, none⟩, 1, 1⟩ A T (fun i => ([3] : List Int).getD i 0) (1) _ HE.out (HH.out.args.on L.out) (HH.out.typs.on L.out) (Flo.lit1 _ (3) (fun i => ([3] : List Int).getD i 0) rfl _ rfl) HH.out.lt HH.out.few).mono ?_
 rintro e w1 ⟨r, rfl, hr, hb⟩
 have H := hid hr
 have B := hid (View.more LW.out (View.more L.out hb))
 clear hr hb
 go_wp2_with fail
 go_ret
 refine ⟨r, rfl, H.out.trans ?_, B.out⟩
 have hn : v.args.n = 1 := by have := HA.out; rw [HE.out] at this; simp [mk] at this; omega
 rw [fi_20 HE.out]
 show IsT v (gotW A T) (1) 1 (fun i => ([3] : List Int).getD i 0) ↔ _
 rw [isT1]
 simp [hn]

set_option maxRecDepth 20000 in
set_option maxHeartbeats 4000000 in
theorem tf_21 (M : MV) (F : FV) (v : IV) (s : Sl) (A T : Nat → Int) (w : World) (he : v.op = 21) (h : TyIn M w v s A T) :
  Calls Tryz.prog 84 #[M.val, .int .i64 F.res, tval v s] w fun e w' => Ans (fun r => r = true ↔ FitI M F v v.args.n (gotW A T)) w e w' := by
 obtain ⟨W, hW, LW, ⟨m0, m3⟩, ⟨x0, x1, x2, x3, x4, x5, x6, x7⟩, HH⟩ := tyStart he h
 have HA := hid (form_args h.form)
 have HE := hid he
 clear h he
 have L := hid (new (same W) (.cells #[.int .i64 (3), .int .i64 (1)] 3))
 go_enter Tryz.func84, Tryz.ntmps84
 go_wp2_with fail
 clear hW m0 m3 x0 x1 x2 x3 x4 x5 x6 x7
 refine (is_at 21 v s ⟨some ⟨W.heap.size, 0, none⟩, 2, 2⟩ A T (fun i => ([3, 1] : List Int).getD i 0) (0) _ HE.out (HH.out.args.on L.out) (HH.out.typs.on L.out) (Flo.lit2 _ (3) (1) (fun i => ([3, 1] : List Int).getD i 0) rfl rfl _ rfl) HH.out.lt HH.out.few).mono ?_
 rintro e w1 ⟨r, rfl, hr, hb⟩
 have H := hid hr
 have B := hid (View.more LW.out (View.more L.out hb))
 clear hr hb
 go_wp2_with fail
 go_ret
 refine ⟨r, rfl, H.out.trans ?_, B.out⟩
 have hn : v.args.n = 2 := by have := HA.out; rw [HE.out] at this; simp [mk] at this; omega
 have hz : v.ty = 0 := (form_ty0 HH.out.form (by rw [HE.out]; decide) (by rw [HE.out]; decide) (by rw [HE.out]; decide)).1 (by rw [HE.out]; simp [endB])
 rw [fi_21 HE.out]
 show IsT v (gotW A T) (0) 2 (fun i => ([3, 1] : List Int).getD i 0) ↔ _
 rw [isT2]
 simp [hn, hz]

set_option maxRecDepth 20000 in
set_option maxHeartbeats 4000000 in
theorem tf_24 (M : MV) (F : FV) (v : IV) (s : Sl) (A T : Nat → Int) (w : World) (he : v.op = 24) (h : TyIn M w v s A T) :
  Calls Tryz.prog 84 #[M.val, .int .i64 F.res, tval v s] w fun e w' => Ans (fun r => r = true ↔ FitI M F v v.args.n (gotW A T)) w e w' := by
 obtain ⟨W, hW, LW, ⟨m0, m3⟩, ⟨x0, x1, x2, x3, x4, x5, x6, x7⟩, HH⟩ := tyStart he h
 have HA := hid (form_args h.form)
 have HE := hid he
 clear h he
 have L := hid (new (same W) (.cells #[.int .i64 (1)] 3))
 go_enter Tryz.func84, Tryz.ntmps84
 go_wp2_with fail
 clear hW m0 m3 x0 x1 x2 x3 x4 x5 x6 x7
 refine (is_at 24 v s ⟨some ⟨W.heap.size, 0, none⟩, 1, 1⟩ A T (fun i => ([1] : List Int).getD i 0) (4) _ HE.out (HH.out.args.on L.out) (HH.out.typs.on L.out) (Flo.lit1 _ (1) (fun i => ([1] : List Int).getD i 0) rfl _ rfl) HH.out.lt HH.out.few).mono ?_
 rintro e w1 ⟨r, rfl, hr, hb⟩
 have H := hid hr
 have B := hid (View.more LW.out (View.more L.out hb))
 clear hr hb
 go_wp2_with fail
 go_ret
 refine ⟨r, rfl, H.out.trans ?_, B.out⟩
 have hn : v.args.n = 1 := by have := HA.out; rw [HE.out] at this; simp [mk] at this; omega
 rw [fi_24 HE.out]
 show IsT v (gotW A T) (4) 1 (fun i => ([1] : List Int).getD i 0) ↔ _
 rw [isT1]
 simp [hn]

set_option maxRecDepth 20000 in
set_option maxHeartbeats 4000000 in
theorem tf_28 (M : MV) (F : FV) (v : IV) (s : Sl) (A T : Nat → Int) (w : World) (he : v.op = 28) (h : TyIn M w v s A T) :
  Calls Tryz.prog 84 #[M.val, .int .i64 F.res, tval v s] w fun e w' => Ans (fun r => r = true ↔ FitI M F v v.args.n (gotW A T)) w e w' := by
 obtain ⟨W, hW, LW, ⟨m0, m3⟩, ⟨x0, x1, x2, x3, x4, x5, x6, x7⟩, HH⟩ := tyStart he h
 have HA := hid (form_args h.form)
 have HE := hid he
 clear h he
 have L := hid (new (same W) (.cells #[.int .i64 (2)] 3))
 go_enter Tryz.func84, Tryz.ntmps84
 go_wp2_with fail
 clear hW m0 m3 x0 x1 x2 x3 x4 x5 x6 x7
 refine (is_at 28 v s ⟨some ⟨W.heap.size, 0, none⟩, 1, 1⟩ A T (fun i => ([2] : List Int).getD i 0) (0) _ HE.out (HH.out.args.on L.out) (HH.out.typs.on L.out) (Flo.lit1 _ (2) (fun i => ([2] : List Int).getD i 0) rfl _ rfl) HH.out.lt HH.out.few).mono ?_
 rintro e w1 ⟨r, rfl, hr, hb⟩
 have H := hid hr
 have B := hid (View.more LW.out (View.more L.out hb))
 clear hr hb
 go_wp2_with fail
 go_ret
 refine ⟨r, rfl, H.out.trans ?_, B.out⟩
 have hn : v.args.n = 1 := by have := HA.out; rw [HE.out] at this; simp [mk] at this; omega
 have hz : v.ty = 0 := (form_ty0 HH.out.form (by rw [HE.out]; decide) (by rw [HE.out]; decide) (by rw [HE.out]; decide)).1 (by rw [HE.out]; simp [endB])
 rw [fi_28 HE.out]
 show IsT v (gotW A T) (0) 1 (fun i => ([2] : List Int).getD i 0) ↔ _
 rw [isT1]
 simp [hn, hz]

set_option maxRecDepth 20000 in
set_option maxHeartbeats 4000000 in
theorem tf_1 (M : MV) (F : FV) (v : IV) (s : Sl) (A T : Nat → Int) (w : World) (he : v.op = 1) (h : TyIn M w v s A T) :
  Calls Tryz.prog 84 #[M.val, .int .i64 F.res, tval v s] w fun e w' => Ans (fun r => r = true ↔ FitI M F v v.args.n (gotW A T)) w e w' := by
 obtain ⟨W, hW, LW, MX, TX, HH⟩ := tyStart he h
 obtain ⟨m0, m3⟩ := MX.out
 obtain ⟨x0, x1, x2, x3, x4, x5, x6, x7⟩ := TX.out
 have HA := hid (form_args h.form)
 have HE := hid he
 clear h he
 have hn : v.args.n = 0 := by have := HA.out; rw [HE.out] at this; simp [mk] at this; omega
 have FI := hid (@fi_1 M F v v.args.n (gotW A T) HE.out)
 by_cases q1 : v.ty = 1
 ·have FV := hid (show FitI M F v v.args.n (gotW A T) from FI.out.2 (.inl q1))
  have K1 := hid (show IsT v (gotW A T) 1 0 A ↔ True by rw [isT0]; simp [hn, q1])
  clear q1 hn
  go_enter Tryz.func84, Tryz.ntmps84
  go_wp2_with first
   | (go_at_call 135; refine (is_at 1 v s ⟨none, 0, 0⟩ A T A 1 _ HE.out HH.out.args HH.out.typs (Flo.litN _ _) HH.out.lt HH.out.few).mono ?_; rintro e w1 ⟨r1, rfl, hr1, hb1⟩; rw [K1.out] at hr1; have st1 := hb1; clear hb1; obtain rfl : r1 = true := by simpa using hr1)
  go_ret
  exact ⟨true, rfl, ⟨fun _ => FV.out, fun _ => rfl⟩, View.more LW.out st1⟩
 have K1 := hid (show IsT v (gotW A T) 1 0 A ↔ False by rw [isT0]; simp [q1])
 by_cases q2 : v.ty = 2
 ·have K2 := hid (show IsT v (gotW A T) 2 0 A ↔ True by rw [isT0]; simp [hn, q2])
  by_cases z0 : v.num = 0
  ·have FV := hid (show FitI M F v v.args.n (gotW A T) from FI.out.2 (.inr ⟨q2, .inl z0⟩))
   have t0 : (v.num == 0) = true := by simpa using z0
   clear q1 q2 hn z0
   go_enter Tryz.func84, Tryz.ntmps84
   go_wp2_with first
    | (go_at_call 135; have hq := st1; refine (is_at 1 v s ⟨none, 0, 0⟩ A T A 2 _ HE.out (HH.out.args.on hq) (HH.out.typs.on hq) (Flo.litN _ _) HH.out.lt HH.out.few).mono ?_; rintro e w2 ⟨r2, rfl, hr2, hb2⟩; rw [K2.out] at hr2; have st2 := View.more hq hb2; have z4 := cell_on st2 TX.out.2.2.2.2.1; clear hb2; obtain rfl : r2 = true := by simpa using hr2)
    | (go_at_call 135; refine (is_at 1 v s ⟨none, 0, 0⟩ A T A 1 _ HE.out HH.out.args HH.out.typs (Flo.litN _ _) HH.out.lt HH.out.few).mono ?_; rintro e w1 ⟨r1, rfl, hr1, hb1⟩; rw [K1.out] at hr1; have st1 := hb1; clear hb1; have y0 := cell_on st1 TX.out.1; have y1 := cell_on st1 TX.out.2.1; have y2 := cell_on st1 TX.out.2.2.1; have y3 := cell_on st1 TX.out.2.2.2.1; have y4 := cell_on st1 TX.out.2.2.2.2.1; have y5 := cell_on st1 TX.out.2.2.2.2.2.1; have y6 := cell_on st1 TX.out.2.2.2.2.2.2.1; have y7 := cell_on st1 TX.out.2.2.2.2.2.2.2; obtain rfl : r1 = false := by cases r1; rfl; simp at hr1)
   go_ret
   exact ⟨true, rfl, ⟨fun _ => FV.out, fun _ => rfl⟩, View.more LW.out st2⟩
  have t0 : (v.num == 0) = false := by simpa using z0
  by_cases z1 : v.num = 1
  ·have FV := hid (show FitI M F v v.args.n (gotW A T) from FI.out.2 (.inr ⟨q2, .inr z1⟩))
   have t1 : (v.num == 1) = true := by simpa using z1
   clear q1 q2 hn z0 z1
   go_enter Tryz.func84, Tryz.ntmps84
   go_wp2_with first
    | (go_at_call 135; have hq := st1; refine (is_at 1 v s ⟨none, 0, 0⟩ A T A 2 _ HE.out (HH.out.args.on hq) (HH.out.typs.on hq) (Flo.litN _ _) HH.out.lt HH.out.few).mono ?_; rintro e w2 ⟨r2, rfl, hr2, hb2⟩; rw [K2.out] at hr2; have st2 := View.more hq hb2; have z4 := cell_on st2 TX.out.2.2.2.2.1; clear hb2; obtain rfl : r2 = true := by simpa using hr2)
    | (go_at_call 135; refine (is_at 1 v s ⟨none, 0, 0⟩ A T A 1 _ HE.out HH.out.args HH.out.typs (Flo.litN _ _) HH.out.lt HH.out.few).mono ?_; rintro e w1 ⟨r1, rfl, hr1, hb1⟩; rw [K1.out] at hr1; have st1 := hb1; clear hb1; have y0 := cell_on st1 TX.out.1; have y1 := cell_on st1 TX.out.2.1; have y2 := cell_on st1 TX.out.2.2.1; have y3 := cell_on st1 TX.out.2.2.2.1; have y4 := cell_on st1 TX.out.2.2.2.2.1; have y5 := cell_on st1 TX.out.2.2.2.2.2.1; have y6 := cell_on st1 TX.out.2.2.2.2.2.2.1; have y7 := cell_on st1 TX.out.2.2.2.2.2.2.2; obtain rfl : r1 = false := by cases r1; rfl; simp at hr1)
   go_ret
   exact ⟨true, rfl, ⟨fun _ => FV.out, fun _ => rfl⟩, View.more LW.out st2⟩
  have t1 : (v.num == 1) = false := by simpa using z1
  have FV := hid (show ¬ FitI M F v v.args.n (gotW A T) from fun h => by have := FI.out.1 h; omega)
  clear q1 q2 hn z0 z1
  go_enter Tryz.func84, Tryz.ntmps84
  go_wp2_with first
   | (go_at_call 135; have hq := st1; refine (is_at 1 v s ⟨none, 0, 0⟩ A T A 2 _ HE.out (HH.out.args.on hq) (HH.out.typs.on hq) (Flo.litN _ _) HH.out.lt HH.out.few).mono ?_; rintro e w2 ⟨r2, rfl, hr2, hb2⟩; rw [K2.out] at hr2; have st2 := View.more hq hb2; have z4 := cell_on st2 TX.out.2.2.2.2.1; clear hb2; obtain rfl : r2 = true := by simpa using hr2)
   | (go_at_call 135; refine (is_at 1 v s ⟨none, 0, 0⟩ A T A 1 _ HE.out HH.out.args HH.out.typs (Flo.litN _ _) HH.out.lt HH.out.few).mono ?_; rintro e w1 ⟨r1, rfl, hr1, hb1⟩; rw [K1.out] at hr1; have st1 := hb1; clear hb1; have y0 := cell_on st1 TX.out.1; have y1 := cell_on st1 TX.out.2.1; have y2 := cell_on st1 TX.out.2.2.1; have y3 := cell_on st1 TX.out.2.2.2.1; have y4 := cell_on st1 TX.out.2.2.2.2.1; have y5 := cell_on st1 TX.out.2.2.2.2.2.1; have y6 := cell_on st1 TX.out.2.2.2.2.2.2.1; have y7 := cell_on st1 TX.out.2.2.2.2.2.2.2; obtain rfl : r1 = false := by cases r1; rfl; simp at hr1)
  go_ret
  exact ⟨false, rfl, ⟨fun h => (by cases h), fun h => absurd h FV.out⟩, View.more LW.out st2⟩
 have K2 := hid (show IsT v (gotW A T) 2 0 A ↔ False by rw [isT0]; simp [q2])
 have FV := hid (show ¬ FitI M F v v.args.n (gotW A T) from fun h => by have := FI.out.1 h; omega)
 clear q1 q2 hn
 go_enter Tryz.func84, Tryz.ntmps84
 go_wp2_with first
  | (go_at_call 135; have hq := st1; refine (is_at 1 v s ⟨none, 0, 0⟩ A T A 2 _ HE.out (HH.out.args.on hq) (HH.out.typs.on hq) (Flo.litN _ _) HH.out.lt HH.out.few).mono ?_; rintro e w2 ⟨r2, rfl, hr2, hb2⟩; rw [K2.out] at hr2; have st2 := View.more hq hb2; have z4 := cell_on st2 TX.out.2.2.2.2.1; clear hb2; obtain rfl : r2 = false := by cases r2; rfl; simp at hr2)
  | (go_at_call 135; refine (is_at 1 v s ⟨none, 0, 0⟩ A T A 1 _ HE.out HH.out.args HH.out.typs (Flo.litN _ _) HH.out.lt HH.out.few).mono ?_; rintro e w1 ⟨r1, rfl, hr1, hb1⟩; rw [K1.out] at hr1; have st1 := hb1; clear hb1; have y0 := cell_on st1 TX.out.1; have y1 := cell_on st1 TX.out.2.1; have y2 := cell_on st1 TX.out.2.2.1; have y3 := cell_on st1 TX.out.2.2.2.1; have y4 := cell_on st1 TX.out.2.2.2.2.1; have y5 := cell_on st1 TX.out.2.2.2.2.2.1; have y6 := cell_on st1 TX.out.2.2.2.2.2.2.1; have y7 := cell_on st1 TX.out.2.2.2.2.2.2.2; obtain rfl : r1 = false := by cases r1; rfl; simp at hr1)
 go_ret
 exact ⟨false, rfl, ⟨fun h => (by cases h), fun h => absurd h FV.out⟩, View.more LW.out st2⟩

set_option maxRecDepth 20000 in
set_option maxHeartbeats 4000000 in
theorem tf_27 (M : MV) (F : FV) (v : IV) (s : Sl) (A T : Nat → Int) (w : World) (he : v.op = 27) (h : TyIn M w v s A T) :
  Calls Tryz.prog 84 #[M.val, .int .i64 F.res, tval v s] w fun e w' => Ans (fun r => r = true ↔ FitI M F v v.args.n (gotW A T)) w e w' := by
 obtain ⟨W, hW, LW, ⟨m0, m3⟩, ⟨x0, x1, x2, x3, x4, x5, x6, x7⟩, HH⟩ := tyStart he h
 have HA := hid (form_args h.form)
 have HE := hid he
 clear h he
 go_enter Tryz.func84, Tryz.ntmps84
 go_wp2_with fail
 go_ret
 exact ⟨true, rfl, ⟨fun _ => (fi_27 HE.out).2 trivial, fun _ => rfl⟩, LW.out⟩

set_option maxRecDepth 20000 in
set_option maxHeartbeats 4000000 in
theorem tf_30 (M : MV) (F : FV) (v : IV) (s : Sl) (A T : Nat → Int) (w : World) (he : v.op = 30) (h : TyIn M w v s A T) :
  Calls Tryz.prog 84 #[M.val, .int .i64 F.res, tval v s] w fun e w' => Ans (fun r => r = true ↔ FitI M F v v.args.n (gotW A T)) w e w' := by
 obtain ⟨W, hW, LW, ⟨m0, m3⟩, ⟨x0, x1, x2, x3, x4, x5, x6, x7⟩, HH⟩ := tyStart he h
 have HA := hid (form_args h.form)
 have HE := hid he
 clear h he
 go_enter Tryz.func84, Tryz.ntmps84
 go_wp2_with fail
 go_ret
 exact ⟨true, rfl, ⟨fun _ => (fi_30 HE.out).2 trivial, fun _ => rfl⟩, LW.out⟩

set_option maxRecDepth 20000 in
set_option maxHeartbeats 4000000 in
theorem tf_29 (M : MV) (F : FV) (v : IV) (s : Sl) (A T : Nat → Int) (w : World) (he : v.op = 29) (h : TyIn M w v s A T) :
  Calls Tryz.prog 84 #[M.val, .int .i64 F.res, tval v s] w fun e w' => Ans (fun r => r = true ↔ FitI M F v v.args.n (gotW A T)) w e w' := by
 obtain ⟨W, hW, LW, ⟨m0, m3⟩, ⟨x0, x1, x2, x3, x4, x5, x6, x7⟩, HH⟩ := tyStart he h
 have HA := hid (form_args h.form)
 have HE := hid he
 clear h he
 go_enter Tryz.func84, Tryz.ntmps84
 go_wp2_with fail
 clear hW m0 m3 x0 x1 x2 x3 x4 x5 x6 x7
 refine (retFits_at M 29 F.res v s A T _ HE.out HH.out).mono ?_
 rintro e w1 ⟨r, rfl, hr, hb⟩
 have H := hid hr
 have B := hid (View.more LW.out hb)
 clear hr hb
 go_wp2_with fail
 go_ret
 refine ⟨r, rfl, H.out.trans ?_, B.out⟩
 have hz : v.ty = 0 := (form_ty0 HH.out.form (by rw [HE.out]; decide) (by rw [HE.out]; decide) (by rw [HE.out]; decide)).1 (by rw [HE.out]; simp [endB])
 rw [isT0, isT1, fi_29 HE.out]
 simp [hz]

set_option maxRecDepth 20000 in
set_option maxHeartbeats 4000000 in
theorem tf_22 (M : MV) (F : FV) (v : IV) (s : Sl) (A T : Nat → Int) (w : World) (he : v.op = 22) (h : TyIn M w v s A T) :
  Calls Tryz.prog 84 #[M.val, .int .i64 F.res, tval v s] w fun e w' => Ans (fun r => r = true ↔ FitI M F v v.args.n (gotW A T)) w e w' := by
 obtain ⟨W, hW, LW, MX, TX, HH⟩ := tyStart he h
 obtain ⟨m0, m3⟩ := MX.out
 obtain ⟨x0, x1, x2, x3, x4, x5, x6, x7⟩ := TX.out
 have HA := hid (form_args h.form)
 have HE := hid he
 clear h he
 obtain ⟨k, hk⟩ : ∃ k : Nat, v.sym = k := ⟨v.sym.toNat, by have := HH.out.sym.1; omega⟩
 have lk : k < M.fns.n := by have := HH.out.sym.2; rw [HE.out, hk] at this; simp [symN] at this; omega
 have HK := hid hk
 obtain ⟨fb, fo, hfx, hFA⟩ := HH.out.mod.fns.at underlying25 size36 lk
 have k2 := hFA.c2
 have k3 := hFA.c3
 rw [hk] at x3
 clear hk
 go_enter Tryz.func84, Tryz.ntmps84
 go_wp2_with fail
 have y0 : ∀ wx, Below W.heap.size W wx → wx.cell? ⟨w.heap.size + 1, 0, none⟩ = some (.int .i64 22) := fun wx h => cell_on h (x0)
 have y1 : ∀ wx, Below W.heap.size W wx → wx.cell? ⟨w.heap.size + 1, 1, none⟩ = some (.int .i64 v.ty) := fun wx h => cell_on h (x1)
 have y2 : ∀ wx, Below W.heap.size W wx → wx.cell? ⟨w.heap.size + 1, 2, none⟩ = some (.int .i64 v.to) := fun wx h => cell_on h (x2)
 have y3 : ∀ wx, Below W.heap.size W wx → wx.cell? ⟨w.heap.size + 1, 3, none⟩ = some (.int .i64 k) := fun wx h => cell_on h (x3)
 have y4 : ∀ wx, Below W.heap.size W wx → wx.cell? ⟨w.heap.size + 1, 4, none⟩ = some (.int .i64 v.num) := fun wx h => cell_on h (x4)
 have y5 : ∀ wx, Below W.heap.size W wx → wx.cell? ⟨w.heap.size + 1, 5, none⟩ = some (.slice v.args.a v.args.n v.args.c) := fun wx h => cell_on h (x5)
 have y6 : ∀ wx, Below W.heap.size W wx → wx.cell? ⟨w.heap.size + 1, 6, none⟩ = some (.slice v.into.a v.into.n v.into.c) := fun wx h => cell_on h (x6)
 have y7 : ∀ wx, Below W.heap.size W wx → wx.cell? ⟨w.heap.size + 1, 7, none⟩ = some (.slice s.a s.n s.c) := fun wx h => cell_on h (x7)
 have km : ∀ wx, Below W.heap.size W wx → wx.cell? ⟨w.heap.size, 3, none⟩ = some (.slice M.fns.a M.fns.n M.fns.c) := fun wx h => cell_on h (MX.out.2)
 have z2 : ∀ wx, Below W.heap.size W wx → wx.cell? ⟨fb, fo + 2, none⟩ = some (.slice (M.F k).par.a (M.F k).par.n (M.F k).par.c) := fun wx h => cell_on h k2
 have z3 : ∀ wx, Below W.heap.size W wx → wx.cell? ⟨fb, fo + 3, none⟩ = some (.int .i64 (M.F k).res) := fun wx h => cell_on h k3
 have st0 : Below W.heap.size W W.drew := Below.drew (same _)
 clear hW m0 m3 x0 x1 x2 x3 x4 x5 x6 x7 k2 k3
 go_region_held3 (fun wx => Below W.heap.size W wx) (first | exact st0 | exact st1)
  (first | (go_at_call 135; refine (is_at' 22 k v s (M.F k).par A T ((M.F k).P) (M.F k).res _ HE.out HK.out (HH.out.args.on (by assumption)) (HH.out.typs.on (by assumption)) ((HH.out.mod.fnI k lk).par.on (by assumption)) HH.out.lt HH.out.few).mono ?_; rintro e w1 ⟨r, rfl, hr, hb⟩; have H := hid hr; have st1 := View.more (by assumption) hb; clear hr hb))
 go_wp2_with fail
 go_ret
 refine ⟨_, rfl, H.out.trans ?_, View.more LW.out st1⟩
 have hk' : v.sym.toNat = k := by rw [HK.out]; rfl
 unfold IsT
 rw [fi_22 HE.out, hk']
 constructor
 ·rintro ⟨a, b, c⟩
  exact ⟨⟨b.symm, fun i hi => c i (by omega)⟩, a⟩
 ·rintro ⟨⟨b, c⟩, a⟩
  exact ⟨a, b.symm, fun i hi => c i (by omega)⟩

set_option maxRecDepth 20000 in
set_option maxHeartbeats 4000000 in
theorem tf_23 (M : MV) (F : FV) (v : IV) (s : Sl) (A T : Nat → Int) (w : World) (he : v.op = 23) (h : TyIn M w v s A T) :
  Calls Tryz.prog 84 #[M.val, .int .i64 F.res, tval v s] w fun e w' => Ans (fun r => r = true ↔ FitI M F v v.args.n (gotW A T)) w e w' := by
 obtain ⟨W, hW, LW, MX, TX, HH⟩ := tyStart he h
 obtain ⟨m0, m3⟩ := MX.out
 obtain ⟨x0, x1, x2, x3, x4, x5, x6, x7⟩ := TX.out
 have HA := hid (form_args h.form)
 have HE := hid he
 clear h he
 obtain ⟨k, hk⟩ : ∃ k : Nat, v.sym = k := ⟨v.sym.toNat, by have := HH.out.sym.1; omega⟩
 have lk : k < M.ext.n := by have := HH.out.sym.2; rw [HE.out, hk] at this; simp [symN] at this; omega
 have HK := hid hk
 obtain ⟨fb, fo, hfx, hEA⟩ := HH.out.mod.ext.at underlying22 size65 lk
 have k2 := hEA.c1
 have k3 := hEA.c2
 rw [hk] at x3
 clear hk
 go_enter Tryz.func84, Tryz.ntmps84
 go_wp2_with fail
 have y0 : ∀ wx, Below W.heap.size W wx → wx.cell? ⟨w.heap.size + 1, 0, none⟩ = some (.int .i64 23) := fun wx h => cell_on h (x0)
 have y1 : ∀ wx, Below W.heap.size W wx → wx.cell? ⟨w.heap.size + 1, 1, none⟩ = some (.int .i64 v.ty) := fun wx h => cell_on h (x1)
 have y2 : ∀ wx, Below W.heap.size W wx → wx.cell? ⟨w.heap.size + 1, 2, none⟩ = some (.int .i64 v.to) := fun wx h => cell_on h (x2)
 have y3 : ∀ wx, Below W.heap.size W wx → wx.cell? ⟨w.heap.size + 1, 3, none⟩ = some (.int .i64 k) := fun wx h => cell_on h (x3)
 have y4 : ∀ wx, Below W.heap.size W wx → wx.cell? ⟨w.heap.size + 1, 4, none⟩ = some (.int .i64 v.num) := fun wx h => cell_on h (x4)
 have y5 : ∀ wx, Below W.heap.size W wx → wx.cell? ⟨w.heap.size + 1, 5, none⟩ = some (.slice v.args.a v.args.n v.args.c) := fun wx h => cell_on h (x5)
 have y6 : ∀ wx, Below W.heap.size W wx → wx.cell? ⟨w.heap.size + 1, 6, none⟩ = some (.slice v.into.a v.into.n v.into.c) := fun wx h => cell_on h (x6)
 have y7 : ∀ wx, Below W.heap.size W wx → wx.cell? ⟨w.heap.size + 1, 7, none⟩ = some (.slice s.a s.n s.c) := fun wx h => cell_on h (x7)
 have km : ∀ wx, Below W.heap.size W wx → wx.cell? ⟨w.heap.size, 0, none⟩ = some (.slice M.ext.a M.ext.n M.ext.c) := fun wx h => cell_on h (MX.out.1)
 have z2 : ∀ wx, Below W.heap.size W wx → wx.cell? ⟨fb, fo + 1, none⟩ = some (.slice (M.E k).par.a (M.E k).par.n (M.E k).par.c) := fun wx h => cell_on h k2
 have z3 : ∀ wx, Below W.heap.size W wx → wx.cell? ⟨fb, fo + 2, none⟩ = some (.int .i64 (M.E k).res) := fun wx h => cell_on h k3
 have st0 : Below W.heap.size W W.drew := Below.drew (same _)
 clear hW m0 m3 x0 x1 x2 x3 x4 x5 x6 x7 k2 k3
 go_region_held3 (fun wx => Below W.heap.size W wx) (first | exact st0 | exact st1)
  (first | (go_at_call 135; refine (is_at' 23 k v s (M.E k).par A T (M.EP k) (M.E k).res _ HE.out HK.out (HH.out.args.on (by assumption)) (HH.out.typs.on (by assumption)) ((HH.out.mod.extP k lk).on (by assumption)) HH.out.lt HH.out.few).mono ?_; rintro e w1 ⟨r, rfl, hr, hb⟩; have H := hid hr; have st1 := View.more (by assumption) hb; clear hr hb))
 go_wp2_with fail
 go_ret
 refine ⟨_, rfl, H.out.trans ?_, View.more LW.out st1⟩
 have hk' : v.sym.toNat = k := by rw [HK.out]; rfl
 unfold IsT
 rw [fi_23 HE.out, hk']
 constructor
 ·rintro ⟨a, b, c⟩
  exact ⟨⟨b.symm, fun i hi => c i (by omega)⟩, a⟩
 ·rintro ⟨⟨b, c⟩, a⟩
  exact ⟨a, b.symm, fun i hi => c i (by omega)⟩

set_option maxRecDepth 20000 in
set_option maxHeartbeats 4000000 in
theorem tf_25 (M : MV) (F : FV) (v : IV) (s : Sl) (A T : Nat → Int) (w : World) (he : v.op = 25) (h : TyIn M w v s A T) :
  Calls Tryz.prog 84 #[M.val, .int .i64 F.res, tval v s] w fun e w' => Ans (fun r => r = true ↔ FitI M F v v.args.n (gotW A T)) w e w' := by
 obtain ⟨W, hW, LW, ⟨m0, m3⟩, ⟨x0, x1, x2, x3, x4, x5, x6, x7⟩, HH⟩ := tyStart he h
 have HA := hid (form_args h.form)
 have HE := hid he
 clear h he
 have h0 : 0 < v.args.n := by have := form_sw HH.out.form; unfold swB at this; rw [HE.out] at this; simp at this; omega
 have hty : 0 ≤ v.ty ∧ v.ty ≤ 4 := by have := HH.out.form; unfold formB at this; simp only [Bool.and_eq_true, decide_eq_true_eq] at this; omega
 obtain ⟨ab, ao, hax0, hac⟩ := HH.out.args.at h0
 have hax : ∀ wx, (Instr.indexAt 33 (.slice v.args.a v.args.n v.args.c) (.int .i64 0)).run Tryz.prog wx = .ok (.pointer (some ⟨ab, ao, none⟩)) wx := hax0
 clear hax0
 obtain ⟨q1, q2⟩ := HH.out.lt 0 h0
 obtain ⟨a, hae⟩ : ∃ a : Nat, A 0 = a := ⟨(A 0).toNat, by omega⟩
 rw [hae] at hac
 have la : a < s.n := by omega
 obtain ⟨tb, to_, htx, htc⟩ := HH.out.typs.at la
 have HTY := hid hty
 have HG := hid (show gotW A T 0 = T a by show T (A 0).toNat = T a; rw [hae]; rfl)
 clear q1 q2 hae hty
 by_cases e4 : T a = 4
 ·rw [e4] at htc
  have E4 := hid e4
  clear e4
  go_enter Tryz.func84, Tryz.ntmps84
  go_wp2_with fail
  go_quiet (first | (go_at_call 120; refine Calls.quiet_of_same (isNoResult_any v.ty _)))
  go_wp2_with fail
  go_ret
  refine ⟨!noRB v.ty, by simp, ?_, View.more LW.out (below_drewN' _ _)⟩
  have x := HTY.out
  have y := HG.out
  have z := E4.out
  rw [fi_25 HE.out, y, z]
  unfold noRB noTB
  simp
  omega
 ·have t1 : (T a == 4) = false := by simpa using e4
  have E4 := hid e4
  clear e4
  go_enter Tryz.func84, Tryz.ntmps84
  go_wp2_with fail
  go_quiet (fail)
  go_wp2_with fail
  go_ret
  refine ⟨false, rfl, ?_, View.more LW.out (below_drewN' _ _)⟩
  rw [fi_25 HE.out, HG.out]
  have z := E4.out
  simp [z]

set_option maxRecDepth 20000 in
set_option maxHeartbeats 4000000 in
theorem tf_26 (M : MV) (F : FV) (v : IV) (s : Sl) (A T : Nat → Int) (w : World) (he : v.op = 26) (h : TyIn M w v s A T) :
  Calls Tryz.prog 84 #[M.val, .int .i64 F.res, tval v s] w fun e w' => Ans (fun r => r = true ↔ FitI M F v v.args.n (gotW A T)) w e w' := by
 obtain ⟨W, hW, LW, ⟨m0, m3⟩, ⟨x0, x1, x2, x3, x4, x5, x6, x7⟩, HH⟩ := tyStart he h
 have HA := hid (form_args h.form)
 have HE := hid he
 clear h he
 go_enter Tryz.func84, Tryz.ntmps84
 go_wp2_with fail
 have y0 : ∀ wx, Below W.heap.size W wx → wx.cell? ⟨w.heap.size + 1, 0, none⟩ = some (.int .i64 26) := fun wx h => cell_on h (x0)
 have y1 : ∀ wx, Below W.heap.size W wx → wx.cell? ⟨w.heap.size + 1, 1, none⟩ = some (.int .i64 v.ty) := fun wx h => cell_on h (x1)
 have y2 : ∀ wx, Below W.heap.size W wx → wx.cell? ⟨w.heap.size + 1, 2, none⟩ = some (.int .i64 v.to) := fun wx h => cell_on h (x2)
 have y3 : ∀ wx, Below W.heap.size W wx → wx.cell? ⟨w.heap.size + 1, 3, none⟩ = some (.int .i64 v.sym) := fun wx h => cell_on h (x3)
 have y4 : ∀ wx, Below W.heap.size W wx → wx.cell? ⟨w.heap.size + 1, 4, none⟩ = some (.int .i64 v.num) := fun wx h => cell_on h (x4)
 have y5 : ∀ wx, Below W.heap.size W wx → wx.cell? ⟨w.heap.size + 1, 5, none⟩ = some (.slice v.args.a v.args.n v.args.c) := fun wx h => cell_on h (x5)
 have y6 : ∀ wx, Below W.heap.size W wx → wx.cell? ⟨w.heap.size + 1, 6, none⟩ = some (.slice v.into.a v.into.n v.into.c) := fun wx h => cell_on h (x6)
 have y7 : ∀ wx, Below W.heap.size W wx → wx.cell? ⟨w.heap.size + 1, 7, none⟩ = some (.slice s.a s.n s.c) := fun wx h => cell_on h (x7)
 have st0 : Below W.heap.size W W.drew := Below.drew (same _)
 clear hW m0 m3 x0 x1 x2 x3 x4 x5 x6 x7
 go_region_held3 (fun wx => Below W.heap.size W wx) (first | exact st0 | exact Below.drew (new (same _) _) | exact new (Below.drew (same _)) _ | exact st1)
  (first
   | (go_at_call 136; refine (Dm.repeat_any v.ty W.heap.size v.args.n (by have := HH.out.few; omega) _ (cell_on (Below.drew (same _)) (by simp))).mono ?_; rintro e w1 ⟨g, rfl, hr, hg, hb⟩; have I1 := hid (show Ints w1 ⟨some ⟨g, 0, none⟩, v.args.n, v.args.n⟩ (fun _ => v.ty) from ints_negs hr (by have := HH.out.few; omega)); have st1 : Below W.heap.size W w1 := View.more (Below.drew (new (same _) _)) hb; clear hr hg hb)
   | (go_at_call 135; refine (is_at 26 v s ⟨some ⟨g, 0, none⟩, v.args.n, v.args.n⟩ A T (fun _ => v.ty) v.ty _ HE.out (HH.out.args.on (by assumption)) (HH.out.typs.on (by assumption)) (I1.out.on (by first | exact same _ | exact Below.drew (same _))) HH.out.lt HH.out.few).mono ?_; rintro e w2 ⟨r, rfl, hr, hb⟩; have H := hid hr; have st1 := View.more (by assumption) hb; clear hr hb))
 go_wp2_with fail
 go_ret
 refine ⟨_, rfl, H.out.trans ?_, View.more LW.out st1⟩
 unfold IsT
 rw [fi_26 HE.out]
 simp

theorem typesFit_any (M : MV) (F : FV) (v : IV) (s : Sl) (A T : Nat → Int) (w : World) (h : TyIn M w v s A T) :
  Calls Tryz.prog 84 #[M.val, .int .i64 F.res, tval v s] w fun e w' => Ans (fun r => r = true ↔ FitI M F v v.args.n (gotW A T)) w e w' := by
 have hop := form_op h.form
 have ho : v.op = 1 ∨ v.op = 2 ∨ v.op = 3 ∨ v.op = 4 ∨ v.op = 5 ∨ v.op = 6 ∨ v.op = 7 ∨ v.op = 8 ∨ v.op = 9 ∨ v.op = 10 ∨ v.op = 11 ∨ v.op = 12 ∨ v.op = 13 ∨ v.op = 14 ∨ v.op = 15 ∨ v.op = 16 ∨ v.op = 17 ∨ v.op = 18 ∨ v.op = 19 ∨ v.op = 20 ∨ v.op = 21 ∨ v.op = 22 ∨ v.op = 23 ∨ v.op = 24 ∨ v.op = 25 ∨ v.op = 26 ∨ v.op = 27 ∨ v.op = 28 ∨ v.op = 29 ∨ v.op = 30 := by omega
 rcases ho with e | e | e | e | e | e | e | e | e | e | e | e | e | e | e | e | e | e | e | e | e | e | e | e | e | e | e | e | e | e
 ·exact tf_1 M F v s A T w e h
 ·exact tf_2 M F v s A T w e h
 ·exact tf_3 M F v s A T w e h
 ·exact tf_4 M F v s A T w e h
 ·exact tf_5 M F v s A T w e h
 ·exact tf_6 M F v s A T w e h
 ·exact tf_7 M F v s A T w e h
 ·exact tf_8 M F v s A T w e h
 ·exact tf_9 M F v s A T w e h
 ·exact tf_10 M F v s A T w e h
 ·exact tf_11 M F v s A T w e h
 ·exact tf_12 M F v s A T w e h
 ·exact tf_13 M F v s A T w e h
 ·exact tf_14 M F v s A T w e h
 ·exact tf_15 M F v s A T w e h
 ·exact tf_16 M F v s A T w e h
 ·exact tf_17 M F v s A T w e h
 ·exact tf_18 M F v s A T w e h
 ·exact tf_19 M F v s A T w e h
 ·exact tf_20 M F v s A T w e h
 ·exact tf_21 M F v s A T w e h
 ·exact tf_22 M F v s A T w e h
 ·exact tf_23 M F v s A T w e h
 ·exact tf_24 M F v s A T w e h
 ·exact tf_25 M F v s A T w e h
 ·exact tf_26 M F v s A T w e h
 ·exact tf_27 M F v s A T w e h
 ·exact tf_28 M F v s A T w e h
 ·exact tf_29 M F v s A T w e h
 ·exact tf_30 M F v s A T w e h

end Go.Proofs.YtolipafcoolpgaaGreat.Wf
