/-
  A function copied by the document: plnref3.CopyFunc.
-/
import Derived.Test.YtolipafcoolpgaaGreatJ17
import Derived.Deep.RegionHeld3
import Derived.Deep.CutRange
namespace Go.Proofs.YtolipafcoolpgaaGreat.Own
open Go.RowKit View Rd Copy Srt

set_option linter.unusedVariables false

theorem takeAt {P : Program} {ops : Array Oper} {Q : Exit → Act → World → Prop} {md : Region.Mode} {S : World → Prop} {i : Nat} {oi : Oper} {d : Option Tmp} {v : Value} {fuel : Nat} {listed : Array Bool} {a : Act} {w : World} (hi : ops[i]? = some oi) (hd : oi.dst = d)
  (hs : Region.noSelect ops = true) (hf : Region.free md ops listed i = true) (hr : (Region.ready md ops listed).contains i = true)
  (hQ : ∀ c a w, Q (.panic c) (a.put d v) w → Q (.panic c) a w) (hy : YieldsIf P ops S oi v a) (hS : S w)
  (h : wpAnyH P md ops Q S fuel (listed.setIfInBounds i true) (a.put d v) w) : wpAnyH P md ops Q S (fuel + 1) listed a w := by
 subst hd
 exact wpAnyH_take hi hs hf hr hQ hy hS h

theorem tk {P : Program} {ops : Array Oper} {Q : Exit → Act → World → Prop} {md : Region.Mode} {S : World → Prop} {i : Nat} {oi : Oper} {d : Option Tmp} {v : Value} {fuel : Nat} {listed : Array Bool} {a : Act} {w : World} (hi : ops[i]? = some oi) (hd : oi.dst = d)
  (hy : ∀ w, S w → (execOp a.eval oi).run P w = .ok (.value v) w) (hS : S w)
  (h : wpAnyH P md ops Q S fuel (listed.setIfInBounds i true) (a.put d v) w)
  (hs : Region.noSelect ops = true := by kernel_rfl) (hf : Region.free md ops listed i = true := by kernel_rfl) (hr : (Region.ready md ops listed).contains i = true := by kernel_rfl)
  (hQ : ∀ c a w, Q (.panic c) (a.put d v) w → Q (.panic c) a w := by exact fun _ _ _ h => h) (hw : Region.wanted oi (yielded ops a.tmps) = true := by rfl) : wpAnyH P md ops Q S (fuel + 1) listed a w :=
 takeAt hi hd hs hf hr hQ (Or.inl ⟨hw, hy⟩) hS h

theorem wp_app {P : Program} {o : Oper} {a : Act} {w w' : World} {v' v u : Value} {t : TypeId} {s x : Operand} {K : Act → World → Prop} {Q : Exit → Act → World → Prop} {d : Option Tmp} {ty : TypeId} (ho : o.op = .call { callee := .builtin .append, args := #[s, x], argTypes := #[t, t] }) (hd : o.dst = d) (hty : o.type = ty) (hs : a.eval s = v) (hx : a.eval x = u) (hr : (Builtin.append_ #[t, t] ty #[v, u]).run P w = .ok v' w') (h : K (a.put d v') w') : o.wp P a w K Q := by
 subst hd hty
 unfold Oper.wp execOp
 simp only [ho, resolve, invoke, builtin, Sem.run_bind, Sem.run_pure, Result.andThen_ok, List.map_toArray, List.map_cons, List.map_nil, hs, hx, hr]
 exact h

theorem wpList_app {ops : Array Oper} {rest : List Oper} {o : Oper} {a : Act} {Q : Exit → Act → World → Prop} {w w' : World} {v' v u : Value} {t ty : TypeId} (s x : Operand) (hg : o.guard = none) (ho : o.op = .call { callee := .builtin .append, args := #[s, x], argTypes := #[t, t] }) (hty : o.type = ty) (hs : a.eval s = v) (hx : a.eval x = u) (hr : (Builtin.append_ #[t, t] ty #[v, u]).run Tryz.prog w = .ok v' w') (h : wpList Tryz.prog ops Q rest (a.put o.dst v') w') : wpList Tryz.prog ops Q (o :: rest) a w := by
 subst hty
 refine wpList_plain hg fun K hK => ?_
 unfold Oper.wp execOp
 simp only [ho, resolve, invoke, builtin, Sem.run_bind, Sem.run_pure, Result.andThen_ok, List.map_toArray, List.map_cons, List.map_nil, hs, hx, hr]
 exact hK _ _ h

theorem run_append_copy (s : Sl) (f : Nat → Int) (w : World) (ty : TypeId) (hs : Ints w s f) (hn : s.n ≤ 1000) :
  ∃ (t : Sl) (w' : World), (Builtin.append_ #[33, 33] ty #[.slice none 0 0, .slice s.a s.n s.c]).run Tryz.prog w = .ok (.slice t.a t.n t.c) w' ∧ t.n = s.n ∧ Ints w' t f ∧ Mine w.heap.size w'.heap.size w' t ∧ Below w.heap.size w w' := by
 obtain ⟨i0, hi, hz0, hz1, hz2⟩ := info_parts info3
 obtain ⟨ao, m, c⟩ := s
 cases ao with
 | some ad =>
  obtain ⟨v', w', hrun, hown, hgr, _, _⟩ := run_append_own_at (P := Tryz.prog) w w.heap.size 33 ty 3 i0 (.int .i64 0) 1 8 underlying33 hi hz0 hz1 hz2 rfl (by decide) (.slice none 0 0) 0 [] (World.ownsRow_nil _ _ _ _) ad m c ((row f m).map (Value.int .i64)) (by simp [row_length]) (row_cells hs) (ints_oneCell _ _) (by simp only [maxLen] at *; omega) (by simp only at *; omega) (Nat.le_refl _)
  simp only [Nat.zero_add, List.nil_append] at hown
  obtain ⟨t, rfl, ht, hti, htm⟩ := ints_of_owns hown (by simp only at hn; omega)
  exact ⟨t, w', hrun, ht, Ints.congr hti (fun i h => getD_row f m i (by omega)), htm, (Below.refl _ w).grown hgr (Nat.le_refl _) (fun k hk => by cases hk)⟩
 | none =>
  have hc0 := hs.2.2.1 rfl
  have hm0 := hs.1
  simp only at hc0 hm0
  subst hc0
  obtain rfl : m = 0 := by omega
  refine ⟨⟨none, 0, 0⟩, w, ?_, rfl, ⟨Nat.le_refl _, Nat.zero_le _, fun _ => rfl, fun h => absurd h (by simp)⟩, fun h => absurd h (by simp), same w⟩
  simp [Builtin.append_, run_underlying underlying33, sizeOf, typeInfo, hi, Builtin.lenOf, Builtin.firstCells]

theorem five {B b : Nat} {W w3 : World} (h : Below B W w3) (hb : B ≤ b) (nm : ByteArray) (o : Bool) (sp : Sl) (r : Int) :
  Below B W (((((w3.setCell ⟨b, 0, none⟩ (.string nm)).setCell ⟨b, 1, none⟩ (.bool o)).setCell ⟨b, 2, none⟩ (.slice sp.a sp.n sp.c)).setCell ⟨b, 3, none⟩ (.int .i64 r)).setCell ⟨b, 4, none⟩ (.slice none 0 0)) := by
 repeat (refine Below.setCell ?_ hb _)
 exact h

def Made (F : FV) (w : World) (g : Value) (wx : World) : Prop :=
 ∃ (Gb : Nat) (sp : Sl), g = .pointer (some ⟨Gb, 0, none⟩) ∧ FuncAt wx Gb { F with par := sp, blk := ⟨none, 0, 0⟩ } ∧ FuncAt wx w.heap.size F ∧ FuncAt wx (w.heap.size + 1) zF ∧ (∀ i, wx.frozen? ⟨Gb, i, none⟩ = false) ∧ (∀ i, wx.frozen? ⟨w.heap.size + 1, i, none⟩ = false) ∧
  Ints wx sp F.P ∧ sp.n = F.par.n ∧ Mine (w.heap.size + 2) wx.heap.size wx sp ∧ w.heap.size + 2 ≤ Gb ∧ Gb < wx.heap.size ∧ (0 < sp.n → blkOf sp ≠ Gb) ∧ Below w.heap.size w wx

theorem cut_a {F : FV} {w W w3 : World} {sp : Sl} (zw : W.heap.size = w.heap.size + 2) (bw : Below w.heap.size w W) (fw : FuncAt W w.heap.size F) (zf : FuncAt W (w.heap.size + 1) zF) (fz : ∀ i, W.frozen? ⟨w.heap.size + 1, i, none⟩ = false)
  (hn : sp.n = F.par.n) (hi : Ints w3 sp F.P) (hm : Mine W.drew.heap.size w3.heap.size w3 sp) (hb : Below W.drew.heap.size W.drew w3) : Made F w (.pointer (some ⟨w3.heap.size, 0, none⟩)) (w3.alloc (.cells (fcells { F with par := sp, blk := ⟨none, 0, 0⟩ }) 36)) := by
 have z3 : W.heap.size ≤ w3.heap.size := hb.size
 have hb' : Below W.heap.size W w3 := (Below.drew (same W)).trans (hb.mono (Nat.le_refl _))
 refine ⟨w3.heap.size, sp, rfl, FuncAt.alloc _ _, (fw.on hb').on (new (same _) _), (zf.on hb').on (new (same _) _), fun i => by simp, fun i => ?_, hi.on (new (same _) _), hn, (hm.on (new (same _) _) (Nat.le_refl _)).wide (by show _ ≤ W.heap.size; omega) (by simp), by omega, by simp, fun h0 e => ?_, new (bw.trans (hb'.mono bw.size)) _⟩
 ·rw [World.frozen?_alloc_old _ _ _ (by show w.heap.size + 1 ≠ _; omega), hb'.frozen (by show w.heap.size + 1 < _; omega)]; exact fz i
 ·obtain ⟨g, h1, h2, h3, _⟩ := hm h0
  rw [blkOf_eq h1] at e
  omega

theorem cut_b {F : FV} {w W w3 : World} {sp : Sl} (zw : W.heap.size = w.heap.size + 2) (bw : Below w.heap.size w W) (fw : FuncAt W w.heap.size F) (zf : FuncAt W (w.heap.size + 1) zF) (fz : ∀ i, W.frozen? ⟨w.heap.size + 1, i, none⟩ = false)
  (hn : sp.n = F.par.n) (hi : Ints w3 sp F.P) (hm : Mine (W.drew.alloc (.cells (fcells zF) 36)).heap.size w3.heap.size w3 sp) (hb : Below (W.drew.alloc (.cells (fcells zF) 36)).heap.size (W.drew.alloc (.cells (fcells zF) 36)) w3) :
  Made F w (.pointer (some ⟨W.heap.size, 0, none⟩)) (((((w3.setCell ⟨W.heap.size, 0, none⟩ (.string F.name)).setCell ⟨W.heap.size, 1, none⟩ (.bool F.out)).setCell ⟨W.heap.size, 2, none⟩ (.slice sp.a sp.n sp.c)).setCell ⟨W.heap.size, 3, none⟩ (.int .i64 F.res)).setCell ⟨W.heap.size, 4, none⟩ (.slice none 0 0)) := by
 have z3 : W.heap.size + 1 ≤ w3.heap.size := by have := hb.size; simp at this; exact this
 have hb' : Below W.heap.size W w3 := (new (Below.drew (same W)) _).trans (hb.mono (by show W.heap.size ≤ (W.drew.alloc _).heap.size; simp))
 have fG : FuncAt w3 W.heap.size zF := FuncAt.on hb (FuncAt.alloc W.drew zF)
 have gz : ∀ i, w3.frozen? ⟨W.heap.size, i, none⟩ = false := fun i => by
  rw [hb.frozen (by show W.heap.size < (W.drew.alloc _).heap.size; simp)]
  exact World.frozen?_alloc_new W.drew _ _ i
 have kk : ∀ p : Nat → Prop, ¬ p W.heap.size → Kept p w3 (((((w3.setCell ⟨W.heap.size, 0, none⟩ (.string F.name)).setCell ⟨W.heap.size, 1, none⟩ (.bool F.out)).setCell ⟨W.heap.size, 2, none⟩ (.slice sp.a sp.n sp.c)).setCell ⟨W.heap.size, 3, none⟩ (.int .i64 F.res)).setCell ⟨W.heap.size, 4, none⟩ (.slice none 0 0)) := fun p hp => by
  repeat (refine Kept.setCell ?_ hp _)
  exact Kept.refl _ _
 have hm' : Mine (w.heap.size + 2) w3.heap.size w3 sp := hm.wide (by rw [World.size_alloc]; show _ ≤ W.heap.size + 1; omega) (Nat.le_refl _)
 have hlo : 0 < sp.n → ∃ g, sp.a = some ⟨g, 0, none⟩ ∧ W.heap.size + 1 ≤ g ∧ g < w3.heap.size := fun h0 => by
  obtain ⟨g, h1, h2, h3, _⟩ := hm h0
  exact ⟨g, h1, by simpa using h2, h3⟩
 refine ⟨W.heap.size, sp, rfl, ?_, (fw.on hb').kept (kk (fun k => k ≠ W.heap.size) (fun h => h rfl)) (by show w.heap.size ≠ _; omega), (zf.on hb').kept (kk (fun k => k ≠ W.heap.size) (fun h => h rfl)) (by show w.heap.size + 1 ≠ _; omega), fun i => ?_, fun i => ?_, hi.kept (kk (fun k => k ≠ W.heap.size) (fun h => h rfl)) (fun b off e h0 => ?_), hn, ?_, by omega, by simp; omega, fun h0 e => ?_, ?_⟩
 ·refine ⟨?_, ?_, ?_, ?_, ?_⟩
  ·exact cell_other (ne_off (by omega)) (cell_other (ne_off (by omega)) (cell_other (ne_off (by omega)) (cell_other (ne_off (by omega)) (cell_same fG.c0))))
  ·exact cell_other (ne_off (by omega)) (cell_other (ne_off (by omega)) (cell_other (ne_off (by omega)) (cell_same (cell_other (ne_off (by omega)) fG.c1))))
  ·exact cell_other (ne_off (by omega)) (cell_other (ne_off (by omega)) (cell_same (cell_other (ne_off (by omega)) (cell_other (ne_off (by omega)) fG.c2))))
  ·exact cell_other (ne_off (by omega)) (cell_same (cell_other (ne_off (by omega)) (cell_other (ne_off (by omega)) (cell_other (ne_off (by omega)) fG.c3))))
  ·exact cell_same (cell_other (ne_off (by omega)) (cell_other (ne_off (by omega)) (cell_other (ne_off (by omega)) (cell_other (ne_off (by omega)) fG.c4))))
 ·simp [gz]
 ·simp only [World.frozen?_setCell]
  rw [hb'.frozen (by show w.heap.size + 1 < _; omega)]; exact fz i
 ·obtain ⟨g, h1, h2, _⟩ := hlo h0
  rw [adr_inj h1 e]; omega
 ·refine ((hm.wide (base' := W.heap.size + 1) (by show _ ≤ (W.drew.alloc _).heap.size; simp) (Nat.le_refl _)).kept (p := fun k => k ≠ W.heap.size) (kk _ (fun h => h rfl)) (fun b h1 _ => by omega)).wide (by omega) (by simp)
 ·obtain ⟨g, h1, h2, _⟩ := hlo h0
  rw [blkOf_eq h1] at e; omega
 ·refine five (b := W.heap.size) (bw.trans (hb'.mono bw.size)) (by omega) _ _ _ _

set_option maxRecDepth 10000 in
set_option maxHeartbeats 4000000 in
theorem copyFunc_refR (F : FV) (w : World) (hF : In w F) (hl : Light F) : Calls Tryz.prog 24 #[F.val] w fun e w' => CopyOfR F w e w' := by
 have HF := hid hF
 have HL := hid hl
 have gb := hl.blk
 have gp := hl.par
 clear hF hl
 go_enter Tryz.func24, Tryz.ntmps24
 go_upto_region 1 with fail
 obtain ⟨W, hW⟩ : ∃ W, (w.alloc (.cells (fcells F) 36)).alloc (.cells #[.string ⟨#[]⟩, .bool false, .slice none 0 0, .int .i64 0, .slice none 0 0] 36) = W := ⟨_, rfl⟩
 have BW := hid (show Below w.heap.size w W by rw [← hW]; exact new (new (same w) _) _)
 have ZW := hid (show W.heap.size = w.heap.size + 2 by rw [← hW]; simp)
 have FW := hid (show FuncAt W w.heap.size F by rw [← hW]; exact (FuncAt.alloc w F).on (new (same _) _))
 have ZF := hid (show FuncAt W (w.heap.size + 1) zF by rw [← hW]; have := FuncAt.alloc (w.alloc (.cells (fcells F) 36)) zF; simpa using this)
 have FZ := hid (show ∀ i, W.frozen? ⟨w.heap.size + 1, i, none⟩ = false by intro i; rw [← hW]; simp)
 have PI := hid (show Ints W F.par F.P from HF.out.par.on BW.out)
 try rw [hW]
 clear hW
 go_cut [3] from 7 to 16 (fun g wx => Made F w g wx)
 case first =>
  have s0 : Below (w.heap.size + 2) W W.drew := Below.drew (Below.refl _ _)
  have c0 : ∀ wx, Below (w.heap.size + 2) W wx → wx.cell? ⟨w.heap.size, 0, none⟩ = some (.string F.name) := fun wx h => (h.cell (by show w.heap.size < _; omega)).trans FW.out.c0
  have c1 : ∀ wx, Below (w.heap.size + 2) W wx → wx.cell? ⟨w.heap.size, 1, none⟩ = some (.bool F.out) := fun wx h => (h.cell (by show w.heap.size < _; omega)).trans FW.out.c1
  have c2 : ∀ wx, Below (w.heap.size + 2) W wx → wx.cell? ⟨w.heap.size, 2, none⟩ = some (.slice F.par.a F.par.n F.par.c) := fun wx h => (h.cell (by show w.heap.size < _; omega)).trans FW.out.c2
  have c3 : ∀ wx, Below (w.heap.size + 2) W wx → wx.cell? ⟨w.heap.size, 3, none⟩ = some (.int .i64 F.res) := fun wx h => (h.cell (by show w.heap.size < _; omega)).trans FW.out.c3
  refine wp_region_noPanic ?_
  refine wp_region_held_drew (S := fun wx => Below (w.heap.size + 2) W wx) (by kernel_rfl) s0 (fun hS => ?_)
  refine tk (i := 0) (d := some 7) (v := ?v0) rfl (by rfl) ?y0 hS ?_
  case y0 => intro wx hSw; (go_simp) <;> with_reducible rfl
  simp only [Act.put, sP1, sP2, sP3]
  refine tk (i := 1) (d := some 8) (v := ?v1) rfl (by rfl) ?y1 hS ?_
  case y1 => intro wx hSw; (go_simp) <;> with_reducible rfl
  simp only [Act.put, sP1, sP2, sP3]
  refine tk (i := 2) (d := some 9) (v := ?v2) rfl (by rfl) ?y2 hS ?_
  case y2 => intro wx hSw; (go_simp) <;> with_reducible rfl
  simp only [Act.put, sP1, sP2, sP3]
  refine tk (i := 3) (d := some 10) (v := ?v3) rfl (by rfl) ?y3 hS ?_
  case y3 => intro wx hSw; (go_simp) <;> with_reducible rfl
  simp only [Act.put, sP1, sP2, sP3]
  refine tk (i := 4) (d := some 11) (v := ?v4) rfl (by rfl) ?y4 hS ?_
  case y4 => intro wx hSw; (go_simp) <;> with_reducible rfl
  simp only [Act.put, sP1, sP2, sP3]
  refine tk (i := 5) (d := some 12) (v := ?v5) rfl (by rfl) ?y5 hS ?_
  case y5 => intro wx hSw; (go_simp) <;> with_reducible rfl
  simp only [Act.put, sP1, sP2, sP3]
  refine tk (i := 7) (d := some 14) (v := ?v7) rfl (by rfl) ?y7 hS ?_
  case y7 => intro wx hSw; (go_simp) <;> with_reducible rfl
  simp only [Act.put, sP1, sP2, sP3]
  refine tk (i := 8) (d := some 15) (v := ?v8) rfl (by rfl) ?y8 hS ?_
  case y8 => intro wx hSw; (go_simp) <;> with_reducible rfl
  simp only [Act.put, sP1, sP2, sP3]
  refine wpAnyH_ready (rs := [6, 10]) (by kernel_rfl) (by simp) ?_
  refine AllReadyH.cons rfl (fun K hK => ?_) (AllReadyH.cons rfl (fun K hK => ?_) AllReadyH.nil)
  ·obtain ⟨sp, w3, hrun, hn3, hi3, hm3, hb3⟩ := run_append_copy F.par F.P W.drew 33 (PI.out.on (below_drewN' W 1)) (by omega)
   have HN3 := hid hn3
   clear hn3
   rw [if_pos (by rfl)]
   refine wp_app (s := .const (.slice none 0 0)) (x := .tmp 12) (t := 33) (d := some 13) rfl rfl rfl rfl rfl hrun ?_
   try simp only [Act.put, sP1, sP2, sP3]
   have s3 : Below (w.heap.size + 2) W w3 := s0.trans (hb3.mono (by have := ZW.out; show _ ≤ W.heap.size; omega))
   refine hK.out _ _ s3 (fun _ => ?_)
   clear hK K
   replace hS := s3
   try simp only [Act.put, sP1, sP2, sP3]
   refine tk (i := 9) (d := some 16) (v := ?va9) rfl (by rfl) ?ya9 hS ?_
   case ya9 => intro wx hSw; (go_simp) <;> with_reducible rfl
   simp only [Act.put, sP1, sP2, sP3]
   have s4 := s3.alloc (by have := s3.size; have := ZW.out; omega) (.cells #[.string ⟨#[]⟩, .bool false, .slice none 0 0, .int .i64 0, .slice none 0 0] 36)
   have s5 := s3.alloc (by have := s3.size; have := ZW.out; omega) (.cells (fcells { F with par := sp, blk := ⟨none, 0, 0⟩ }) 36)
   refine wpAnyH_ready (rs := [10]) (by kernel_rfl) (by simp) ?_
   refine AllReadyH.cons rfl (fun K hK => ?_) AllReadyH.nil
   go_simp
   refine hK.out _ _ s4 (fun _ => ?_)
   clear hK K
   replace hS := s4
   try simp only [Act.put, sP1, sP2, sP3]
   refine wpAnyH_ready (rs := [11]) (by kernel_rfl) (by simp) ?_
   refine AllReadyH.cons rfl (fun K hK => ?_) AllReadyH.nil
   go_simp
   refine hK.out _ _ s5 (fun _ => ?_)
   clear hK K
   replace hS := s5
   try simp only [Act.put, sP1, sP2, sP3]
   refine wpAnyH_done (by kernel_rfl) ?_ _
   refine NoPanic.normal ?_
   go_wp2_with fail
   go_meet
   case rel =>
    exact cut_a ZW.out BW.out FW.out ZF.out FZ.out HN3.out hi3 hm3 hb3
  ·go_simp
   have t1 := s0.alloc (by have := ZW.out; show _ ≤ W.heap.size; omega) (.cells #[.string ⟨#[]⟩, .bool false, .slice none 0 0, .int .i64 0, .slice none 0 0] 36)
   refine hK.out _ _ t1 (fun _ => ?_)
   clear hK K
   replace hS := t1
   try simp only [Act.put, sP1, sP2, sP3]
   obtain ⟨sp, w3, hrun, hn3, hi3, hm3, hb3⟩ := run_append_copy F.par F.P (W.drew.alloc (.cells #[.string ⟨#[]⟩, .bool false, .slice none 0 0, .int .i64 0, .slice none 0 0] 36)) 33 ((PI.out.on (below_drewN' W 1)).on (new (same _) _)) (by omega)
   have HN3 := hid hn3
   clear hn3
   have t2 : Below (w.heap.size + 2) W w3 := t1.trans (hb3.mono (by have := ZW.out; show _ ≤ (W.drew.alloc _).heap.size; simp; omega))
   refine wpAnyH_ready (rs := [6]) (by kernel_rfl) (by simp) ?_
   refine AllReadyH.cons rfl (fun K hK => ?_) AllReadyH.nil
   rw [if_pos (by rfl)]
   refine wp_app (s := .const (.slice none 0 0)) (x := .tmp 12) (t := 33) (d := some 13) rfl rfl rfl rfl rfl hrun ?_
   try simp only [Act.put, sP1, sP2, sP3]
   refine hK.out _ _ t2 (fun _ => ?_)
   clear hK K
   replace hS := t2
   try simp only [Act.put, sP1, sP2, sP3]
   refine tk (i := 9) (d := some 16) (v := ?vb9) rfl (by rfl) ?yb9 hS ?_
   case yb9 => intro wx hSw; (go_simp) <;> with_reducible rfl
   simp only [Act.put, sP1, sP2, sP3]
   have fG : FuncAt w3 W.heap.size zF := FuncAt.on hb3 (FuncAt.alloc W.drew zF)
   obtain ⟨g0, g1, g2, g3, g4⟩ := fG
   have gz : ∀ i, w3.frozen? ⟨W.heap.size, i, none⟩ = false := fun i => by rw [hb3.frozen (by show W.heap.size < (W.drew.alloc _).heap.size; simp)]; exact World.frozen?_alloc_new W.drew _ _ i
   have t3 := five (b := W.heap.size) t2 (by have := ZW.out; omega) F.name F.out sp F.res
   refine wpAnyH_ready (rs := [11]) (by kernel_rfl) (by simp) ?_
   refine AllReadyH.cons rfl (fun K hK => ?_) AllReadyH.nil
   go_simp
   refine hK.out _ _ t3 (fun _ => ?_)
   clear hK K
   replace hS := t3
   try simp only [Act.put, sP1, sP2, sP3]
   refine wpAnyH_done (by kernel_rfl) ?_ _
   refine NoPanic.normal ?_
   go_wp2_with fail
   go_meet
   case rel =>
    exact cut_b ZW.out BW.out FW.out ZF.out FZ.out HN3.out hi3 hm3 hb3
 case rest =>
  obtain ⟨Gb, sp, rfl, fG, fF, fZ, zG, zZ, hpi, hpn, hpm, hge, hltG, hne, hlow⟩ := hcut
  have env0 : Env F w Gb sp ⟨none, 0, 0⟩ wc := ⟨fG, fF, fZ, zG, zZ, hlow, hltG, hge⟩
  have st0 := hid (show OutS F w Gb sp 0 wc from ⟨_, _, Part.start env0 hpi hpn hpm hne, env0⟩)
  clear env0 fG fF fZ zG zZ hpi hpn hpm hltG hne hlow BW ZW FW ZF FZ PI
  go_wp2_with fail
  go_loopw [4] (fun i wr => ∃ j : Nat, j ≤ F.blk.n ∧ i = .int .i64 j ∧ OutS F w Gb sp j wr) (fun i _ => F.blk.n - (intOf i).toNat)
  case atStart => exact ⟨0, Nat.zero_le _, rfl, st0.out⟩
  case round =>
   clear st0
   obtain ⟨j, hj, rfl, bs, S, hpart, henv⟩ := hrel
   obtain ⟨c0, c1, c2, c3, c4⟩ := henv.ff
   by_cases hlt : j < F.blk.n
   ·obtain ⟨bb, oo, hix, hck0⟩ := HF.out.blk.at hlt
    have hbb : bb < w.heap.size := World.block_lt_of_cell? _ _ hck0
    have g5 := HL.out.ins j hlt
    have ST := hid (in_start hpart henv)
    have hzz := henv.lt
    clear hpart henv
    go_wp2_with fail
    obtain ⟨N5, hN5⟩ : ∃ N5, wr.heap.size = N5 := ⟨_, rfl⟩
    rw [hN5] at ST hzz ⊢
    clear hN5 c0 c1 c2 c3 c4
    go_loopw [6] (fun i wx => ∃ k : Nat, k ≤ (F.B j).n ∧ i = .int .i64 k ∧ InS F w Gb N5 sp bs j k wx) (fun i _ => (F.B j).n - (intOf i).toNat)
    case atStart => exact ⟨0, Nat.zero_le _, rfl, ST.out⟩
    case round =>
     clear ST
     obtain ⟨k, hk, rfl, vs, S, hpart, henv, hcb, hfb, hgb, hbz⟩ := hrel
     obtain ⟨c0, c1, c2, c3, c4⟩ := henv.ff
     have hck := cell_on henv.low hck0
     have HP := hid (And.intro hpart (And.intro henv (And.intro hcb (And.intro hfb (And.intro hgb hbz)))))
     by_cases hkl : k < (F.B j).n
     ·obtain ⟨ib, io, hiy, hI0⟩ := (HF.out.ins j hlt).at hkl
      have hib : ib < w.heap.size := World.block_lt_of_cell? _ _ hI0.c0
      have ga : (F.I j k).args.n ≤ 1000 := by have := HL.out.args j hlt k hkl; omega
      have gi : (F.I j k).into.n ≤ 1000 := by have := HL.out.into j hlt k hkl; omega
      have HIA := hid (show Ints wr.drew (F.I j k).args (F.A j k) from ((HF.out.args j hlt k hkl).on henv.low).on (Below.drew (same _)))
      have HII := hid (show Ints wr.drew (F.I j k).into (F.J j k) from ((HF.out.into j hlt k hkl).on henv.low).on (Below.drew (same _)))
      go_upto_region 9 with fail
      have s0 : Below (w.heap.size + 1) wr wr.drew := Below.drew (Below.refl _ _)
      have zr : w.heap.size + 2 ≤ wr.heap.size := by have := henv.lt; have := henv.ge; omega
      have x4 : ∀ wy, Below (w.heap.size + 1) wr wy → wy.cell? ⟨w.heap.size, 4, none⟩ = some (.slice F.blk.a F.blk.n F.blk.c) := fun wy h => (h.cell (by show w.heap.size < _; omega)).trans c4
      have xk : ∀ wy, Below (w.heap.size + 1) wr wy → wy.cell? ⟨bb, oo, none⟩ = some (.slice (F.B j).a (F.B j).n (F.B j).c) := fun wy h => (h.cell (by show bb < _; omega)).trans hck
      have hI := hI0.on henv.low
      have xI : ∀ wy, Below (w.heap.size + 1) wr wy → InsAt wy ib io (F.I j k) := fun wy h => hI.kept (p := fun b => b < w.heap.size + 1) ⟨h.size, fun b hb => h.block b hb⟩ (by show ib < _; omega)
      have i0 : ∀ wy, Below (w.heap.size + 1) wr wy → wy.cell? ⟨ib, io, none⟩ = some (.int .i64 (F.I j k).op) := fun wy h => (xI wy h).c0
      have i1 : ∀ wy, Below (w.heap.size + 1) wr wy → wy.cell? ⟨ib, io + 1, none⟩ = some (.int .i64 (F.I j k).ty) := fun wy h => (xI wy h).c1
      have i2 : ∀ wy, Below (w.heap.size + 1) wr wy → wy.cell? ⟨ib, io + 2, none⟩ = some (.int .i64 (F.I j k).to) := fun wy h => (xI wy h).c2
      have i3 : ∀ wy, Below (w.heap.size + 1) wr wy → wy.cell? ⟨ib, io + 3, none⟩ = some (.int .i64 (F.I j k).sym) := fun wy h => (xI wy h).c3
      have i4 : ∀ wy, Below (w.heap.size + 1) wr wy → wy.cell? ⟨ib, io + 4, none⟩ = some (.int .i64 (F.I j k).num) := fun wy h => (xI wy h).c4
      have i5 : ∀ wy, Below (w.heap.size + 1) wr wy → wy.cell? ⟨ib, io + 5, none⟩ = some (.slice (F.I j k).args.a (F.I j k).args.n (F.I j k).args.c) := fun wy h => (xI wy h).c5
      have i6 : ∀ wy, Below (w.heap.size + 1) wr wy → wy.cell? ⟨ib, io + 6, none⟩ = some (.slice (F.I j k).into.a (F.I j k).into.n (F.I j k).into.c) := fun wy h => (xI wy h).c6
      have sec : ∀ {w2 : World}, Below wr.drew.heap.size wr.drew w2 → Below (w.heap.size + 1) wr w2 := fun h => s0.trans (h.mono (by show _ ≤ wr.heap.size; omega))
      have sed : ∀ {w2 : World} (h : Below wr.drew.heap.size wr.drew w2) (o : Obj), Below (w.heap.size + 1) wr (w2.alloc o) := fun h o => (sec h).alloc (by have := h.size; have : wr.drew.heap.size = wr.heap.size := rfl; omega) o
      have see : ∀ {w2 w4 : World} {o : Obj} (h : Below wr.drew.heap.size wr.drew w2), (w2.alloc o).grownBy w4 (slv vs).ownBlock → Below (w.heap.size + 1) wr w4 := fun h g => (sed h _).grown g (by rw [World.size_alloc]; have := h.size; have : wr.drew.heap.size = wr.heap.size := rfl; omega) (fun b hb => by have := (HP.out.1.cur.lt b hb).1; omega)
      have cc : ∀ {w2 : World}, Below wr.drew.heap.size wr.drew w2 → w2.cell? ⟨N5, 0, none⟩ = some (.slice vs.a vs.n vs.c) := fun h => cell_on (w := wr.drew) h HP.out.2.2.1
      have cd : ∀ {w2 : World} (h : Below wr.drew.heap.size wr.drew w2) (o : Obj), (w2.alloc o).cell? ⟨N5, 0, none⟩ = some (.slice vs.a vs.n vs.c) := fun h o => cell_on (new (same _) o) (cc h)
      have fin : ∀ {w2 : World} (h : Below wr.drew.heap.size wr.drew w2) (ta ti : Sl), ∃ v' w4, (Builtin.append_ #[38, 38] 38 #[.slice vs.a vs.n vs.c, .slice (some ⟨w2.heap.size, 0, none⟩) 1 1]).run Tryz.prog (w2.alloc (.cells ({ F.I j k with args := ta, into := ti } : IV).cells 43)) = .ok v' w4 ∧ w4.ownsRow (w.heap.size + 2) 43 7 v' (k + 1) (flat (cpI F S j) k ++ ({ F.I j k with args := ta, into := ti } : IV).cells.toList) ∧ (w2.alloc (.cells ({ F.I j k with args := ta, into := ti } : IV).cells 43)).grownBy w4 (slv vs).ownBlock ∧ (v'.ownBlock = (slv vs).ownBlock ∨ v'.ownBlock = some (w2.heap.size + 1)) := fun h ta ti =>
       app_ins (owns_on (more (Below.drew (same wr)) h) HP.out.1.cur) (by omega) (by have := h.size; have : wr.drew.heap.size = wr.heap.size := rfl; omega) _ _
      have fzz : ∀ {w2 w4 : World} {o : Obj} (h : Below wr.drew.heap.size wr.drew w2), (w2.alloc o).grownBy w4 (slv vs).ownBlock → w4.frozen? ⟨N5, 0, none⟩ = false := fun {w2 w4 o} h g => by
       have z := h.size
       have : wr.drew.heap.size = wr.heap.size := rfl
       rw [World.frozen?_of_block (w := w2.alloc o) (g.block N5 (by simp; omega) (fun e => HP.out.1.avv N5 e.symm (.inr rfl))), World.frozen?_alloc_old _ _ _ (by show N5 ≠ _; omega), h.frozen (by show N5 < wr.heap.size; omega)]
       exact HP.out.2.2.2.1
      have ce : ∀ {w2 w4 : World} {o : Obj} (h : Below wr.drew.heap.size wr.drew w2), (w2.alloc o).grownBy w4 (slv vs).ownBlock → w4.cell? ⟨N5, 0, none⟩ = some (.slice vs.a vs.n vs.c) := fun {w2 w4 o} h g => by
       have z := h.size
       have : wr.drew.heap.size = wr.heap.size := rfl
       rw [World.cell?_of_block (w := w2.alloc o) (g.block N5 (by simp; omega) (fun e => HP.out.1.avv N5 e.symm (.inr rfl)))]
       exact cd h o
      have hcb' : wr.cell? ⟨N5, 0, none⟩ = some (.slice vs.a vs.n vs.c) := hcb
      clear hpart henv c0 c1 c2 c3 c4 hck0 hck hI0 hI xI hcb hfb
      refine wp_region_noPanic ?_
      refine wp_region_held_drew (S := fun wy => Below (w.heap.size + 1) wr wy) (by kernel_rfl) s0 (fun hS => ?_)
      refine tk (i := 0) (d := some 36) (v := ?vn0) rfl (by rfl) ?yn0 hS ?_
      case yn0 => intro wx hSw; (go_simp) <;> with_reducible rfl
      simp only [Act.put, sP1, sP2, sP3]
      refine tk (i := 2) (d := some 38) (v := ?vn2) rfl (by rfl) ?yn2 hS ?_
      case yn2 => intro wx hSw; (go_simp) <;> with_reducible rfl
      simp only [Act.put, sP1, sP2, sP3]
      refine tk (i := 3) (d := some 39) (v := ?vn3) rfl (by rfl) ?yn3 hS ?_
      case yn3 => intro wx hSw; (go_simp) <;> with_reducible rfl
      simp only [Act.put, sP1, sP2, sP3]
      refine tk (i := 4) (d := some 40) (v := ?vn4) rfl (by rfl) ?yn4 hS ?_
      case yn4 => intro wx hSw; (go_simp) <;> with_reducible rfl
      simp only [Act.put, sP1, sP2, sP3]
      refine tk (i := 5) (d := some 41) (v := ?vn5) rfl (by rfl) ?yn5 hS ?_
      case yn5 => intro wx hSw; (go_simp) <;> with_reducible rfl
      simp only [Act.put, sP1, sP2, sP3]
      refine tk (i := 6) (d := some 42) (v := ?vn6) rfl (by rfl) ?yn6 hS ?_
      case yn6 => intro wx hSw; (go_simp) <;> with_reducible rfl
      simp only [Act.put, sP1, sP2, sP3]
      refine tk (i := 7) (d := some 43) (v := ?vn7) rfl (by rfl) ?yn7 hS ?_
      case yn7 => intro wx hSw; (go_simp) <;> with_reducible rfl
      simp only [Act.put, sP1, sP2, sP3]
      refine tk (i := 8) (d := some 44) (v := ?vn8) rfl (by rfl) ?yn8 hS ?_
      case yn8 => intro wx hSw; (go_simp) <;> with_reducible rfl
      simp only [Act.put, sP1, sP2, sP3]
      refine tk (i := 9) (d := some 45) (v := ?vn9) rfl (by rfl) ?yn9 hS ?_
      case yn9 => intro wx hSw; (go_simp) <;> with_reducible rfl
      simp only [Act.put, sP1, sP2, sP3]
      refine tk (i := 10) (d := some 46) (v := ?vn10) rfl (by rfl) ?yn10 hS ?_
      case yn10 => intro wx hSw; (go_simp) <;> with_reducible rfl
      simp only [Act.put, sP1, sP2, sP3]
      refine wpAnyH_ready (rs := [1, 11]) (by kernel_rfl) (by simp) ?_
      refine AllReadyH.cons rfl (fun K hK => ?_) (AllReadyH.cons rfl (fun K hK => ?_) AllReadyH.nil)
      ·go_simp
       refine hK.out _ _ s0 (fun _ => ?_)
       clear hK K
       replace hS := s0
       try simp only [Act.put, sP1, sP2, sP3]
       refine wpAnyH_ready (rs := [11]) (by kernel_rfl) (by simp) ?_
       refine AllReadyH.cons rfl (fun K hK => ?_) AllReadyH.nil
       go_simp
       refine (copyIns_ref (F.I j k) (F.A j k) (F.J j k) _ HIA.out HII.out ga gi).mono ?_
       rintro e w2 ⟨ta, ti, rfl, tw, hb2⟩
       go_wp2_with fail
       have s2 := sec hb2
       obtain ⟨v5, w4, hrun, hown4, hgr4, hat4⟩ := fin hb2 ta ti
       obtain ⟨sv, rfl⟩ := owns_slv hown4
       have hc4 := ce hb2 hgr4
       have hc2 := cc hb2
       have hc3 := cd hb2 (.cells ({ F.I j k with args := ta, into := ti } : IV).cells 43)
       have s3 := sed hb2 (.cells ({ F.I j k with args := ta, into := ti } : IV).cells 43)
       have s4 := see hb2 hgr4
       have s5 := s4.setCell (p := ⟨N5, 0, none⟩) (by show _ ≤ N5; omega) (.slice sv.a sv.n sv.c)
       have fz4 := fzz hb2 hgr4
       refine hK.out _ _ s2 (fun _ => ?_)
       clear hK K
       replace hS := s2
       try simp only [Act.put, sP1, sP2, sP3]
       refine wpAnyH_ready (rs := [12]) (by kernel_rfl) (by simp) ?_
       refine AllReadyH.cons rfl (fun K hK => ?_) AllReadyH.nil
       go_simp
       refine hK.out _ _ s3 (fun _ => ?_)
       clear hK K
       replace hS := s3
       try simp only [Act.put, sP1, sP2, sP3]
       refine wpAnyH_ready (rs := [13]) (by kernel_rfl) (by simp) ?_
       refine AllReadyH.cons rfl (fun K hK => ?_) AllReadyH.nil
       rw [if_pos (by rfl)]
       refine wp_app (s := .tmp 37) (x := .tmp 48) (t := 38) (d := some 49) rfl rfl rfl rfl rfl hrun ?_
       try simp only [Act.put, sP1, sP2, sP3]
       refine hK.out _ _ s4 (fun _ => ?_)
       clear hK K
       replace hS := s4
       try simp only [Act.put, sP1, sP2, sP3]
       refine tk (i := 14) (d := some 50) (v := ?vna14) rfl (by rfl) ?yna14 hS ?_
       case yna14 => intro wx hSw; (go_simp) <;> with_reducible rfl
       simp only [Act.put, sP1, sP2, sP3]
       refine wpAnyH_ready (rs := [15]) (by kernel_rfl) (by simp) ?_
       refine AllReadyH.cons rfl (fun K hK => ?_) AllReadyH.nil
       go_simp
       refine hK.out _ _ s5 (fun _ => ?_)
       clear hK K
       replace hS := s5
       try simp only [Act.put, sP1, sP2, sP3]
       refine wpAnyH_done (by kernel_rfl) ?_ _
       refine NoPanic.normal ?_
       go_wp2_with fail
       go_round
       case rel => exact ⟨k + 1, by omega, by go_num, in_step HP.out.1 HP.out.2.1 HP.out.2.2.1 HP.out.2.2.2.1 HP.out.2.2.2.2.1 HP.out.2.2.2.2.2 tw hb2 hown4 hgr4 hat4⟩
       case measure => simp [intOf]; omega
      ·go_simp
       refine (copyIns_ref (F.I j k) (F.A j k) (F.J j k) _ HIA.out HII.out ga gi).mono ?_
       rintro e w2 ⟨ta, ti, rfl, tw, hb2⟩
       go_wp2_with fail
       have s2 := sec hb2
       obtain ⟨v5, w4, hrun, hown4, hgr4, hat4⟩ := fin hb2 ta ti
       obtain ⟨sv, rfl⟩ := owns_slv hown4
       have hc4 := ce hb2 hgr4
       have hc2 := cc hb2
       have hc3 := cd hb2 (.cells ({ F.I j k with args := ta, into := ti } : IV).cells 43)
       have s3 := sed hb2 (.cells ({ F.I j k with args := ta, into := ti } : IV).cells 43)
       have s4 := see hb2 hgr4
       have s5 := s4.setCell (p := ⟨N5, 0, none⟩) (by show _ ≤ N5; omega) (.slice sv.a sv.n sv.c)
       have fz4 := fzz hb2 hgr4
       refine hK.out _ _ s2 (fun _ => ?_)
       clear hK K
       replace hS := s2
       try simp only [Act.put, sP1, sP2, sP3]
       refine wpAnyH_ready (rs := [1, 12]) (by kernel_rfl) (by simp) ?_
       refine AllReadyH.cons rfl (fun K hK => ?_) (AllReadyH.cons rfl (fun K hK => ?_) AllReadyH.nil)
       ·go_simp
        refine hK.out _ _ s2 (fun _ => ?_)
        clear hK K
        replace hS := s2
        try simp only [Act.put, sP1, sP2, sP3]
        refine wpAnyH_ready (rs := [12]) (by kernel_rfl) (by simp) ?_
        refine AllReadyH.cons rfl (fun K hK => ?_) AllReadyH.nil
        go_simp
        refine hK.out _ _ s3 (fun _ => ?_)
        clear hK K
        replace hS := s3
        try simp only [Act.put, sP1, sP2, sP3]
        refine wpAnyH_ready (rs := [13]) (by kernel_rfl) (by simp) ?_
        refine AllReadyH.cons rfl (fun K hK => ?_) AllReadyH.nil
        rw [if_pos (by rfl)]
        refine wp_app (s := .tmp 37) (x := .tmp 48) (t := 38) (d := some 49) rfl rfl rfl rfl rfl hrun ?_
        try simp only [Act.put, sP1, sP2, sP3]
        refine hK.out _ _ s4 (fun _ => ?_)
        clear hK K
        replace hS := s4
        try simp only [Act.put, sP1, sP2, sP3]
        refine tk (i := 14) (d := some 50) (v := ?vnb14) rfl (by rfl) ?ynb14 hS ?_
        case ynb14 => intro wx hSw; (go_simp) <;> with_reducible rfl
        simp only [Act.put, sP1, sP2, sP3]
        refine wpAnyH_ready (rs := [15]) (by kernel_rfl) (by simp) ?_
        refine AllReadyH.cons rfl (fun K hK => ?_) AllReadyH.nil
        go_simp
        refine hK.out _ _ s5 (fun _ => ?_)
        clear hK K
        replace hS := s5
        try simp only [Act.put, sP1, sP2, sP3]
        refine wpAnyH_done (by kernel_rfl) ?_ _
        refine NoPanic.normal ?_
        go_wp2_with fail
        go_round
        case rel => exact ⟨k + 1, by omega, by go_num, in_step HP.out.1 HP.out.2.1 HP.out.2.2.1 HP.out.2.2.2.1 HP.out.2.2.2.2.1 HP.out.2.2.2.2.2 tw hb2 hown4 hgr4 hat4⟩
        case measure => simp [intOf]; omega
       ·go_simp
        refine hK.out _ _ s3 (fun _ => ?_)
        clear hK K
        replace hS := s3
        try simp only [Act.put, sP1, sP2, sP3]
        refine wpAnyH_ready (rs := [1]) (by kernel_rfl) (by simp) ?_
        refine AllReadyH.cons rfl (fun K hK => ?_) AllReadyH.nil
        go_simp
        refine hK.out _ _ s3 (fun _ => ?_)
        clear hK K
        replace hS := s3
        try simp only [Act.put, sP1, sP2, sP3]
        refine wpAnyH_ready (rs := [13]) (by kernel_rfl) (by simp) ?_
        refine AllReadyH.cons rfl (fun K hK => ?_) AllReadyH.nil
        rw [if_pos (by rfl)]
        refine wp_app (s := .tmp 37) (x := .tmp 48) (t := 38) (d := some 49) rfl rfl rfl rfl rfl hrun ?_
        try simp only [Act.put, sP1, sP2, sP3]
        refine hK.out _ _ s4 (fun _ => ?_)
        clear hK K
        replace hS := s4
        try simp only [Act.put, sP1, sP2, sP3]
        refine tk (i := 14) (d := some 50) (v := ?vnc14) rfl (by rfl) ?ync14 hS ?_
        case ync14 => intro wx hSw; (go_simp) <;> with_reducible rfl
        simp only [Act.put, sP1, sP2, sP3]
        refine wpAnyH_ready (rs := [15]) (by kernel_rfl) (by simp) ?_
        refine AllReadyH.cons rfl (fun K hK => ?_) AllReadyH.nil
        go_simp
        refine hK.out _ _ s5 (fun _ => ?_)
        clear hK K
        replace hS := s5
        try simp only [Act.put, sP1, sP2, sP3]
        refine wpAnyH_done (by kernel_rfl) ?_ _
        refine NoPanic.normal ?_
        go_wp2_with fail
        go_round
        case rel => exact ⟨k + 1, by omega, by go_num, in_step HP.out.1 HP.out.2.1 HP.out.2.2.1 HP.out.2.2.2.1 HP.out.2.2.2.2.1 HP.out.2.2.2.2.2 tw hb2 hown4 hgr4 hat4⟩
        case measure => simp [intOf]; omega
     ·obtain rfl : k = (F.B j).n := by omega
      obtain ⟨d0, d1, d2, d3, d4⟩ := henv.fg
      obtain ⟨v5, w5, hrun, hown5, hgr5, hat5⟩ := app_blk (w2 := wr) hpart.blks (by omega) (by have := henv.lt; have := henv.ge; omega) vs 34
      obtain ⟨sv, rfl⟩ := owns_slv hown5
      have hgk : w5.heap[Gb]? = wr.heap[Gb]? := by
       rw [hgr5.block Gb (by simp; have := henv.lt; omega) (fun e => hpart.avb Gb e.symm (.inl (.inl rfl))), Below.heap_alloc _ _ _ henv.lt]
      have k4 : w5.cell? ⟨Gb, 4, none⟩ = some (.slice bs.a bs.n bs.c) := by rw [World.cell?_of_block (w := wr) hgk]; exact d4
      have kf : w5.frozen? ⟨Gb, 4, none⟩ = false := by rw [World.frozen?_of_block (w := wr) hgk]; exact henv.zg 4
      clear hpart henv c0 c1 c2 c3 hfb hgk d0 d1 d2 d3
      go_wp2_with (at_builtin; refine wpList_app (.tmp 52) (.tmp 54) rfl rfl rfl rfl rfl hrun ?_)
      go_round
      case rel => exact ⟨j + 1, by omega, by go_num, out_step HP.out.1 HP.out.2.1 (by omega) hown5 hgr5 hat5⟩
      case measure => simp [intOf]; omega
   ·obtain rfl : j = F.blk.n := by omega
    obtain ⟨d0, d1, d2, d3, d4⟩ := henv.fg
    obtain ⟨z0, z1, z2, z3, z4⟩ := henv.fz
    have zz := henv.zz
    have HP := hid (And.intro hpart henv)
    clear hpart henv
    go_wp2_with fail
    refine bodyPost_ret (v := ({ F with par := sp, blk := bs } : FV).val) (by rw [results_cell rfl]; go_simp) rfl ?_
    exact out_end HP.out.1 HP.out.2 HL.out _ _ _ _ _

end Go.Proofs.YtolipafcoolpgaaGreat.Own
