/-
  dom.Dom: whether one block is over another one.
-/
import Derived.Test.YtahjippocejphaaDma
import Derived.Test.YtahjippocejphaaLight
import Derived.Test.YtahjippocejphaaFloDm
import Derived.Test.YtahjippocejphaaFloF
import Derived.Deep.RegionHeld3
namespace Go.Proofs.Ytahjippocejphaa.Dm
open Go.RowKit View Rd Copy Num Ty Srt Go.Proofs.Ytahjippocejphaa.Flo

set_option linter.unusedVariables false

theorem append_blks {ops : Array Oper} {rest : List Oper} {o : Oper} {a : Act} {Q : Exit → Act → World → Prop} {w : World} (hgd : o.guard = none) (s x : Operand)
    (ho : o.op = .call { callee := .builtin .append, args := #[s, x], argTypes := #[31, 31] })
    (base : Nat) (v : Value) (hs : a.eval s = v) (hown : w.ownsRow base 39 1 v 0 [])
    (ad : Addr) (m c : Nat) (B : Nat → Sl) (hx : a.eval x = .slice (some ad) m c) (hin : ∀ i, i < m → w.cell? (ad.add i) = some (.slice (B i).a (B i).n (B i).c))
    (hsm : m ≤ 1000) (hbase : base ≤ w.heap.size)
    (h : ∀ v' w', w'.ownsRow base 39 1 v' m ((List.range m).map (fun i => Sl.val (B i))) → w.grownBy w' v.ownBlock → wpList Try.prog ops Q rest (a.put o.dst v') w') : wpList Try.prog ops Q (o :: rest) a w := by
  obtain ⟨i0, hi, hz0, hz1, hz2⟩ := info_parts info39
  refine wpList_append_own w hgd s x 31 ho base 39 i0 (.agg #[.slice none 0 0]) 1 24 underlying31 hi hz0 hz1 hz2 rfl (by decide) v 0 _ hs hown ad m c ((List.range m).map (fun i => Sl.val (B i))) hx (by simp) (fun j u hu => ?_) (by intro u hu; obtain ⟨i, _, rfl⟩ := List.mem_map.1 hu; rfl) (by simp only [maxLen]; omega) (by omega) hbase ?_
  · obtain ⟨h1, h2⟩ := List.getElem?_eq_some_iff.1 hu
    simp at h1 h2
    rw [← h2]
    exact hin j h1
  · intro v' w' h1 h2 _
    exact h v' w' (by simpa using h1) h2

/-- A new row of blocks. -/
def BlksIs (F : FV) (w : World) (e : Ending) (w' : World) : Prop := ∃ g c, e = .returned (.slice (some ⟨g, 0, none⟩) F.blk.n c) ∧ (∀ i, i < F.blk.n → w'.cell? ⟨g, i, none⟩ = some (.slice (F.B i).a (F.B i).n (F.B i).c)) ∧ (∀ i, w'.frozen? ⟨g, i, none⟩ = false) ∧ w.heap.size ≤ g ∧ g < w'.heap.size ∧ F.blk.n ≤ c ∧ Below w.heap.size w w'

set_option maxRecDepth 10000 in
set_option maxHeartbeats 1000000 in
theorem cloneB_any (F : FV) (w : World) (hF : In w F) (hl : Light F) (h0 : 0 < F.blk.n) : Calls Try.prog 104 #[.slice F.blk.a F.blk.n F.blk.c] w fun e w' => BlksIs F w e w' := by
  have gb := hl.blk
  obtain ⟨b, off, ha, hc⟩ := hF.blk.2.2.2 h0
  have HC := hid hc
  clear hF hl hc
  rw [ha]
  have hq : ∀ wx, (binOp .eql 31 (.slice (some ⟨b, off, none⟩) F.blk.n F.blk.c) (.slice none 0 0)).run Try.prog wx = .ok (.bool false) wx := fun wx => by
    have := Lib.run_eql_slice_nil (P := Try.prog) wx 31 39 (some ⟨b, off, none⟩) F.blk.n F.blk.c 0 0 underlying31
    simpa using this
  have R0 := hid (show (w.alloc (.cells #[] 39)).ownsRow w.heap.size 39 1 (.slice (some ⟨w.heap.size, 0, none⟩) 0 0) 0 [] from ⟨rfl, .inr ⟨w.heap.size, 0, #[], rfl, Nat.le_refl _, heap_alloc_new w (.cells #[] 39), Nat.le_refl _, by decide, rfl, rfl⟩⟩)
  clear ha
  go_enter Try.func104, Try.ntmps104
  go_wp2_with (at_builtin; refine append_blks rfl (.tmp 5) (.tmp 6) rfl w.heap.size _ rfl R0.out ⟨b, off, none⟩ F.blk.n F.blk.c F.B rfl (fun i hi => by rw [Addr.add_lit]; exact cell_on (new (same w) _) (HC.out i hi)) (by omega) (by simp) ?_; intro v5 w5 hown5 hgr5; have O5 := hid hown5; have G5 := hid hgr5; clear hown5 hgr5)
  clear hq
  go_wp2_with fail
  go_ret
  rcases O5.out.2 with ⟨_, h1⟩ | ⟨g, cap, cur, e, hb, hg, hnc, hm, hs, ht⟩
  · omega
  · have O6 := O5.out
    rw [e] at O6
    refine ⟨g, cap, by rw [e]; rfl, fun i hi => ?_, fun i => by simp [World.frozen?, hg], hb, (Array.getElem?_eq_some_iff.1 hg).1, hnc, (new (same w) _).grown G5.out (by simp) (fun q hq => (R0.out.lt q hq).1)⟩
    rw [O6.cellAt i (by omega)]
    simp [hi]

/-- The function with block a emptied. -/
abbrev cutF (F : FV) (g c a : Nat) : FV := { F with blk := ⟨some ⟨g, 0, none⟩, F.blk.n, c⟩, B := fun j => if j = a then ⟨none, 0, 0⟩ else F.B j }

theorem su_cut (F : FV) (g c a j : Nat) : su (cutF F g c a) j = if j = a then [] else su F j := by
  unfold su
  by_cases e : j = a
  · rw [if_pos e]
    by_cases h : j < F.blk.n
    · rw [if_pos h]
      have : (led (if j = a then (⟨none, 0, 0⟩ : Sl) else F.B j) (F.I j)).n = 0 := by rw [if_pos e]; simp [led]
      show nxt F.blk.n _ (led (if j = a then (⟨none, 0, 0⟩ : Sl) else F.B j) (F.I j)).n = []
      rw [this]; rfl
    · exact if_neg h
  · rw [if_neg e]
    show (if j < F.blk.n then nxt F.blk.n (F.J j ((if j = a then (⟨none, 0, 0⟩ : Sl) else F.B j).n - 1)) (led (if j = a then (⟨none, 0, 0⟩ : Sl) else F.B j) (F.I j)).n else []) = _
    rw [if_neg e]

theorem cnt_cut (F : FV) (a : Nat) : ∀ n, cnt (fun j => (if j = a then (⟨none, 0, 0⟩ : Sl) else F.B j).n) n ≤ cnt (fun j => (F.B j).n) n := by
  intro n
  induction n with
  | zero => exact Nat.le_refl _
  | succ n ih =>
    simp only [cnt]
    by_cases e : n = a
    · rw [if_pos e]; simp only; omega
    · rw [if_neg e]; omega

theorem light_cut {F : FV} (hl : Light F) (g c a : Nat) : Light (cutF F g c a) := by
  refine ⟨Nat.le_trans (cnt_cut F a _) hl.all, hl.name, hl.par, hl.blk, fun j hj => ?_, fun j hj k hk => ?_, fun j hj k hk => ?_⟩
  · show (if j = a then (⟨none, 0, 0⟩ : Sl) else F.B j).n ≤ 90
    by_cases e : j = a
    · rw [if_pos e]; simp
    · rw [if_neg e]; exact hl.ins j hj
  · have hk' : k < (if j = a then (⟨none, 0, 0⟩ : Sl) else F.B j).n := hk
    by_cases e : j = a
    · rw [if_pos e] at hk'; simp at hk'
    · rw [if_neg e] at hk'; exact hl.args j hj k hk'
  · have hk' : k < (if j = a then (⟨none, 0, 0⟩ : Sl) else F.B j).n := hk
    by_cases e : j = a
    · rw [if_pos e] at hk'; simp at hk'
    · rw [if_neg e] at hk'; exact hl.into j hj k hk'

theorem jng_cut {F : FV} (hj : Jng F) (g c a : Nat) : Jng (cutF F g c a) := fun j hj' k hk i hi => by
  have hk' : k < (if j = a then (⟨none, 0, 0⟩ : Sl) else F.B j).n := hk
  by_cases e : j = a
  · rw [if_pos e] at hk'; simp at hk'
  · rw [if_neg e] at hk'; exact hj j hj' k hk' i hi

theorem in_cut {F : FV} {w : World} (h : In w F) {g c a : Nat} (hc : F.blk.n ≤ c) (hg : ∀ i, i < F.blk.n → w.cell? ⟨g, i, none⟩ = some (.slice (if i = a then (⟨none, 0, 0⟩ : Sl) else F.B i).a (if i = a then (⟨none, 0, 0⟩ : Sl) else F.B i).n (if i = a then (⟨none, 0, 0⟩ : Sl) else F.B i).c)) : In w (cutF F g c a) := by
  refine ⟨h.par, ⟨hc, h.blk.2.1, (fun e => by cases e), fun _ => ⟨g, 0, rfl, fun i hi => by rw [Nat.zero_add]; exact hg i hi⟩⟩, fun j hj => ?_, fun j hj k hk => ?_, fun j hj k hk => ?_⟩
  · show Inss w (if j = a then (⟨none, 0, 0⟩ : Sl) else F.B j) (F.I j)
    by_cases e : j = a
    · rw [if_pos e]; exact ⟨Nat.le_refl _, Nat.zero_le _, fun _ => rfl, fun h => absurd h (by simp)⟩
    · rw [if_neg e]; exact h.ins j hj
  · have hk' : k < (if j = a then (⟨none, 0, 0⟩ : Sl) else F.B j).n := hk
    by_cases e : j = a
    · rw [if_pos e] at hk'; simp at hk'
    · rw [if_neg e] at hk'; exact h.args j hj k hk'
  · have hk' : k < (if j = a then (⟨none, 0, 0⟩ : Sl) else F.B j).n := hk
    by_cases e : j = a
    · rw [if_pos e] at hk'; simp at hk'
    · rw [if_neg e] at hk'; exact h.into j hj k hk'

theorem way_cut1 {F G : FV} {a : Nat} (hs : ∀ j, su G j = if j = a then [] else su F j) {b : Nat} (h : Go.Proofs.Ytahjippocejphaa.Flo.Way (su G) 0 b) : b = a ∨ (a ≠ 0 ∧ Go.Proofs.Ytahjippocejphaa.Flo.Way (suL F (a : Nat)) 0 b) := by
  induction h with
  | refl =>
    by_cases e : a = 0
    · exact .inl e.symm
    · exact .inr ⟨e, .refl 0⟩
  | @step b c _ hc ih =>
    rw [hs] at hc
    by_cases e : b = a
    · rw [if_pos e] at hc; simp at hc
    · rw [if_neg e] at hc
      rcases ih with h | ⟨h1, h2⟩
      · exact absurd h e
      · by_cases e2 : c = a
        · exact .inl e2
        · exact .inr ⟨h1, .step h2 (mem_suL.2 ⟨hc, by omega⟩)⟩

theorem way_cut2 {F G : FV} {a : Nat} (hs : ∀ j, su G j = if j = a then [] else su F j) (ha : a ≠ 0) {b : Nat} (h : Go.Proofs.Ytahjippocejphaa.Flo.Way (suL F (a : Nat)) 0 b) : Go.Proofs.Ytahjippocejphaa.Flo.Way (su G) 0 b ∧ b ≠ a := by
  induction h with
  | refl => exact ⟨.refl 0, fun e => ha e.symm⟩
  | @step b c _ hc ih =>
    obtain ⟨h1, h2⟩ := mem_suL.1 hc
    exact ⟨.step ih.1 (by rw [hs, if_neg ih.2]; exact h1), by omega⟩

theorem dom_cut {F G : FV} {a b : Nat} (hs : ∀ j, su G j = if j = a then [] else su F j) (ha : Go.Proofs.Ytahjippocejphaa.Flo.Way (su F) 0 a) (hb : Go.Proofs.Ytahjippocejphaa.Flo.Way (su F) 0 b) (hab : a ≠ b) : DomR F a b ↔ ¬ Go.Proofs.Ytahjippocejphaa.Flo.Way (su G) 0 b := by
  constructor
  · rintro ⟨_, _, h⟩ hw
    rcases h with h | h
    · exact hab h
    · rcases way_cut1 hs hw with e | e
      · exact hab e.symm
      · exact h e
  · intro h
    exact ⟨ha, hb, .inr fun ⟨h1, h2⟩ => h (way_cut2 hs h1 h2).1⟩

set_option maxHeartbeats 1000000 in
theorem isReached_any (M n : Nat) (f : Nat → Bool) (b : Int) (w : World) (hr : w.rowIs M 4 n (fun i => .bool (f i))) : Calls Try.prog 69 #[.slice (some ⟨M, 0, none⟩) n n, .int .i64 b] w fun e w' => Ans (fun r => r = true ↔ 0 ≤ b ∧ b < n ∧ f b.toNat = true) w e w' := by
  have HR := hid hr
  clear hr
  by_cases h0 : 0 ≤ b
  case neg =>
    have t0 : decide (0 ≤ b) = false := by simpa using h0
    go_enter Try.func69, Try.ntmps69
    go_wp2_with fail
    go_ret
    exact ⟨false, rfl, by simp only [Bool.false_eq_true, false_iff]; intro h; have := h.1; omega, same w⟩
  have t0 : decide (0 ≤ b) = true := by simpa using h0
  by_cases h1 : b < n
  case neg =>
    have t1 : decide (b < (n : Int)) = false := by simpa using h1
    go_enter Try.func69, Try.ntmps69
    go_wp2_with fail
    go_ret
    exact ⟨false, rfl, by simp only [Bool.false_eq_true, false_iff]; intro h; have := h.1; omega, same w⟩
  have t1 : decide (b < (n : Int)) = true := by simpa using h1
  obtain ⟨k, rfl⟩ : ∃ k : Nat, b = k := ⟨b.toNat, by omega⟩
  have hk : k < n := by omega
  have i1 := bool_at (g := M) hk
  have c1 := HR.out.cell hk
  go_enter Try.func69, Try.ntmps69
  go_wp2_with fail
  go_ret
  exact ⟨f k, rfl, by simp; intro _; exact hk, same w⟩

/-- What endingAt hands back. -/
def EndIs (F : FV) (a : Nat) (w : World) (e : Ending) (w' : World) : Prop := ∃ g c, e = .returned (cutF F g c a).val ∧ In w' (cutF F g c a) ∧ Below w.heap.size w w'

set_option maxRecDepth 10000 in
set_option maxHeartbeats 1000000 in
theorem endingAt_any (F : FV) (a : Nat) (w : World) (hF : In w F) (hl : Light F) (ha : a < F.blk.n) : Calls Try.prog 70 #[F.val, .int .i64 a] w fun e w' => EndIs F a w e w' := by
  have HF := hid hF
  have HL := hid hl
  clear hF hl
  go_enter Try.func70, Try.ntmps70
  go_wp2_with fail
  obtain ⟨W0, hW0⟩ : ∃ W0, (w.alloc (.cells (fcells F) 33)).alloc (.cells #[.string ⟨#[]⟩, .bool false, .slice none 0 0, .int .i64 0, .slice none 0 0] 33) = W0 := ⟨_, rfl⟩
  have L0 := hid (show Below w.heap.size w W0 by rw [← hW0]; exact new (new (same w) _) _)
  have FA0 := hid (show FuncAt W0 w.heap.size F by rw [← hW0]; exact (FuncAt.alloc w F).on (new (same _) _))
  have Z0 := hid (show W0.heap.size = w.heap.size + 1 + 1 by rw [← hW0]; simp)
  have RC := hid (show (∀ i v, (#[.string ⟨#[]⟩, .bool false, .slice none 0 0, .int .i64 0, .slice none 0 0] : Array Value)[i]? = some v → W0.cell? ⟨w.heap.size + 1, i, none⟩ = some v) ∧ (∀ i, W0.frozen? ⟨w.heap.size + 1, i, none⟩ = false) ∧ (∀ i, W0.frozen? ⟨w.heap.size, i, none⟩ = false) by
    rw [← hW0]
    refine ⟨fun i v h => ?_, fun i => ?_, fun i => ?_⟩
    · have hg := heap_alloc_new (w.alloc (.cells (fcells F) 33)) (.cells #[.string ⟨#[]⟩, .bool false, .slice none 0 0, .int .i64 0, .slice none 0 0] 33)
      simp only [World.size_alloc] at hg
      unfold World.cell?
      rw [hg]
      exact h
    · have hg := heap_alloc_new (w.alloc (.cells (fcells F) 33)) (.cells #[.string ⟨#[]⟩, .bool false, .slice none 0 0, .int .i64 0, .slice none 0 0] 33)
      simp only [World.size_alloc] at hg
      unfold World.frozen?
      rw [hg]
      simp
    · rw [(new (same (w.alloc (.cells (fcells F) 33))) _).frozen (by simp)]
      have hg := heap_alloc_new w (.cells (fcells F) 33)
      unfold World.frozen?
      rw [hg]
      simp)
  rw [hW0]
  clear hW0
  refine (cloneB_any F _ (HF.out.on L0.out) HL.out (by omega)).mono ?_
  rintro e w1 ⟨g, c, rfl, hc, hz, hg, hgl, hn, hb1⟩
  have zz := Z0.out
  have gg : w.heap.size + 1 < g := by omega
  have s1 := hb1.size
  obtain ⟨f0, f1, f2, f3, f4⟩ := FA0.out.on hb1
  have fz : ∀ i, w1.frozen? ⟨w.heap.size, i, none⟩ = false := fun i => by rw [hb1.frozen (by show w.heap.size < _; omega)]; exact RC.out.2.2 i
  have rz : ∀ i, w1.frozen? ⟨w.heap.size + 1, i, none⟩ = false := fun i => by rw [hb1.frozen (by show w.heap.size + 1 < _; omega)]; exact RC.out.2.1 i
  have r0 := cell_on hb1 (RC.out.1 0 _ rfl)
  have r1 := cell_on hb1 (RC.out.1 1 _ rfl)
  have r2 := cell_on hb1 (RC.out.1 2 _ rfl)
  have r3 := cell_on hb1 (RC.out.1 3 _ rfl)
  have r4 := cell_on hb1 (RC.out.1 4 _ rfl)
  have HC := hid hc
  have B1 := hid (View.more L0.out hb1)
  have p1 := hc a ha
  have z1 := hz a
  have i1 := index_row (s := ⟨some ⟨g, 0, none⟩, F.blk.n, c⟩) rfl underlying31 size39 (k := a) ha
  simp only [Nat.zero_add, Nat.mul_one] at i1
  clear hc hz hb1
  go_wp2_with fail
  refine bodyPost_ret (v := (cutF F g c a).val) (by rw [results_cell rfl]; go_simp) rfl ?_
  have nb : ∀ {i j : Nat}, (⟨w.heap.size + 1, j, none⟩ : Addr) ≠ ⟨g, i, none⟩ := fun e => by have := congrArg Addr.block e; simp at this; omega
  have nc : ∀ {i j : Nat}, (⟨w.heap.size, j, none⟩ : Addr) ≠ ⟨g, i, none⟩ := fun e => by have := congrArg Addr.block e; simp at this; omega
  have BX : Below w.heap.size w (((((((w1.setCell ⟨w.heap.size, 4, none⟩ (.slice (some ⟨g, 0, none⟩) F.blk.n c)).setCell ⟨g, a, none⟩ (.slice none 0 0)).setCell ⟨w.heap.size + 1, 0, none⟩ (.string F.name)).setCell ⟨w.heap.size + 1, 1, none⟩ (.bool F.out)).setCell ⟨w.heap.size + 1, 2, none⟩ (.slice F.par.a F.par.n F.par.c)).setCell ⟨w.heap.size + 1, 3, none⟩ (.int .i64 F.res)).setCell ⟨w.heap.size + 1, 4, none⟩ (.slice (some ⟨g, 0, none⟩) F.blk.n c)) :=
    ((((((B1.out.setCell (Nat.le_refl _) _).setCell (by show _ ≤ g; omega) _).setCell (by show _ ≤ w.heap.size + 1; omega) _).setCell (by show _ ≤ w.heap.size + 1; omega) _).setCell (by show _ ≤ w.heap.size + 1; omega) _).setCell (by show _ ≤ w.heap.size + 1; omega) _).setCell (by show _ ≤ w.heap.size + 1; omega) _
  refine ⟨g, c, rfl, in_cut (HF.out.on BX) hn (fun i hi => ?_), BX⟩
  refine cell_other nb (cell_other nb (cell_other nb (cell_other nb (cell_other nb ?_))))
  by_cases e : i = a
  · subst e
    rw [if_pos rfl]
    exact cell_same (cell_other nc (HC.out i hi))
  · rw [if_neg e]
    exact cell_other (ne_off (fun e' => e e'.symm)) (cell_other nc (HC.out i hi))

theorem ord_mem {F : FV} {L : List Nat} (h : OrdIs F L) (h0 : 0 < F.blk.n) (x : Nat) : x ∈ L ↔ Go.Proofs.Ytahjippocejphaa.Flo.Way (su F) 0 x := by
  have ho := h.ord
  refine ⟨ho.way x, fun hw => ?_⟩
  induction hw with
  | refl => exact List.mem_of_getElem? (ho.zero h0)
  | step _ hc ih => exact ho.shut _ ih _ hc

set_option maxRecDepth 10000 in
set_option maxHeartbeats 2000000 in
theorem dom_any (F : FV) (a b : Int) (w : World) (hF : In w F) (hl : Light F) (hj : Jng F) : Calls Try.prog 25 #[F.val, .int .i64 a, .int .i64 b] w fun e w' => Ans (fun r => r = true ↔ 0 ≤ a ∧ a < F.blk.n ∧ 0 ≤ b ∧ b < F.blk.n ∧ DomR F a.toNat b.toNat) w e w' := by
  have HF := hid hF
  have HL := hid hl
  have HJ := hid hj
  clear hF hl hj
  obtain ⟨L, hL⟩ := ord_ex F
  have HOR := hid hL
  clear hL
  go_enter Try.func25, Try.ntmps25
  go_wp2_with fail
  refine (reach_flow F L _ HOR.out (HF.out.on (new (same w) _)) HL.out HJ.out).mono ?_
  rintro e w1 ⟨M, rfl, hr, hM, hb1⟩
  have B1 := hid (View.more (new (same w) _) hb1)
  have FA1 := hid ((FuncAt.alloc w F).on hb1)
  have HR := hid hr
  clear hr hM hb1
  go_wp2_with fail
  refine (isReached_any M F.blk.n _ a _ HR.out).mono ?_
  rintro e w2 ⟨r1, rfl, h1, hb2⟩
  have B2 := hid (View.more B1.out hb2)
  have FA2 := hid (FA1.out.on hb2)
  have HR2 := hid (HR.out.of_block (hb2.block _ HR.out.lt))
  have H1 := hid h1
  clear h1 hb2
  cases r1 with
  | false =>
    have HN := hid (show ¬ (0 ≤ a ∧ a < F.blk.n ∧ 0 ≤ b ∧ b < F.blk.n ∧ DomR F a.toNat b.toNat) from fun ⟨q1, q2, q3, q4, q5⟩ => by
      have := H1.out.2 ⟨q1, q2, decide_eq_true ((ord_mem HOR.out (by omega) _).2 q5.1)⟩
      cases this)
    go_wp2_with fail
    go_ret
    exact ⟨false, rfl, by simp only [Bool.false_eq_true, false_iff]; exact HN.out, B2.out⟩
  | true =>
  obtain ⟨a1, a2, a3⟩ := H1.out.1 rfl
  have AW := hid ((ord_mem HOR.out (by omega) _).1 (of_decide_eq_true a3))
  clear H1 a3
  go_wp2_with fail
  refine (isReached_any M F.blk.n _ b _ HR2.out).mono ?_
  rintro e w3 ⟨r2, rfl, h2, hb3⟩
  have B3 := hid (View.more B2.out hb3)
  have FA3 := hid (FA2.out.on hb3)
  have H2 := hid h2
  clear h2 hb3
  cases r2 with
  | false =>
    have HN := hid (show ¬ (0 ≤ a ∧ a < F.blk.n ∧ 0 ≤ b ∧ b < F.blk.n ∧ DomR F a.toNat b.toNat) from fun ⟨q1, q2, q3, q4, q5⟩ => by
      have := H2.out.2 ⟨q3, q4, decide_eq_true ((ord_mem HOR.out (by omega) _).2 q5.2.1)⟩
      cases this)
    go_wp2_with fail
    go_ret
    exact ⟨false, rfl, by simp only [Bool.false_eq_true, false_iff]; exact HN.out, B3.out⟩
  | true =>
  obtain ⟨b1, b2, b3⟩ := H2.out.1 rfl
  have BWY := hid ((ord_mem HOR.out (by omega) _).1 (of_decide_eq_true b3))
  clear H2 b3
  obtain ⟨x, rfl⟩ : ∃ x : Nat, a = x := ⟨a.toNat, by omega⟩
  obtain ⟨y, rfl⟩ : ∃ y : Nat, b = y := ⟨b.toNat, by omega⟩
  have AW2 := hid (show Go.Proofs.Ytahjippocejphaa.Flo.Way (su F) 0 x from by have := AW.out; simpa using this)
  have BW2 := hid (show Go.Proofs.Ytahjippocejphaa.Flo.Way (su F) 0 y from by have := BWY.out; simpa using this)
  have xn : x < F.blk.n := by omega
  have yn : y < F.blk.n := by omega
  by_cases hxy : x = y
  · have t1 : ((x : Int) == (y : Int)) = true := by simp [hxy]
    have HD := hid (show DomR F x y from ⟨AW2.out, BW2.out, .inl hxy⟩)
    clear hxy
    go_wp2_with fail
    go_ret
    exact ⟨true, rfl, by simp; exact ⟨xn, yn, HD.out⟩, B3.out⟩
  have t1 : ((x : Int) == (y : Int)) = false := by simp; omega
  obtain ⟨f0, f1, f2, f3, f4⟩ := FA3.out
  go_wp2_with fail
  refine (endingAt_any F x _ (HF.out.on B3.out) HL.out xn).mono ?_
  rintro e w4 ⟨g, c, rfl, hin, hb4⟩
  have HIN := hid hin
  have B4 := hid (View.more B3.out hb4)
  obtain ⟨L2, hL2⟩ := ord_ex (cutF F g c x)
  have HO2 := hid hL2
  clear hin hb4 hL2 f0 f1 f2 f3 f4
  go_wp2_with fail
  refine (reach_flow (cutF F g c x) L2 _ HO2.out HIN.out (light_cut HL.out g c x) (jng_cut HJ.out g c x)).mono ?_
  rintro e w5 ⟨M2, rfl, hr5, hM5, hb5⟩
  have B5 := hid (View.more B4.out hb5)
  have c5 : w5.cell? ⟨M2, y, none⟩ = some (.bool (decide (y ∈ L2))) := hr5.cell (i := y) yn
  have i5 := bool_at (g := M2) (n := F.blk.n) yn
  have DC := hid (dom_cut (su_cut F g c x) AW2.out BW2.out hxy)
  have OM := hid (ord_mem HO2.out (show 0 < F.blk.n by omega) y)
  clear hr5 hM5 hb5
  cases hd : decide (y ∈ L2) with
  | true =>
    rw [hd] at c5
    have HN := hid (show ¬ DomR F x y from fun h => (DC.out.1 h) (OM.out.1 (of_decide_eq_true hd)))
    clear hd
    go_wp2_with fail
    go_ret
    exact ⟨false, rfl, by simp only [Bool.false_eq_true, false_iff]; rintro ⟨_, _, _, _, h⟩; exact HN.out (by simpa using h), B5.out⟩
  | false =>
    rw [hd] at c5
    have HY := hid (show DomR F x y from DC.out.2 (fun h => of_decide_eq_false hd (OM.out.2 h)))
    clear hd
    go_wp2_with fail
    go_ret
    exact ⟨true, rfl, by simp; exact ⟨xn, yn, HY.out⟩, B5.out⟩

end Go.Proofs.Ytahjippocejphaa.Dm
