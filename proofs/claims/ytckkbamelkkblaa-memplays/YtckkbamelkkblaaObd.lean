/-
  What the calls of mem do, and the document's own: a new object.
-/
import Derived.Test.YtckkbamelkkblaaObc
import Derived.Laws.CopyOwn
namespace Go.Proofs.Ytckkbamelkkblaa.Ob
open Go.RowKit View

set_option linter.unusedVariables false

variable {base M o n : Nat} {w : World} {vs : Sl} {S : Nat → Sl} {f : Nat → Nat → Int}

theorem cells_new (w : World) (cs : Array Value) (t : TypeId) : ∀ j u, cs.toList[j]? = some u → (w.alloc (.cells cs t)).cell? ((⟨w.heap.size, 0, none⟩ : Addr).add j) = some u := by
  intro j u h
  have e : (⟨w.heap.size, 0, none⟩ : Addr).add j = ⟨w.heap.size, j, none⟩ := by simp [Addr.add_lit]
  rw [e]
  simpa using h

theorem owns_slv {w : World} {base e z n : Nat} {v : Value} {xs : List Value} (h : w.ownsRow base e z v n xs) : ∃ s : Sl, v = slv s := by
  rcases h.2 with ⟨rfl, _⟩ | ⟨g, cap, _, rfl, _⟩
  · exact ⟨⟨none, 0, 0⟩, rfl⟩
  · exact ⟨⟨some ⟨g, 0, none⟩, n, cap⟩, rfl⟩

theorem app_gen {w2 : World} {X0 T sT z bytes k : Nat} {zero v : Value} {xs : List Value} (hT : Try.prog.underlying sT = some (.slice T)) (hI : (Try.prog.info? T).map (fun i => (i.zero, i.size, i.bytes)) = some (some zero, z, bytes)) (hzs : zero.cells.size = z) (hz : 0 < z) (hb : bytes ≤ 1000)
    (own : w2.ownsRow X0 T z v k xs) (hk : k ≤ 5000) (hbase : X0 ≤ w2.heap.size) (cs : Array Value) (hc : cs.toList.length = z) (h1 : ∀ u ∈ cs.toList, u.oneCell' = true) (ty : TypeId) :
    ∃ v' w4, (Builtin.append_ #[sT, sT] ty #[v, .slice (some ⟨w2.heap.size, 0, none⟩) 1 1]).run Try.prog (w2.alloc (.cells cs T)) = .ok v' w4 ∧ w4.ownsRow X0 T z v' (k + 1) (xs ++ cs.toList) ∧ (w2.alloc (.cells cs T)).grownBy w4 v.ownBlock ∧ (v'.ownBlock = v.ownBlock ∨ v'.ownBlock = some (w2.heap.size + 1)) := by
  obtain ⟨i0, hi, hz0, hz1, hz2⟩ := info_parts hI
  have hle : (k + 1) * bytes ≤ 5001 * 1000 := Nat.mul_le_mul (by omega) hb
  obtain ⟨v', w4, q1, q2, q3, _, q5⟩ := run_append_own_at (P := Try.prog) (w2.alloc (.cells cs T)) X0 sT ty T i0 zero z bytes hT hi hz0 hz1 hz2 hzs hz v k _ (own.alloc _) ⟨w2.heap.size, 0, none⟩ 1 1 cs.toList (by rw [hc, Nat.one_mul]) (cells_new _ _ _) h1 (by simp only [maxLen]; omega) (by omega) (by simp; omega)
  exact ⟨v', w4, q1, q2, q3, by simpa using q5⟩

theorem wp_app {P : Program} {o : Oper} {a : Act} {w w' : World} {v' v u : Value} {t : TypeId} {s x : Operand} {K : Act → World → Prop} {Q : Exit → Act → World → Prop} {d : Option Tmp} {ty : TypeId} (ho : o.op = .call { callee := .builtin .append, args := #[s, x], argTypes := #[t, t] }) (hd : o.dst = d) (hty : o.type = ty) (hs : a.eval s = v) (hx : a.eval x = u) (hr : (Builtin.append_ #[t, t] ty #[v, u]).run P w = .ok v' w') (h : K (a.put d v') w') : o.wp P a w K Q := by
  subst hd hty
  unfold Oper.wp execOp
  simp only [ho, resolve, invoke, builtin, Sem.run_bind, Sem.run_pure, Result.andThen_ok, List.map_toArray, List.map_cons, List.map_nil, hs, hx, hr]
  exact h

/-- An operation is taken first; where it leaves its value is told. -/
theorem takeAt {P : Program} {ops : Array Oper} {Q : Exit → Act → World → Prop} {md : Region.Mode} {S : World → Prop} {i : Nat} {oi : Oper} {d : Option Tmp} {v : Value} {fuel : Nat} {listed : Array Bool} {a : Act} {w : World} (hi : ops[i]? = some oi) (hd : oi.dst = d)
    (hs : Region.noSelect ops = true) (hf : Region.free md ops listed i = true) (hr : (Region.ready md ops listed).contains i = true)
    (hQ : ∀ c a w, Q (.panic c) (a.put d v) w → Q (.panic c) a w) (hy : YieldsIf P ops S oi v a) (hS : S w)
    (h : wpAnyH P md ops Q S fuel (listed.setIfInBounds i true) (a.put d v) w) : wpAnyH P md ops Q S (fuel + 1) listed a w := by
  subst hd
  exact wpAnyH_take hi hs hf hr hQ hy hS h

theorem wpList_app {ops : Array Oper} {rest : List Oper} {o : Oper} {a : Act} {Q : Exit → Act → World → Prop} {w w' : World} {v' v u : Value} {t ty : TypeId} (s x : Operand) (hg : o.guard = none) (ho : o.op = .call { callee := .builtin .append, args := #[s, x], argTypes := #[t, t] }) (hty : o.type = ty) (hs : a.eval s = v) (hx : a.eval x = u) (hr : (Builtin.append_ #[t, t] ty #[v, u]).run Try.prog w = .ok v' w') (h : wpList Try.prog ops Q rest (a.put o.dst v') w') : wpList Try.prog ops Q (o :: rest) a w := by
  subst hty
  refine wpList_plain hg fun K hK => ?_
  unfold Oper.wp execOp
  simp only [ho, resolve, invoke, builtin, Sem.run_bind, Sem.run_pure, Result.andThen_ok, List.map_toArray, List.map_cons, List.map_nil, hs, hx, hr]
  exact hK _ _ h

theorem mk_run (n : Nat) (hn : n ≤ 1000000) : ∀ wx : World, (Instr.makeSlice 30 (.int .i64 (n : Int)) (.int .i64 (n : Int))).run Try.prog wx = .ok (.slice (some ⟨wx.heap.size, 0, none⟩) n n) (wx.alloc (.cells (Array.replicate n (.int .i64 0)) 2)) := by
  intro wx
  obtain ⟨i0, hi, hz0, hz1, hz2⟩ := info_parts info2
  have h := run_make (P := Try.prog) wx 30 2 i0 (.int .i64 0) underlying30 hi hz0 .i64 .i64 (n : Int) (n : Int) (by omega) (Int.le_refl _) (by rw [hz2]; omega) (by omega)
  simp only [Int.toNat_natCast] at h
  rw [h, hz1]
  have e : madeCells (Value.int .i64 0).cells (n * 1) = Array.replicate n (.int .i64 0) := by
    apply Array.ext
    · simp [madeCells]
    · intro j h1 h2
      have e1 : (Value.int IntKind.i64 0).cells.size = 1 := rfl
      simp only [madeCells, Array.getElem_map, Array.getElem_replicate, e1, Nat.mod_one]
      rfl
  rw [e]

/-- Numbers copied into a new row. -/
theorem copy_cells (s : Sl) (F : Nat → Int) (hs : Ints w s F) :
    ∃ w2, (Builtin.copy_ #[30, 30] 3 #[.slice (some ⟨w.heap.size, 0, none⟩) s.n s.n, .slice s.a s.n s.c]).run Try.prog (w.alloc (.cells (Array.replicate s.n (.int .i64 0)) 2)) = .ok (.int .i64 s.n) w2 ∧ Ints w2 ⟨some ⟨w.heap.size, 0, none⟩, s.n, s.n⟩ F ∧ Mine w.heap.size w2.heap.size w2 ⟨some ⟨w.heap.size, 0, none⟩, s.n, s.n⟩ ∧ Below w.heap.size w w2 := by
  by_cases h0 : s.n = 0
  · have hr := run_copy_none (P := Try.prog) (w.alloc (.cells (Array.replicate s.n (.int .i64 0)) 2)) 30 30 3 2 (some ⟨w.heap.size, 0, none⟩) s.a s.n s.n s.n s.c underlying30 size2 (by rw [h0]; rfl)
    rw [h0] at hr ⊢
    exact ⟨_, hr, ⟨Nat.le_refl _, Nat.zero_le _, fun e => by simp at e, fun e => by simp at e⟩, fun e => by simp at e, new (same w) _⟩
  · obtain ⟨h1, h2, h3, h4⟩ := hs
    obtain ⟨b, off, ha, hc⟩ := h4 (by omega)
    have hcl : ((List.range s.n).map fun i => Value.int .i64 (F i)).length = s.n := by simp
    have hg : (w.alloc (.cells (Array.replicate s.n (.int .i64 0)) 2)).heap[w.heap.size]? = some (.cells (Array.replicate s.n (.int .i64 0)) 2 (0, 0)) := by
      show (w.heap.push _)[w.heap.size]? = _
      simp
    have hr := run_copy_row (P := Try.prog) (w.alloc (.cells (Array.replicate s.n (.int .i64 0)) 2)) 30 30 3 2 w.heap.size 0 s.n s.n ⟨b, off, none⟩ s.n s.c (Array.replicate s.n (.int .i64 0)) 2 ((List.range s.n).map fun i => Value.int .i64 (F i)) underlying30 size2 hg (by simp) (fun j v hv => by
      obtain ⟨q1, q2⟩ := List.getElem?_eq_some_iff.1 hv
      simp at q1 q2
      subst q2
      rw [Addr.add_lit]
      exact cell_on (new (same w) _) (hc j q1)) (by simp) (by intro v hv; obtain ⟨i, _, rfl⟩ := List.mem_map.1 hv; rfl)
    rw [hcl, ← ha] at hr
    have hb := below_setRow (new (same w) (.cells (Array.replicate s.n (.int .i64 0)) 2)) (Nat.le_refl w.heap.size) ((Array.replicate s.n (Value.int .i64 0)).toList.take 0 ++ ((List.range s.n).map fun i => Value.int .i64 (F i)) ++ (Array.replicate s.n (Value.int .i64 0)).toList.drop (0 + s.n)).toArray
    have hh := setRow_heap (w.alloc (.cells (Array.replicate s.n (.int .i64 0)) 2)) w.heap.size (Array.replicate s.n (.int .i64 0)) ((Array.replicate s.n (Value.int .i64 0)).toList.take 0 ++ ((List.range s.n).map fun i => Value.int .i64 (F i)) ++ (Array.replicate s.n (Value.int .i64 0)).toList.drop (0 + s.n)).toArray 2 (0, 0) hg
    generalize World.setRow _ _ _ = w2 at hr hb hh
    refine ⟨w2, hr, ⟨Nat.le_refl _, h2, fun e => by simp at e, fun _ => ⟨w.heap.size, 0, rfl, fun i hi => ?_⟩⟩, fun _ => ⟨w.heap.size, rfl, Nat.le_refl _, ?_, fun i => ?_⟩, hb⟩
    · rw [Nat.zero_add, cell_of_row _ w.heap.size i _ 2 (0, 0) hh]
      have hi' : i < s.n := hi
      simp [hi']
    · exact (Array.getElem?_eq_some_iff.1 hh).1
    · simp [World.frozen?, hh]

/-- What Make leaves. -/
def MakeIs (base M o n : Nat) (vs : Sl) (S : Nat → Sl) (f : Nat → Nat → Int) (len : Nat) (F : Nat → Int) (w : World) (e : Ending) (w' : World) : Prop :=
  e = .returned (.int .i64 n) ∧ ∃ (v4 s : Sl), s.n = len ∧ Obs base w' M o v4 (n + 1) (fun i => if i = n then s else S i) (fun i => if i = n then F else f i) ∧ Chg (Fp M vs n S) w w' ∧ ∀ b, Fp M v4 (n + 1) (fun i => if i = n then s else S i) b → Fp M vs n S b ∨ w.heap.size ≤ b

theorem one_cell (s : Sl) : ∀ u ∈ (#[slv s] : Array Value).toList, u.oneCell' = true := by
  intro u hu
  simp at hu
  subst hu
  rfl

set_option maxRecDepth 10000 in
set_option maxHeartbeats 1000000 in
theorem make_mem (h : Obs base w M o vs n S f) (hn : n ≤ 5000) (s : Sl) (F : Nat → Int) (hs : Ints w s F) (hl : s.n ≤ 1000000) :
    Calls Try.prog 8 #[.pointer (some ⟨M, o, none⟩), .slice s.a s.n s.c] w fun e w' => MakeIs base M o n vs S f s.n F w e w' := by
  have hmk := mk_run s.n hl
  obtain ⟨w2, hcp, hi2, hm2, hb2⟩ := copy_cells s F hs
  have O2 := h.on hb2
  have hc2 := O2.c
  obtain ⟨v4, w4, hrun, own4, gr4, hat4⟩ := app_gen (w2 := w2) underlying27 infoL rfl (by decide) (by decide) O2.own hn O2.le #[slv ⟨some ⟨w.heap.size, 0, none⟩, s.n, s.n⟩] rfl (one_cell _) 27
  obtain ⟨sv, rfl⟩ := owns_slv own4
  obtain ⟨p1, p2, p3⟩ := h.push hb2 hi2 hm2 own4 gr4 hat4
  have P := hid (And.intro p1 (And.intro p2 p3))
  have nM : some M ≠ (slv vs).ownBlock := fun e => by have := (h.own.lt M e.symm).1; have := h.low; omega
  have hM4 : w4.heap[M]? = w2.heap[M]? := by rw [gr4.block M (by simp; have := O2.mlt; omega) nM, Below.heap_alloc _ _ _ O2.mlt]
  have hc4 : w4.cell? ⟨M, o, none⟩ = some (slv vs) := by rw [World.cell?_of_block (w := w2) hM4]; exact hc2
  have fz4 : w4.frozen? ⟨M, o, none⟩ = false := by rw [World.frozen?_of_block (w := w2) hM4]; exact O2.z o
  have en : sv.n = n + 1 := (p1.row (by omega)).1
  have EN := hid en
  clear p1 p2 p3 own4 gr4 hat4 hM4 O2 h hs hi2 hm2 hb2 en
  go_enter Try.func8, Try.ntmps8
  go_wp2_with (at_builtin; refine wpList_app (.tmp 16) (.tmp 18) (by rfl) (by rfl) (by rfl) (by rfl) (by rfl) hrun ?_)
  go_ret
  refine ⟨?_, sv, ⟨some ⟨w.heap.size, 0, none⟩, s.n, s.n⟩, rfl, P.out⟩
  show Ending.returned (.int .i64 (wrap64 ((sv.n : Int) - 1))) = _
  rw [EN.out]
  congr 2
  unfold wrap64; omega

end Go.Proofs.Ytckkbamelkkblaa.Ob
