/-
  What slices.Repeat, slices.Clone, math/bits.Mul and dom.count hand back here.
-/
import Derived.Test.YtolipafcoolpgaaGreatJ10
import Derived.Laws.CopyOwn
import Derived.Deep.Slices
import Derived.Deep.RegionLaw
namespace Go.Proofs.YtolipafcoolpgaaGreat.Dm
open Go.RowKit View Rd Copy Num Ty Srt Flo

set_option linter.unusedVariables false

set_option maxRecDepth 10000 in
set_option maxHeartbeats 4000000 in
theorem mul64_any (c : Nat) (hc : c ≤ 48) (w : World) : Calls Tryz.prog 192 #[.int .u64 1, .int .u64 c] w fun e w' => e = .returned (.tuple #[.int .u64 0, .int .u64 c]) ∧ Below w.heap.size w w' := by
 have h : c = 0 ∨ c = 1 ∨ c = 2 ∨ c = 3 ∨ c = 4 ∨ c = 5 ∨ c = 6 ∨ c = 7 ∨ c = 8 ∨ c = 9 ∨ c = 10 ∨ c = 11 ∨ c = 12 ∨ c = 13 ∨ c = 14 ∨ c = 15 ∨ c = 16 ∨ c = 17 ∨ c = 18 ∨ c = 19 ∨ c = 20 ∨ c = 21 ∨ c = 22 ∨ c = 23 ∨ c = 24 ∨ c = 25 ∨ c = 26 ∨ c = 27 ∨ c = 28 ∨ c = 29 ∨ c = 30 ∨ c = 31 ∨ c = 32 ∨ c = 33 ∨ c = 34 ∨ c = 35 ∨ c = 36 ∨ c = 37 ∨ c = 38 ∨ c = 39 ∨ c = 40 ∨ c = 41 ∨ c = 42 ∨ c = 43 ∨ c = 44 ∨ c = 45 ∨ c = 46 ∨ c = 47 ∨ c = 48 := by omega
 rcases h with rfl | rfl | rfl | rfl | rfl | rfl | rfl | rfl | rfl | rfl | rfl | rfl | rfl | rfl | rfl | rfl | rfl | rfl | rfl | rfl | rfl | rfl | rfl | rfl | rfl | rfl | rfl | rfl | rfl | rfl | rfl | rfl | rfl | rfl | rfl | rfl | rfl | rfl | rfl | rfl | rfl | rfl | rfl | rfl | rfl | rfl | rfl | rfl | rfl
 all_goals
  go_enter Tryz.func192, Tryz.ntmps192
  go_wp2_with fail
  refine bodyPost_ret (results_tmp2 rfl _ _ _) rfl ?_
  exact ⟨by kernel_rfl, same w⟩

set_option maxHeartbeats 1000000 in
theorem mul_any (c : Nat) (hc : c ≤ 48) (w : World) : Calls Tryz.prog 172 #[.int .u64 1, .int .u64 c] w fun e w' => e = .returned (.tuple #[.int .u64 0, .int .u64 c]) ∧ Below w.heap.size w w' := by
 go_enter Tryz.func172, Tryz.ntmps172
 go_wp2_with fail
 refine (mul64_any c hc w).mono ?_
 rintro e w1 ⟨rfl, hb⟩
 have B1 := hid hb
 clear hb
 go_wp2_with fail
 refine bodyPost_ret (results_tmp2 rfl _ _ _) rfl ?_
 exact ⟨rfl, B1.out⟩

structure Ro (w : World) (g n : Nat) (f : Nat → Int) : Prop where
 cell : ∀ i, i < n → w.cell? ⟨g, i, none⟩ = some (.int .i64 (f i))
 fz : ∀ i, w.frozen? ⟨g, i, none⟩ = false
 lt : g < w.heap.size

theorem Ro.at_block {w w' : World} {g n : Nat} {f : Nat → Int} (h : Ro w g n f) (e : w'.heap[g]? = w.heap[g]?) : Ro w' g n f :=
 ⟨fun i hi => by rw [World.cell?_of_block (w := w) e]; exact h.cell i hi, fun i => by rw [World.frozen?_of_block (w := w) e]; exact h.fz i, by
  have h1 := Array.getElem?_eq_getElem h.lt
  rw [h1] at e
  exact (Array.getElem?_eq_some_iff.1 e).1⟩

theorem Ro.on {w w' : World} {g n : Nat} {f : Nat → Int} (h : Ro w g n f) (hb : Below w.heap.size w w') : Ro w' g n f := h.at_block (hb.block g h.lt)
theorem Ro.congr {w : World} {g n : Nat} {f f' : Nat → Int} (h : Ro w g n f) (e : ∀ i, i < n → f i = f' i) : Ro w g n f' := ⟨fun i hi => by rw [← e i hi]; exact h.cell i hi, h.fz, h.lt⟩
theorem Ro.set {w : World} {g n : Nat} {f : Nat → Int} (h : Ro w g n f) {k : Nat} (hk : k < n) (v : Int) : Ro (w.setCell ⟨g, k, none⟩ (.int .i64 v)) g n (fun i => if i = k then v else f i) :=
 ⟨fun i hi => by
  by_cases e : i = k
  ·subst e; rw [if_pos rfl]; exact cell_same (h.cell i hi)
  ·rw [if_neg e]; exact cell_other (ne_off (fun e' => e e'.symm)) (h.cell i hi), fun i => by rw [World.frozen?_setCell]; exact h.fz i, by simp; exact h.lt⟩
theorem Ro.setOther {w : World} {g n : Nat} {f : Nat → Int} (h : Ro w g n f) {a : Addr} (ha : g ≠ a.block) (v : Value) : Ro (w.setCell a v) g n f := h.at_block (Below.heap_setCell _ _ _ _ ha)
theorem Ro.of_row {w : World} {g n : Nat} {f : Nat → Int} (h : w.rowIs g 3 n (fun i => .int .i64 (f i))) : Ro w g n f := ⟨fun i hi => h.cell hi, fun i => h.frozen i, h.lt⟩

def RowIs (n : Nat) (f : Nat → Int) (w : World) (e : Ending) (w' : World) : Prop :=
 ∃ g c, e = .returned (.slice (some ⟨g, 0, none⟩) n c) ∧ Ro w' g n f ∧ w.heap.size ≤ g ∧ Below w.heap.size w w'

theorem int_at {g n c x : Nat} (hx : x < n) : ∀ wx, (Instr.indexAt 33 (.slice (some ⟨g, 0, none⟩) n c) (.int .i64 x)).run Tryz.prog wx = .ok (.pointer (some ⟨g, x, none⟩)) wx := by
 have := index_row (s := ⟨some ⟨g, 0, none⟩, n, c⟩) rfl underlying33 size3 hx
 simpa using this

set_option maxRecDepth 10000 in
set_option maxHeartbeats 1000000 in
theorem count_any (n : Nat) (hn : n ≤ 1000) (w : World) : Calls Tryz.prog 189 #[.int .i64 n] w fun e w' => RowIs n (fun i => i) w e w' := by
 have hmk := run_make_row' (P := Tryz.prog) 33 3 (.int .i64 0) 8 underlying33 info3 rfl .i64 .i64 n (by omega) (by omega)
 go_enter Tryz.func189, Tryz.ntmps189
 go_wp2_with fail
 clear hmk
 obtain ⟨W, hW⟩ : ∃ W, w.alloc (.cells (madeCells #[.int .i64 0] n) 3) = W := ⟨_, rfl⟩
 have R0 := hid (show Ro W w.heap.size n (fun i => if i < 0 then (i : Int) else 0) by rw [← hW]; exact (Ro.of_row (World.rowIs_made w (.int .i64 0) n 3)).congr (fun i _ => by simp))
 have B0 := hid (show Below w.heap.size w W by rw [← hW]; exact new (same w) _)
 rw [hW]
 clear hW
 go_loopw [9] (fun iv wr => ∃ k : Nat, k ≤ n ∧ iv = .int .i64 k ∧ Ro wr w.heap.size n (fun i => if i < k then (i : Int) else 0) ∧ Below w.heap.size w wr) (fun iv _ => n - (intOf iv).toNat)
 case atStart => exact ⟨0, Nat.zero_le _, rfl, R0.out, B0.out⟩
 case round =>
  clear R0 B0
  obtain ⟨k, hk, rfl, hr, hb⟩ := hrel
  have HS := hid (And.intro hr hb)
  by_cases lk : k < n
  ·have i1 := int_at (g := w.heap.size) (c := n) lk
   have c1 := hr.cell k lk
   have f1 := hr.fz k
   clear hr hb
   go_wp2_with fail
   go_round
   case rel =>
    refine ⟨k + 1, by omega, by go_num, (HS.out.1.set lk k).congr (fun i hi => ?_), HS.out.2.setCell (Nat.le_refl _) _⟩
    by_cases e : i = k
    ·subst e; simp
    ·have e2 : (i < k + 1) = (i < k) := by apply propext; omega
     simp [e, e2]
   case measure => simp [intOf]; omega
  ·obtain rfl : k = n := by omega
   clear hr hb
   go_wp2_with fail
   go_ret
   exact ⟨_, _, rfl, HS.out.1.congr (fun i hi => by simp [hi]), Nat.le_refl _, HS.out.2⟩

theorem ro_of_owns {w : World} {base n : Nat} {v : Value} {xs : List Int} (h : w.ownsRow base 3 1 v n (xs.map (Value.int .i64))) (h0 : 0 < n) (hx : xs.length = n) : ∃ g c, v = .slice (some ⟨g, 0, none⟩) n c ∧ Ro w g n (fun i => xs.getD i 0) ∧ base ≤ g := by
 rcases h.2 with ⟨_, h1⟩ | ⟨g, cap, cur, e, hb, hg, hnc, hm, hs, ht⟩
 ·omega
 ·refine ⟨g, cap, e, ⟨fun i hi => ?_, fun i => by simp [World.frozen?, hg], (Array.getElem?_eq_some_iff.1 hg).1⟩, hb⟩
  subst e
  have := h.cellAt i (by omega)
  rw [this]
  have hi' : i < xs.length := by omega
  simp [List.getD, hi']

set_option maxRecDepth 10000 in
set_option maxHeartbeats 1000000 in
theorem clone_any (g n c : Nat) (f : Nat → Int) (w : World) (h : Ro w g n f) (h0 : 0 < n) (hn : n ≤ 1000) (hc : n ≤ c) : Calls Tryz.prog 188 #[.slice (some ⟨g, 0, none⟩) n c] w fun e w' => RowIs n f w e w' := by
 have HI := hid (show Ints w ⟨some ⟨g, 0, none⟩, n, c⟩ f from ⟨hc, by show n ≤ _; omega, (fun e => by cases e), fun _ => ⟨g, 0, rfl, fun i hi => by rw [Nat.zero_add]; exact h.cell i hi⟩⟩)
 clear h
 have hq : ∀ wx, (binOp .eql 33 (.slice (some ⟨g, 0, none⟩) n c) (.slice none 0 0)).run Tryz.prog wx = .ok (.bool false) wx := fun wx => by
  have := Lib.run_eql_slice_nil (P := Tryz.prog) wx 33 3 (some ⟨g, 0, none⟩) n c 0 0 underlying33
  simpa using this
 have R0 := hid (show (w.alloc (.cells #[] 3)).ownsRow w.heap.size 3 1 (.slice (some ⟨w.heap.size, 0, none⟩) 0 0) 0 (([] : List Int).map (Value.int .i64)) from ⟨rfl, .inr ⟨w.heap.size, 0, #[], rfl, Nat.le_refl _, heap_alloc_new w (.cells #[] 3), Nat.le_refl _, by decide, rfl, rfl⟩⟩)
 have HI2 := hid (HI.out.on (new (same w) (.cells #[] 3)))
 go_enter Tryz.func188, Tryz.ntmps188
 go_wp2_with (at_builtin; refine append_in rfl (.tmp 5) (.tmp 6) rfl w.heap.size _ 0 [] rfl R0.out ⟨some ⟨g, 0, none⟩, n, c⟩ f rfl HI2.out (by show 0 + n ≤ _; omega) (by simp) ?_; intro v5 w5 hown5 hgr5)
 have O5 := hid (show w5.ownsRow w.heap.size 3 1 v5 n ((row f n).map (Value.int .i64)) by simpa using hown5)
 have G5 := hid hgr5
 clear hown5 hgr5 hq
 go_wp2_with fail
 go_ret
 obtain ⟨g2, c2, rfl, hr, hg⟩ := ro_of_owns O5.out h0 (row_length _ _)
 exact ⟨g2, c2, rfl, hr.congr (fun i hi => by simp [row, List.getD, hi]), hg, (new (same w) _).grown G5.out (by simp) (fun q hq => (R0.out.lt q hq).1)⟩

abbrev negs (y : Int) (k : Nat) : Nat → Value := fun i => .int .i64 (if i < k then y else 0)

theorem row_list {w : World} {g t n : Nat} {f : Nat → Value} (h : w.rowIs g t n f) : w.heap[g]? = some (.cells ((List.range n).map f).toArray t (0, 0)) := by
 obtain ⟨c, h1, h2, h3⟩ := h
 rw [h1]
 congr 2
 apply Array.ext_getElem?
 intro i
 by_cases hi : i < n
 ·rw [h3 i hi]; simp [hi]
 ·rw [Array.getElem?_eq_none (by omega)]; simp [hi]

theorem row_of_list {w : World} {g t n : Nat} {L : List Value} {f : Nat → Value} (h : w.heap[g]? = some (.cells L.toArray t (0, 0))) (hn : L.length = n) (hf : ∀ i, i < n → L[i]? = some (f i)) : w.rowIs g t n f :=
 ⟨L.toArray, h, by simpa using hn, fun i hi => by simpa using hf i hi⟩

theorem splice_negs {y : Int} {c a k : Nat} (h : a + k ≤ c) : ∀ i, i < c → (splice ((List.range c).map (negs y a)) a (List.replicate k (Value.int .i64 y)))[i]? = some (negs y (a + k) i) := by
 intro i hi
 unfold splice
 by_cases h1 : i < a
 ·rw [List.getElem?_append_left (by simp; omega), List.getElem?_take_of_lt h1]
  simp [hi, negs, h1, show i < a + k by omega]
 ·rw [List.getElem?_append_right (by simp; omega)]
  simp only [List.length_take, List.length_map, List.length_range]
  rw [Nat.min_eq_left (by omega)]
  by_cases h2 : i < a + k
  ·rw [List.getElem?_append_left (by simp; omega)]
   simp [negs, h2, show i - a < k by omega]
  ·rw [List.getElem?_append_right (by simp; omega), List.getElem?_drop]
   have e : a + (List.replicate k (Value.int IntKind.i64 y)).length + (i - a - (List.replicate k (Value.int IntKind.i64 y)).length) = i := by simp; omega
   rw [e]
   simp [hi, negs, h1, h2]

theorem cut_l {g c n : Nat} (h : n < c) : ∀ wx, (Instr.slice 33 (.slice (some ⟨g, 0, none⟩) c c) (some (.int .i64 n)) none none).run Tryz.prog wx = .ok (.slice (some ⟨g, n, none⟩) (c - n) (c - n)) wx := by
 intro wx
 have he : Tryz.prog.elem 33 = 3 := by unfold Program.elem; rw [underlying33]
 obtain ⟨i, hi, hi'⟩ := Option.map_eq_some_iff.1 size3
 have hr := run_slice_l (P := Tryz.prog) wx 33 (some ⟨g, 0, none⟩) c c (by rw [he]; exact underlying33) .i64 n (by omega) (by omega)
 rw [he] at hr
 rw [hr]
 simp [sizeOf, typeInfo, hi, hi', sliced, Addr.add_lit]
 omega

theorem cut_h {g c n : Nat} {cap : Nat} (h : n ≤ cap) : ∀ wx, (Instr.slice 33 (.slice (some ⟨g, 0, none⟩) c cap) none (some (.int .i64 n)) none).run Tryz.prog wx = .ok (.slice (some ⟨g, 0, none⟩) n cap) wx := by
 intro wx
 have he : Tryz.prog.elem 33 = 3 := by unfold Program.elem; rw [underlying33]
 obtain ⟨i, hi, hi'⟩ := Option.map_eq_some_iff.1 size3
 have hr := run_slice_h (P := Tryz.prog) wx 33 (some ⟨g, 0, none⟩) c cap (by rw [he]; exact underlying33) .i64 n (by omega) (by omega)
 rw [he] at hr
 rw [hr]
 simp [sizeOf, typeInfo, hi, hi', sliced, Addr.add_lit]

theorem copy_in {y : Int} {w wr : World} {g c n K : Nat} (ln : n < c) (hr : wr.rowIs g 3 c (negs y n)) (hb : Below w.heap.size w wr) (hgl : w.heap.size ≤ g) (hK : min n (c - n) = K) :
  ∃ w4, (Builtin.copy_ #[33, 33] 3 #[.slice (some ⟨g, n, none⟩) (c - n) (c - n), .slice (some ⟨g, 0, none⟩) n c]).run Tryz.prog wr.drew = .ok (.int .i64 K) w4 ∧ w4.rowIs g 3 c (negs y (n + K)) ∧ Below w.heap.size w w4 := by
 have hg := row_list hr
 have hcl : (List.replicate K (Value.int .i64 y)).length = K := by simp
 have hcp := run_copy_row (P := Tryz.prog) wr.drew 33 33 3 3 g n (c - n) (c - n) ⟨g, 0, none⟩ n c ((List.range c).map (negs y n)).toArray 3 (List.replicate K (Value.int .i64 y)) underlying33 size3 hg (by rw [hcl, ← hK]) (fun j v hv => by
  obtain ⟨h1, h2⟩ := List.getElem?_eq_some_iff.1 hv
  simp at h1 h2
  subst h2
  have := hr.cell (i := j) (by omega)
  rw [Addr.add_lit]
  show wr.cell? ⟨g, 0 + j, none⟩ = _
  rw [Nat.zero_add, this]
  simp [show j < n by omega]) (by simp; omega) (by intro v hv; rw [(List.mem_replicate.1 hv).2]; rfl)
 rw [hcl] at hcp
 refine ⟨_, hcp, ?_, below_setRow (Below.drew hb) hgl _⟩
 refine row_of_list (L := splice ((List.range c).map (negs y n)) n (List.replicate K (Value.int .i64 y))) (setRow_heap wr.drew g _ _ 3 _ hg |>.trans (by simp [splice])) (by rw [length_splice] <;> simp; omega) (fun i hi => splice_negs (y := y) (by omega) i hi)

set_option maxRecDepth 10000 in
set_option maxHeartbeats 2000000 in
theorem repeat_any (y : Int) (x c : Nat) (hc : c ≤ 48) (w : World) (hx : w.cell? ⟨x, 0, none⟩ = some (.int .i64 y)) : Calls Tryz.prog 136 #[.slice (some ⟨x, 0, none⟩) 1 1, .int .i64 c] w fun e w' => ∃ g, e = .returned (.slice (some ⟨g, 0, none⟩) c c) ∧ w'.rowIs g 3 c (negs y c) ∧ w.heap.size ≤ g ∧ Below w.heap.size w w' := by
 have hxl := World.block_lt_of_cell? _ _ hx
 have HX := hid hx
 have hmk := run_make_row' (P := Tryz.prog) 33 3 (.int .i64 0) 8 underlying33 info3 rfl .i64 .i64 c (by omega) (by omega)
 have t0 : decide ((c : Int) < 0) = false := by simp
 clear hx
 go_enter Tryz.func136, Tryz.ntmps136
 go_wp2_with fail
 refine (mul_any c hc w).mono ?_
 rintro e w1 ⟨rfl, hb1⟩
 have z1 := hb1.size
 have B1 := hid hb1
 have X1 := hid (cell_on hb1 HX.out)
 clear hb1 HX t0
 have t1 : decide ((9223372036854775807 : Int) < (c : Int)) = false := by simp; omega
 have LW := hid (row_list (show (w1.alloc (.cells (madeCells #[.int .i64 0] c) 3)).rowIs w1.heap.size 3 c (negs y 0) from (World.rowIs_made w1 (.int .i64 0) c 3).congr (fun i _ => by simp [negs])))
 obtain ⟨cur, hcur⟩ : ∃ cur, (List.range c).map (negs y 0) = cur := ⟨_, rfl⟩
 obtain ⟨cs, hcs⟩ : ∃ cs : List Value, List.replicate (min 1 c) (Value.int .i64 y) = cs := ⟨_, rfl⟩
 rw [hcur] at LW
 have HCU := hid hcur
 have HCS := hid hcs
 have hcl : cs.length = min 1 c := by rw [← hcs]; simp
 have HCL := hid hcl
 have X2 := hid (cell_on (new (same w1) (.cells (madeCells #[.int .i64 0] c) 3)) X1.out)
 have BW := hid (new B1.out (.cells (madeCells #[.int .i64 0] c) 3))
 have hcul : cur.length = c := by rw [← hcur]; simp
 have HCUL := hid hcul
 clear hcur hcs hcl hcul
 go_wp2_with (refine wpList_copy_splice rfl (.tmp 31) (.tmp 32) 33 33 rfl 3 underlying33 size3 _ _ _ _ _ _ rfl rfl w1.heap.size 0 cur 3 LW.out cs HCL.out (fun _ => ⟨rfl, _, rfl, fun j v hv => by
   rw [← HCS.out] at hv
   have hj : j = 0 ∧ v = .int .i64 y := by
    have := List.getElem?_eq_some_iff.1 hv
    obtain ⟨h1, h2⟩ := this
    simp at h1 h2
    exact ⟨by omega, h2.symm⟩
   obtain ⟨rfl, rfl⟩ := hj
   exact X2.out⟩) (by rw [HCL.out, HCUL.out]; omega) (by intro v hv; rw [← HCS.out] at hv; rw [(List.mem_replicate.1 hv).2]; rfl) w.heap.size w BW.out (by omega) ?_; intro w2 hg2 hb2)
 obtain ⟨g, hg⟩ : ∃ g, w1.heap.size = g := ⟨_, rfl⟩
 have ST := hid (show w2.rowIs g 3 c (negs y (min 1 c)) by
  rw [← hg]
  refine row_of_list hg2.out (by rw [← HCU.out, ← HCS.out, length_splice] <;> simp; omega) (fun i hi => ?_)
  rw [← HCU.out, ← HCS.out]
  have := splice_negs (y := y) (a := 0) (k := min 1 c) (c := c) (by omega) i hi
  simpa using this)
 have B2 := hid hb2
 have CL := hid (show (cs.length : Int) = ((min 1 c : Nat) : Int) by rw [HCL.out])
 have hgl : w.heap.size ≤ g := by omega
 simp only [hg]
 clear hmk hg2 hb2 X1 X2 LW BW HCU HCS HCUL hg
 go_loopw [8] (fun nv wr => ∃ n : Nat, n ≤ c ∧ (c = 0 ∨ 1 ≤ n) ∧ nv = .int .i64 n ∧ wr.rowIs g 3 c (negs y n) ∧ Below w.heap.size w wr) (fun nv _ => c - (intOf nv).toNat)
 case atStart => exact ⟨min 1 c, by omega, by omega, by rw [← CL.out], ST.out, B2.out⟩
 case round =>
  clear ST B2
  obtain ⟨n, hn, hn1, rfl, hr, hb⟩ := hrel
  have HS := hid (And.intro hr hb)
  by_cases ln : n < c
  ·have q1 := cut_l (g := g) ln
   have q2 := cut_h (g := g) (c := c) hn
   obtain ⟨K, hK⟩ : ∃ K, min n (c - n) = K := ⟨_, rfl⟩
   obtain ⟨w4, hcp, hr4, hb4⟩ := copy_in ln hr hb hgl hK
   have ST := hid (And.intro hr4 hb4)
   have hKc : K ≤ 48 ∧ n + K ≤ c ∧ (1 ≤ n → 1 ≤ K) := by omega
   obtain ⟨k1, k2, k3⟩ := hKc
   clear hr hb hr4 hb4 hK
   go_wp2_with fail
   go_region
   go_wp2_with fail
   go_round
   case rel => exact ⟨n + K, by omega, by omega, by go_num, ST.out.1, ST.out.2⟩
   case measure => simp [intOf]; omega
  ·obtain rfl : n = c := by omega
   clear hr hb
   go_wp2_with fail
   go_ret
   exact ⟨g, rfl, HS.out.1, hgl, HS.out.2⟩

end Go.Proofs.YtolipafcoolpgaaGreat.Dm
