/-
  Wft, Wfu, Wfv, Wfw, Wfx, ChkTi: laid together.
-/
import Derived.Test.YtolipafcoolpgaaGreatJ13
import Derived.Laws.CopyRow
import Derived.Test.YtolipafcoolpgaaGreatJ6
import Derived.Test.YtolipafcoolpgaaGreatJ7
import Derived.Test.YtolipafcoolpgaaGreatJ5
/-
  wf: whether what is taken in a module is there; given: where values are given.
-/
namespace Go.Proofs.YtolipafcoolpgaaGreat.Wf
open Go.RowKit View Rd Num Opn Copy Srt Go.Proofs.YtolipafcoolpgaaGreat.Mod Chk Flo Dm

set_option linter.unusedVariables false

def UseM (M : MV) : Prop := ∀ i, i < M.fns.n → UseF (M.F i)

theorem useFault_any (M : MV) (w : World) (hM : InM w M) (hs : SmallM M) (hj : ∀ i, i < M.fns.n → Jng (M.F i)) (hf : FormM M) (hfl : FlowM M) (h0 : ∀ i, i < M.fns.n → 0 < (M.F i).blk.n) (hgi : ∀ i, i < M.fns.n → GivenKept (M.F i)) : Calls Tryz.prog 31 #[M.val] w fun e w' => Ans (fun r => r = true ↔ ¬ UseM M) w e w' := by
 have x4 := hs.fns
 obtain ⟨W, hW⟩ : ∃ W, w.alloc (.cells (mcells M) 27) = W := ⟨_, rfl⟩
 have b3 : W.cell? ⟨w.heap.size, 3, none⟩ = some (.slice M.fns.a M.fns.n M.fns.c) := by rw [← hW]; simp
 have HM := hid (show InM W M by rw [← hW]; exact hM.on (new (same w) _))
 have LW := hid (show Below w.heap.size w W by rw [← hW]; exact new (same w) _)
 have HS := hid hs
 have HJ := hid hj
 have HF := hid hf
 have HL := hid hfl
 have H0 := hid h0
 have HG := hid hgi
 clear hM hs hj hf hfl h0 hgi
 go_enter Tryz.func31, Tryz.ntmps31
 go_wp2_with fail
 clear hW
 refine (has_useF M.fns M.F (fun i => ¬ UseF (M.F i)) W (by omega) (fun wx h => (HM.out.on h).fns) (fun i hi wx h => funcUse_any (M.F i) wx ((HM.out.on h).fnI i hi) (HS.out.light i hi) (HJ.out i hi) (HF.out.fns i hi) (HL.out i hi) (H0.out i hi) (HG.out i hi))).mono ?_
 rintro e w1 ⟨r, rfl, hr, hb⟩
 have B1 := hid (View.more LW.out hb)
 have R := hid hr
 clear hr hb
 go_wp2_with fail
 go_ret
 exact ⟨r, rfl, R.out.trans ex_not, B1.out⟩

theorem run_copy_rows {P : Program} (w : World) (dT sT ty elem : TypeId) (z g o dLen dCap : Nat) (a : Addr) (sLen sCap : Nat) (cur : Array Value) (t : TypeId) (cs : List Value)
  (hu : P.underlying dT = some (.slice elem)) (hs : (P.info? elem).map (·.size) = some z)
  (hg : w.heap[g]? = some (.cells cur t (0, 0))) (hn : cs.length = Nat.min sLen dLen * z)
  (hsrc : ∀ j v, cs[j]? = some v → w.cell? (a.add j) = some v) (hfit : o + cs.length ≤ cur.size) (h1 : ∀ v ∈ cs, v.oneCell' = true) :
  (Builtin.copy_ #[dT, sT] ty #[.slice (some ⟨g, o, none⟩) dLen dCap, .slice (some a) sLen sCap]).run P w =
   .ok (goInt (Nat.min sLen dLen)) (w.setRow g (cur.toList.take o ++ cs ++ cur.toList.drop (o + cs.length)).toArray) := by
 have hl := run_loadCells_list (P := P) w a cs hsrc
 have hst := run_storeCells_at P g o t cs 0 cur w hg (by simpa using hfit) h1
 cases hq : P.info? elem with
 | none => simp [hq] at hs
 | some i =>
  have hi : i.size = z := by simpa [hq] using hs
  simp [Builtin.copy_, run_underlying hu, Builtin.lenOf, Builtin.firstCells, sizeOf, typeInfo, hq, hi, ← hn, hl, hst]

abbrev sps (k : Nat) : Nat → Value := fun i => .int .i64 (if i % 2 = 1 ∧ i < k * 2 then -1 else 0)

theorem splice_sps {c a k : Nat} (h : a + k ≤ c) : ∀ i, i < c * 2 → (((List.range (c * 2)).map (sps a)).take (a * 2) ++ (List.range (k * 2)).map (sps k) ++ ((List.range (c * 2)).map (sps a)).drop (a * 2 + k * 2))[i]? = some (sps (a + k) i) := by
 intro i hi
 by_cases h1 : i < a * 2
 ·rw [List.append_assoc, List.getElem?_append_left (by simp; omega), List.getElem?_take_of_lt h1]
  simp [hi, sps, show i < a * 2 by omega, show i < (a + k) * 2 by omega]
 ·by_cases h2 : i < a * 2 + k * 2
  ·rw [List.getElem?_append_left (by simp; omega), List.getElem?_append_right (by simp; omega)]
   simp only [List.length_take, List.length_map, List.length_range]
   rw [Nat.min_eq_left (by omega)]
   simp [sps, show i - a * 2 < k * 2 by omega, show i < (a + k) * 2 by omega]
   have e : (i - a * 2) % 2 = i % 2 := by omega
   rw [e]
  ·rw [List.getElem?_append_right (by simp; omega), List.getElem?_drop]
   simp only [List.length_append, List.length_take, List.length_map, List.length_range]
   rw [Nat.min_eq_left (by omega)]
   have e : a * 2 + k * 2 + (i - (a * 2 + k * 2)) = i := by omega
   rw [e]
   simp [hi, sps, show ¬ i < a * 2 by omega, show ¬ i < (a + k) * 2 by omega]

theorem copy_sps {w wr : World} {g c n K sL sc dc : Nat} {ad : Addr} (ln : n ≤ c) (hr : wr.rowIs g 177 (c * 2) (sps n)) (hb : Below w.heap.size w wr) (hgl : w.heap.size ≤ g) (hK : Nat.min sL (c - n) = K)
  (hsrc : ∀ j, j < K * 2 → wr.cell? (ad.add j) = some (sps K j)) :
  ∃ w4, (Builtin.copy_ #[171, 171] 3 #[.slice (some ⟨g, n * 2, none⟩) (c - n) dc, .slice (some ad) sL sc]).run Tryz.prog wr = .ok (.int .i64 K) w4 ∧ w4.rowIs g 177 (c * 2) (sps (n + K)) ∧ Below w.heap.size w w4 := by
 have hg := row_list hr
 have hcl : ((List.range (K * 2)).map (sps K)).length = K * 2 := by simp
 have hKc : n + K ≤ c := by have : K ≤ c - n := by rw [← hK]; exact Nat.min_le_right _ _
                            omega
 have hcp := run_copy_rows (P := Tryz.prog) wr 171 171 3 177 2 g (n * 2) (c - n) dc ad sL sc ((List.range (c * 2)).map (sps n)).toArray 177 ((List.range (K * 2)).map (sps K)) (by kernel_rfl) (by kernel_rfl) hg (by rw [hcl, hK]) (fun j v hv => by
  obtain ⟨h1, h2⟩ := List.getElem?_eq_some_iff.1 hv
  rw [hcl] at h1
  rw [hsrc j h1, ← h2]
  simp) (by simp; omega) (by intro v hv; obtain ⟨i, _, rfl⟩ := List.mem_map.1 hv; rfl)
 rw [hcl, hK] at hcp
 refine ⟨_, hcp, ?_, below_setRow hb hgl _⟩
 exact row_of_list (L := ((List.range (c * 2)).map (sps n)).take (n * 2) ++ (List.range (K * 2)).map (sps K) ++ ((List.range (c * 2)).map (sps n)).drop (n * 2 + K * 2)) (setRow_heap wr g _ _ 177 _ hg |>.trans (by simp)) (by simp; omega) (fun i hi => splice_sps hKc i hi)

theorem infoSpot : (Tryz.prog.info? 177).map (fun i => (i.zero, i.size, i.bytes)) = some (some (.agg #[.int .i64 0, .int .i64 0]), 2, 16) := by kernel_rfl

theorem cut_l2 {g c n : Nat} (h : n < c) : ∀ wx, (Instr.slice 171 (.slice (some ⟨g, 0, none⟩) c c) (some (.int .i64 n)) none none).run Tryz.prog wx = .ok (.slice (some ⟨g, n * 2, none⟩) (c - n) (c - n)) wx := by
 intro wx
 have hu : Tryz.prog.underlying 171 = some (.slice 177) := by kernel_rfl
 have he : Tryz.prog.elem 171 = 177 := by unfold Program.elem; rw [hu]
 obtain ⟨i, hi, hi'⟩ := Option.map_eq_some_iff.1 (show (Tryz.prog.info? 177).map (fun i => i.size) = some 2 by kernel_rfl)
 have hr := run_slice_l (P := Tryz.prog) wx 171 (some ⟨g, 0, none⟩) c c (by rw [he]; exact hu) .i64 n (by omega) (by omega)
 rw [he] at hr
 rw [hr]
 simp [sizeOf, typeInfo, hi, hi', sliced, Addr.add_lit]
 omega

theorem cut_h2 {g c n : Nat} {cap : Nat} (h : n ≤ cap) : ∀ wx, (Instr.slice 171 (.slice (some ⟨g, 0, none⟩) c cap) none (some (.int .i64 n)) none).run Tryz.prog wx = .ok (.slice (some ⟨g, 0, none⟩) n cap) wx := by
 intro wx
 have hu : Tryz.prog.underlying 171 = some (.slice 177) := by kernel_rfl
 have he : Tryz.prog.elem 171 = 177 := by unfold Program.elem; rw [hu]
 obtain ⟨i, hi, hi'⟩ := Option.map_eq_some_iff.1 (show (Tryz.prog.info? 177).map (fun i => i.size) = some 2 by kernel_rfl)
 have hr := run_slice_h (P := Tryz.prog) wx 171 (some ⟨g, 0, none⟩) c cap (by rw [he]; exact hu) .i64 n (by omega) (by omega)
 rw [he] at hr
 rw [hr]
 simp [sizeOf, typeInfo, hi, hi', sliced, Addr.add_lit]

theorem made_sps (n : Nat) : ∀ i, i < n * 2 → (madeCells #[.int .i64 0, .int .i64 0] (n * 2))[i]? = some (sps 0 i) := by
 intro i hi
 have h2 : i % 2 = 0 ∨ i % 2 = 1 := by omega
 rcases h2 with h2 | h2 <;> simp [madeCells, hi, sps, h2]

theorem rowIs_sps (w : World) (n : Nat) : (w.alloc (.cells (madeCells #[.int .i64 0, .int .i64 0] (n * 2)) 177)).rowIs w.heap.size 177 (n * 2) (sps 0) := by
 have := World.rowIs_alloc w (madeCells #[.int .i64 0, .int .i64 0] (n * 2)) 177 (sps 0) (by rw [size_madeCells]; exact made_sps n)
 rw [size_madeCells] at this
 exact this

set_option maxRecDepth 10000 in
set_option maxHeartbeats 2000000 in
theorem repeat_spot (x c : Nat) (hc : c ≤ 16) (h1 : 1 ≤ c) (w : World) (hx0 : w.cell? ⟨x, 0, none⟩ = some (.int .i64 0)) (hx1 : w.cell? ⟨x, 1, none⟩ = some (.int .i64 (-1))) : Calls Tryz.prog 165 #[.slice (some ⟨x, 0, none⟩) 1 1, .int .i64 c] w fun e w' => ∃ g, e = .returned (.slice (some ⟨g, 0, none⟩) c c) ∧ w'.rowIs g 177 (c * 2) (sps c) ∧ w.heap.size ≤ g ∧ Below w.heap.size w w' := by
 have hxl := World.block_lt_of_cell? _ _ hx0
 have HX := hid (And.intro hx0 hx1)
 obtain ⟨i0, hi, hz0, hz1, hz2⟩ := info_parts infoSpot
 have hmk := fun wx => run_make (P := Tryz.prog) wx 171 177 i0 _ (show Tryz.prog.underlying 171 = some (.slice 177) by kernel_rfl) hi hz0 .i64 .i64 (c : Int) (c : Int) (by omega) (by omega) (by rw [hz2]; omega) (by omega)
 have e1 : ((c : Int)).toNat = c := by omega
 simp only [e1, hz1] at hmk
 have t0 : decide ((c : Int) < 0) = false := by simp
 clear hx0 hx1 hi hz0 hz1 hz2 e1
 go_enter Tryz.func165, Tryz.ntmps165
 go_wp2_with fail
 refine (mul_any c (Nat.le_trans hc (by decide)) w).mono ?_
 rintro e w1 ⟨rfl, hb1⟩
 have z1 := hb1.size
 have B1 := hid hb1
 have X1 := hid (And.intro (cell_on hb1 HX.out.1) (cell_on hb1 HX.out.2))
 clear hb1 HX t0
 have t1 : decide ((9223372036854775807 : Int) < (c : Int)) = false := by simp; omega
 obtain ⟨W, hW⟩ : ∃ W, w1.alloc (.cells (madeCells #[.int .i64 0, .int .i64 0] (c * 2)) 177) = W := ⟨_, rfl⟩
 have RW := rowIs_sps w1 c
 rw [hW] at RW
 have BW := hid (show Below w.heap.size w W by rw [← hW]; exact new B1.out _)
 have X2 := hid (show W.cell? ⟨x, 0, none⟩ = some (.int .i64 0) ∧ W.cell? ⟨x, 1, none⟩ = some (.int .i64 (-1)) by
  have q : Below w1.heap.size w1 W := by rw [← hW]; exact new (same _) _
  exact ⟨cell_on q X1.out.1, cell_on q X1.out.2⟩)
 obtain ⟨g, hg⟩ : ∃ g, w1.heap.size = g := ⟨_, rfl⟩
 rw [hg] at RW
 obtain ⟨w2, hcp, hr2, hb2⟩ := copy_sps (w := w) (n := 0) (K := 1) (sL := 1) (sc := 1) (dc := c) (ad := ⟨x, 0, none⟩) (Nat.zero_le _) RW BW.out (by omega) (by simp only [Nat.sub_zero]; exact Nat.min_eq_left h1) (fun j hj => by
  have h2 : j = 0 ∨ j = 1 := by omega
  rcases h2 with rfl | rfl
  ·rw [Addr.add_lit]; exact X2.out.1
  ·rw [Addr.add_lit]; exact X2.out.2)
 simp only [Nat.zero_mul, Nat.sub_zero, Nat.zero_add] at hcp hr2
 have ST := hid (And.intro hr2 hb2)
 have hgl : w.heap.size ≤ g := by omega
 clear RW X1 X2 BW hr2 hb2
 go_wp2_with fail
 clear hmk hcp hW hg
 go_loopw [8] (fun nv wr => ∃ n : Nat, n ≤ c ∧ 1 ≤ n ∧ nv = .int .i64 n ∧ wr.rowIs g 177 (c * 2) (sps n) ∧ Below w.heap.size w wr) (fun nv _ => c - (intOf nv).toNat)
 case atStart => exact ⟨1, by omega, by omega, rfl, ST.out.1, ST.out.2⟩
 case round =>
  clear ST
  obtain ⟨n, hn, hn1, rfl, hr, hb⟩ := hrel
  have HS := hid (And.intro hr hb)
  by_cases ln : n < c
  ·have q1 := cut_l2 (g := g) ln
   have q2 := cut_h2 (g := g) (c := c) hn
   obtain ⟨K, hK⟩ : ∃ K, Nat.min n (c - n) = K := ⟨_, rfl⟩
   have hKn : K ≤ n := by rw [← hK]; exact Nat.min_le_left _ _
   obtain ⟨w4, hcp, hr4, hb4⟩ := copy_sps (w := w) (wr := wr.drew) (n := n) (K := K) (sL := n) (sc := c) (dc := c - n) (ad := ⟨g, 0, none⟩) hn hr (Below.drew hb) hgl hK (fun j hj => by
    rw [Addr.add_lit]
    show wr.cell? ⟨g, 0 + j, none⟩ = _
    rw [Nat.zero_add, hr.cell (i := j) (by omega)]
    simp [sps, show j < n * 2 by omega, hj])
   have ST := hid (And.intro hr4 hb4)
   have hKc : K ≤ 16 ∧ n + K ≤ c ∧ 1 ≤ K := by
    have h2 : K = min n (c - n) := hK.symm
    omega
   obtain ⟨k1, k2, k3⟩ := hKc
   clear hr hb hr4 hb4 hK
   go_wp2_with fail
   go_region
   go_wp2_with fail
   go_round
   case rel => exact ⟨n + K, by omega, by omega, by go_num, ST.out.1, ST.out.2⟩
   case measure => simp [intOf]; omega
  ·obtain rfl : n = c := by omega
   clear hr hb
   go_wp2_with fail
   go_ret
   exact ⟨g, rfl, HS.out.1, hgl, HS.out.2⟩

def flS (U : List (Int × Int)) : List Value := U.flatMap (fun u => [.int .i64 u.1, .int .i64 u.2])

theorem flS_snoc (U : List (Int × Int)) (u : Int × Int) : flS (U ++ [u]) = flS U ++ [.int .i64 u.1, .int .i64 u.2] := by simp [flS]
theorem flS_at : ∀ (U : List (Int × Int)) (v : Nat) (u : Int × Int), U[v]? = some u → (flS U)[v * 2]? = some (.int .i64 u.1) ∧ (flS U)[v * 2 + 1]? = some (.int .i64 u.2)
 | [], v, u, h => by simp at h
 | x :: U, 0, u, h => by simp at h; subst h; simp [flS]
 | x :: U, v + 1, u, h => by
  have ih := flS_at U v u (by simpa using h)
  have e : flS (x :: U) = .int .i64 x.1 :: .int .i64 x.2 :: flS U := by simp [flS]
  rw [e, show (v + 1) * 2 = v * 2 + 1 + 1 by omega]
  exact ⟨by simpa using ih.1, by simpa using ih.2⟩

structure Gath (F : FV) (U : List (Int × Int)) (b k : Nat) : Prop where
 len : U.length = lastOf F b + giv (F.I b) k + 1
 par : ∀ v, v ≤ F.par.n → U[v]? = some (0, -1)
 val : ∀ b' k', b' < F.blk.n → k' < (F.B b').n → (F.I b' k').ty ≠ 0 → Bef F b k b' k' → U[idx F b' k']? = some ((b' : Int), (k' : Int))

theorem gath_start (F : FV) : Gath F (List.replicate (F.par.n + 1) ((0 : Int), (-1 : Int))) 0 0 := by
 refine ⟨by simp [lastOf, cnt, giv], fun v hv => by rw [List.getElem?_replicate, if_pos (by omega)], fun b' k' _ _ _ h => by rcases h with h | ⟨_, h⟩ <;> omega⟩

theorem gath_next {F : FV} {U : List (Int × Int)} {b : Nat} (h : Gath F U b (F.B b).n) : Gath F U (b + 1) 0 := by
 refine ⟨by rw [h.len, lastOf_next]; simp [giv], h.par, fun b' k' h1 h2 h3 h4 => h.val b' k' h1 h2 h3 ?_⟩
 rcases h4 with h4 | ⟨_, h4⟩
 ·by_cases e : b' = b
  ·subst e; exact .inr ⟨rfl, h2⟩
  ·exact .inl (by omega)
 ·omega

theorem gath_skip {F : FV} {U : List (Int × Int)} {b k : Nat} (h : Gath F U b k) (ht : (F.I b k).ty = 0) : Gath F U b (k + 1) := by
 refine ⟨by rw [h.len, giv]; simp [ht], h.par, fun b' k' h1 h2 h3 h4 => h.val b' k' h1 h2 h3 ?_⟩
 rcases h4 with h4 | ⟨rfl, h4⟩
 ·exact .inl h4
 ·by_cases e : k' = k
  ·subst e; exact absurd ht h3
  ·exact .inr ⟨rfl, by omega⟩

theorem gath_add {F : FV} {U : List (Int × Int)} {b k : Nat} (h : Gath F U b k) (ht : (F.I b k).ty ≠ 0) : Gath F (U ++ [((b : Int), (k : Int))]) b (k + 1) := by
 refine ⟨by rw [List.length_append, h.len, giv]; simp [ht]; omega, fun v hv => ?_, fun b' k' h1 h2 h3 h4 => ?_⟩
 ·rw [List.getElem?_append_left (by have := h.len; have := lastOf_par F b; omega)]; exact h.par v hv
 ·have old : Bef F b k b' k' → (U ++ [((b : Int), (k : Int))])[idx F b' k']? = some ((b' : Int), (k' : Int)) := fun q => by
   have e := h.val b' k' h1 h2 h3 q
   rw [List.getElem?_append_left (List.getElem?_eq_some_iff.1 e).1]; exact e
  rcases h4 with h4 | ⟨rfl, h4⟩
  ·exact old (.inl h4)
  ·by_cases e : k' = k
   ·subst e
    rw [List.getElem?_append_right (by rw [h.len, idx_eq F ht]; omega), h.len, idx_eq F ht]
    simp
   ·exact old (.inr ⟨rfl, by omega⟩)

theorem owns_sps {w : World} {g c base : Nat} (h : w.rowIs g 177 (c * 2) (sps c)) (hb : base ≤ g) (hc : c ≤ 16) : w.ownsRow base 177 2 (.slice (some ⟨g, 0, none⟩) c c) c (flS (List.replicate c ((0 : Int), (-1 : Int)))) := by
 have e : (List.range (c * 2)).map (sps c) = flS (List.replicate c ((0 : Int), (-1 : Int))) := by
  apply List.ext_getElem?
  intro i
  have hl : (flS (List.replicate c ((0 : Int), (-1 : Int)))).length = c * 2 := by simp [flS, List.length_flatMap]
  by_cases hi : i < c * 2
  ·obtain ⟨v, hv⟩ : ∃ v, v = i / 2 := ⟨_, rfl⟩
   have q := flS_at (List.replicate c ((0 : Int), (-1 : Int))) v (0, -1) (by rw [List.getElem?_replicate, if_pos (by omega)])
   have h2 : i = v * 2 ∨ i = v * 2 + 1 := by omega
   rcases h2 with rfl | rfl
   ·rw [q.1]; simp [hi, sps]
   ·rw [q.2]; simp [hi, sps]
  ·rw [List.getElem?_eq_none (by simp; omega), List.getElem?_eq_none (by rw [hl]; omega)]
 have hg := row_list h
 rw [e] at hg
 have hl : (flS (List.replicate c ((0 : Int), (-1 : Int)))).length = c * 2 := by rw [← e]; simp
 exact ⟨hl, .inr ⟨g, c, _, rfl, hb, hg, Nat.le_refl _, by unfold maxLen; omega, by simpa using hl, by simp [← hl]⟩⟩

theorem given_of {F : FV} {w w0 : World} {v : Value} {U : List (Int × Int)} (h : Gath F U F.blk.n 0) (ho : w.ownsRow w0.heap.size 177 2 v U.length (flS U)) (hb : Below w0.heap.size w0 w) : GivenIs F w0 (.returned v) w := by
 have hl : U.length = allV F + 1 := by rw [h.len, lastOf_all]; simp [giv]
 have hh := ho
 rcases ho.2 with ⟨rfl, e⟩ | ⟨g, cap, cur, rfl, q1, q2, q3, q4⟩
 ·omega
 ·refine ⟨g, cap, fun x => (U.getD x (0, 0)).1, fun x => (U.getD x (0, 0)).2, by rw [hl], ⟨fun x hx => ?_, fun x hx => ?_, fun x hx => ?_, fun b' k' h1 h2 h3 => ?_⟩, by omega, q1, hb⟩
  ·have e : U[x]? = some (U.getD x (0, 0)) := by simp [List.getD, show x < U.length by omega]
   have := hh.cellAt (g := g) (x * 2) (by omega)
   rw [this, (flS_at U x _ e).1]
  ·have e : U[x]? = some (U.getD x (0, 0)) := by simp [List.getD, show x < U.length by omega]
   have := hh.cellAt (g := g) (x * 2 + 1) (by omega)
   rw [this, (flS_at U x _ e).2]
  ·have e := h.par x hx
   simp [List.getD, e]
  ·have e := h.val b' k' h1 h2 h3 (.inl h1)
   simp [List.getD, e]

theorem append_spot {ops : Array Oper} {rest : List Oper} {o : Oper} {a : Act} {Q : Exit → Act → World → Prop} {w : World} (hgd : o.guard = none) (s x : Operand)
  (ho : o.op = .call { callee := .builtin .append, args := #[s, x], argTypes := #[171, 171] })
  (base : Nat) (v : Value) (n : Nat) (xs : List Value) (hs : a.eval s = v) (y z : Int) (hown : w.ownsRow base 177 2 v n xs)
  (hx : a.eval x = .slice (some ⟨w.heap.size, 0, none⟩) 1 1)
  (hsm : n ≤ 1000000) (hbase : base ≤ w.heap.size)
  (h : ∀ v' w', w'.ownsRow base 177 2 v' (n + 1) (xs ++ [.int .i64 y, .int .i64 z]) → (w.alloc (.cells #[.int .i64 y, .int .i64 z] 177)).grownBy w' v.ownBlock → wpList Tryz.prog ops Q rest (a.put o.dst v') w') : wpList Tryz.prog ops Q (o :: rest) a (w.alloc (.cells #[.int .i64 y, .int .i64 z] 177)) := by
 obtain ⟨i0, hi, hz0, hz1, hz2⟩ := info_parts infoSpot
 refine wpList_append_own_at _ hgd s x 171 ho base 177 i0 (.agg #[.int .i64 0, .int .i64 0]) 2 16 (by kernel_rfl) hi hz0 hz1 hz2 rfl (by decide) v _ _ hs (hown.alloc _) ⟨w.heap.size, 0, none⟩ 1 1 [.int .i64 y, .int .i64 z] hx rfl (cell_two_new _ _ _ _) (by intro u hu; simp at hu; rcases hu with rfl | rfl <;> rfl) (by simp only [maxLen]; omega) (by omega) (by simp; omega) ?_
 intro v' w' h1 h2 _ h4
 exact h v' w' h1 h2

set_option maxRecDepth 10000 in
set_option maxHeartbeats 4000000 in
theorem givenAt_any (F : FV) (hl : Light F) : GivenKept F := by
 intro w hF
 have gb := hl.blk
 have gp := hl.par
 have gv := allV_le hl
 obtain ⟨W, hW⟩ : ∃ W, w.alloc (.cells (fcells F) 36) = W := ⟨_, rfl⟩
 have FW := hid (show FuncAt W w.heap.size F by rw [← hW]; exact FuncAt.alloc w F)
 have HF := hid (show In W F by rw [← hW]; exact hF.on (new (same w) _))
 have LW := hid (show Below w.heap.size w W by rw [← hW]; exact new (same w) _)
 have HL := hid hl
 have sW : W.heap.size = w.heap.size + 1 := by rw [← hW]; simp
 obtain ⟨W1, hW1⟩ : ∃ W1, W.alloc (.cells #[.int .i64 0, .int .i64 (-1)] 177) = W1 := ⟨_, rfl⟩
 have L1 := hid (show Below W.heap.size W W1 by rw [← hW1]; exact new (same _) _)
 have X1 := hid (show W1.cell? ⟨w.heap.size + 1, 0, none⟩ = some (.int .i64 0) ∧ W1.cell? ⟨w.heap.size + 1, 1, none⟩ = some (.int .i64 (-1)) by rw [← sW, ← hW1]; exact ⟨by simp, by simp⟩)
 have f2 := cell_on L1.out FW.out.c2
 obtain ⟨P, hP⟩ : ∃ P, F.par.n + 1 = P := ⟨_, rfl⟩
 have hP16 : P ≤ 16 := by omega
 have hP1 : 1 ≤ P := by omega
 have q1 : IntKind.i64.wrap ((F.par.n : Int) + 1) = (P : Int) := by simp only [IntKind.wrap_i64]; omega
 have q2 : wrap64 ((F.par.n : Int) + 1) = (P : Int) := by unfold wrap64; omega
 have HP := hid hP
 clear hF hl hP
 go_enter Tryz.func131, Tryz.ntmps131
 go_wp2_with fail
 refine (repeat_spot (w.heap.size + 1) P hP16 hP1 W1 X1.out.1 X1.out.2).mono ?_
 rintro e w2 ⟨g, rfl, hr, hg, hb⟩
 have hz1 := L1.out.size
 have O2 := hid (owns_sps (base := W.heap.size) hr (by omega) hP16)
 have B2 := hid (View.more L1.out hb)
 have f4 := (FW.out.on B2.out).c4
 have G2 := hid (show Gath F (List.replicate P ((0 : Int), (-1 : Int))) 0 0 by rw [← HP.out]; exact gath_start F)
 clear hr hg hb f2 q1 q2 hW hW1 X1 hz1
 go_wp2_with fail
 clear f4
 go_loopw [3, 18] (fun nv iv wr => ∃ (j : Nat) (U : List (Int × Int)), j ≤ F.blk.n ∧ iv = .int .i64 j ∧ Gath F U j 0 ∧ wr.ownsRow W.heap.size 177 2 nv U.length (flS U) ∧ Below W.heap.size W wr) (fun _ iv _ => F.blk.n - (intOf iv).toNat)
 case atStart => exact ⟨0, _, Nat.zero_le _, rfl, G2.out, by simpa using O2.out, B2.out⟩
 case round =>
  clear O2 B2 G2
  obtain ⟨j, U, hj, rfl, hga, hown, hb⟩ := hrel
  have HA := hid (And.intro hga (And.intro hown hb))
  by_cases lj : j < F.blk.n
  ·obtain ⟨rb, ro, hrx, hrc0⟩ := HF.out.blk.at lj
   have hrc := cell_on hb hrc0
   have gi := HL.out.ins j lj
   have hLa : lastOf F j ≤ allV F := by rw [← lastOf_all]; exact lastOf_mono F hj
   have L0 := hid (show Below W.heap.size W (wr.alloc (.cells #[.slice (F.B j).a (F.B j).n (F.B j).c] 40)) from new HA.out.2.2 _)
   have O0 := hid (HA.out.2.1.alloc (.cells #[.slice (F.B j).a (F.B j).n (F.B j).c] 40))
   clear hga hown hb hrc0
   go_wp2_with fail
   clear hrc
   go_loopw [3, 26] (fun nv iv wx => ∃ (k : Nat) (U : List (Int × Int)), k ≤ (F.B j).n ∧ iv = .int .i64 k ∧ Gath F U j k ∧ wx.ownsRow W.heap.size 177 2 nv U.length (flS U) ∧ Below W.heap.size W wx) (fun _ iv _ => (F.B j).n - (intOf iv).toNat)
   case atStart => exact ⟨0, U, Nat.zero_le _, rfl, HA.out.1, O0.out, L0.out⟩
   case round =>
    clear O0 L0 HA
    obtain ⟨k, U, hk, rfl, hga, hown, hb⟩ := hrel
    have HK := hid (And.intro hga (And.intro hown hb))
    by_cases lk : k < (F.B j).n
    ·obtain ⟨ib, io, hiy, c0, c1, c2, c3, c4, c5, c6⟩ := ((HF.out.ins j lj).on hb).at lk
     have hgk := giv_le (F.I j) k
     have hUl : U.length ≤ 20000 := by have := hga.len; omega
     have hsz := hb.size
     clear hga hown hb
     have OX := hid (HK.out.2.1.alloc (.cells (F.I j k).cells 43))
     have LX := hid (show Below W.heap.size W (wr.alloc (.cells (F.I j k).cells 43)) from new HK.out.2.2 _)
     by_cases hty : (F.I j k).ty = 0
     ·have t1 : ((F.I j k).ty != 0) = false := by simp [hty]
      have HG := hid (gath_skip HK.out.1 hty)
      clear hty hgk
      go_wp2_with fail
      go_round
      case rel =>
       first
        | exact ⟨k + 1, U, by omega, by go_num, HG.out, OX.out, LX.out⟩
        | ((repeat apply Exists.intro); exact ⟨⟨k + 1, U, by omega, by go_num, HG.out, OX.out, LX.out⟩, rfl⟩)
      case measure => simp [intOf]; omega
     ·have t1 : ((F.I j k).ty != 0) = true := by simp [hty]
      have HG := hid (gath_add HK.out.1 hty)
      clear hty hgk
      go_wp2_with (at_builtin; refine append_spot rfl (.tmp 34) (.tmp 38) rfl W.heap.size _ U.length (flS U) rfl (j : Int) (k : Int) OX.out (by rw [World.size_alloc]; rfl) (by omega) (by simp; omega) ?_; intro v6 w6 o6 g6; have O6 := hid (And.intro o6 g6); clear o6 g6)
      go_round
      case rel =>
       have o7 : w6.ownsRow W.heap.size 177 2 v6 (U ++ [((j : Int), (k : Int))]).length (flS (U ++ [((j : Int), (k : Int))])) := by
        rw [flS_snoc, List.length_append]; exact O6.out.1
       have b7 : Below W.heap.size W w6 := (new LX.out _).grown O6.out.2 (by simp; omega) (fun q hq => (OX.out.lt q hq).1)
       first
        | exact ⟨k + 1, _, by omega, by go_num, HG.out, o7, b7⟩
        | ((repeat apply Exists.intro); exact ⟨⟨k + 1, _, by omega, by go_num, HG.out, o7, b7⟩, rfl⟩)
      case measure => simp [intOf]; omega
    ·obtain rfl : k = (F.B j).n := by omega
     have HG := hid (gath_next hga)
     clear hga hown hb
     go_wp2_with fail
     go_round
     case rel =>
      first
       | exact ⟨j + 1, U, by omega, by go_num, HG.out, HK.out.2.1, HK.out.2.2⟩
       | ((repeat apply Exists.intro); exact ⟨⟨j + 1, U, by omega, by go_num, HG.out, HK.out.2.1, HK.out.2.2⟩, rfl⟩)
     case measure => simp [intOf]; omega
  ·obtain rfl : j = F.blk.n := by omega
   clear hga hown hb
   go_wp2_with fail
   go_ret
   exact given_of (w0 := w) HA.out.1 ⟨HA.out.2.1.1, HA.out.2.1.2.imp id (fun ⟨g, cap, cur, e, q1, r⟩ => ⟨g, cap, cur, e, by omega, r⟩)⟩ (View.more LW.out HA.out.2.2)

theorem useFault_all (M : MV) (w : World) (hM : InM w M) (hs : SmallM M) (hj : ∀ i, i < M.fns.n → Jng (M.F i)) (hf : FormM M) (hfl : FlowM M) (h0 : ∀ i, i < M.fns.n → 0 < (M.F i).blk.n) : Calls Tryz.prog 31 #[M.val] w fun e w' => Ans (fun r => r = true ↔ ¬ UseM M) w e w' :=
 useFault_any M w hM hs hj hf hfl h0 (fun i hi => givenAt_any _ (hs.light i hi))

end Go.Proofs.YtolipafcoolpgaaGreat.Wf

/-
  wf: whether an Ins gives and takes those types.
-/
namespace Go.Proofs.YtolipafcoolpgaaGreat.Wf
open Go.RowKit View Rd Num Opn Copy Srt Go.Proofs.YtolipafcoolpgaaGreat.Mod Chk

set_option linter.unusedVariables false

abbrev tval (v : IV) (s : Sl) : Value := .agg #[.int .i64 v.op, .int .i64 v.ty, .int .i64 v.to, .int .i64 v.sym, .int .i64 v.num, .slice v.args.a v.args.n v.args.c, .slice v.into.a v.into.n v.into.c, .slice s.a s.n s.c]

def IsT (v : IV) (got : Nat → Int) (gives : Int) (n : Nat) (g : Nat → Int) : Prop := v.ty = gives ∧ v.args.n = n ∧ ∀ i, i < n → got i = g i

set_option maxHeartbeats 1000000 in
theorem eqf_any (s t : Sl) (f g T : Nat → Int) (c : Addr) (w : World) (hn : s.n ≤ 20) (hs : ∀ wx, Below w.heap.size w wx → Ints wx s f) (ht : ∀ wx, Below w.heap.size w wx → Ints wx t g)
  (hc : ∀ k, k < s.n → ∀ wx, Below w.heap.size w wx → Calls Tryz.prog 171 #[.int .i64 (f k), .int .i64 (g k), .pointer (some c)] wx fun e w' => Ans (fun r => r = true ↔ T k = g k) wx e w') :
  Calls Tryz.prog 170 #[.slice s.a s.n s.c, .slice t.a t.n t.c, .func (.func 171) #[] #[.pointer (some c)]] w fun e w' => Ans (fun r => r = true ↔ s.n = t.n ∧ ∀ i, i < t.n → T i = g i) w e w' := by
 by_cases h : s.n = t.n
 ·have hn' : ((s.n : Int) != (t.n : Int)) = false := by simp [h]
  have HN := hid h
  clear h
  go_enter Tryz.func170, Tryz.ntmps170
  go_wp2_with fail
  go_loopw [17] (fun iv wr => ∃ k : Nat, k ≤ s.n ∧ iv = .int .i64 k ∧ (∀ i, i < k → T i = g i) ∧ Below w.heap.size w wr) (fun iv _ => s.n - (intOf iv).toNat)
  case atStart => exact ⟨0, Nat.zero_le _, rfl, fun i hi => by omega, same w⟩
  case round =>
   obtain ⟨k, hk, rfl, hall, hb⟩ := hrel
   have HA := hid (And.intro hall hb)
   by_cases lk : k < s.n
   ·have lk' : k < t.n := by have := HN.out; omega
    obtain ⟨b1, o1, hx1, hc1⟩ := (hs wr hb).at lk
    obtain ⟨b2, o2, hx2, hc2⟩ := (ht wr hb).at lk'
    clear hall hb
    go_wp2_with fail
    refine (hc k lk _ HA.out.2).mono ?_
    rintro e w2 ⟨r, rfl, hr, hb2⟩
    have HR := hid hr
    have B2 := hid (View.more HA.out.2 hb2)
    clear hr hb2 hc1 hc2
    cases r with
    | false =>
     have D := hid (show ¬ (s.n = t.n ∧ ∀ i, i < t.n → T i = g i) from fun h => by have := HR.out.2 (h.2 k lk'); cases this)
     go_wp2_with fail
     go_ret
     exact ⟨false, rfl, ⟨fun h => (by cases h), fun h => absurd h D.out⟩, B2.out⟩
    | true =>
     have P := hid (HR.out.1 rfl)
     go_wp2_with fail
     go_round
     case rel => exact ⟨k + 1, by omega, by go_num, upto1 HA.out.1 P.out, B2.out⟩
     case measure => simp [intOf]; omega
   ·obtain rfl : k = s.n := by omega
    clear hall hb
    go_wp2_with fail
    go_ret
    exact ⟨true, rfl, ⟨fun _ => ⟨HN.out, fun i hi => HA.out.1 i (by have := HN.out; omega)⟩, fun _ => rfl⟩, HA.out.2⟩
 ·have hn' : ((s.n : Int) != (t.n : Int)) = true := by simp; omega
  have HN := hid h
  clear h
  go_enter Tryz.func170, Tryz.ntmps170
  go_wp2_with fail
  go_ret
  exact ⟨false, rfl, ⟨fun h => (by cases h), fun h => absurd h.1 HN.out⟩, same w⟩

theorem isc_any (c : Nat) (s : Sl) (T : Nat → Int) (x y : Int) (w : World) (h0 : 0 ≤ x) (h1 : x < s.n) (hc : w.cell? ⟨c, 7, none⟩ = some (.slice s.a s.n s.c)) (hT : Ints w s T) :
  Calls Tryz.prog 171 #[.int .i64 x, .int .i64 y, .pointer (some ⟨c, 0, none⟩)] w fun e w' => Ans (fun r => r = true ↔ T x.toNat = y) w e w' := by
 obtain ⟨a, rfl⟩ : ∃ a : Nat, x = a := ⟨x.toNat, by omega⟩
 have la : a < s.n := by omega
 obtain ⟨tb, to_, htx, htc⟩ := hT.at la
 clear hT h0 h1
 by_cases h : T a = y
 ·have t1 : (T a == y) = true := by simpa using h
  have HT := hid h
  clear h
  go_enter Tryz.func171, Tryz.ntmps171
  go_wp2_with fail
  go_ret
  exact ⟨true, rfl, ⟨fun _ => by simpa using HT.out, fun _ => rfl⟩, same w⟩
 ·have t1 : (T a == y) = false := by simpa using h
  have HT := hid h
  clear h
  go_enter Tryz.func171, Tryz.ntmps171
  go_wp2_with fail
  go_ret
  exact ⟨false, rfl, ⟨fun h => (by cases h), fun h => absurd (by simpa using h) HT.out⟩, same w⟩

set_option maxHeartbeats 1000000 in
theorem is_any (v : IV) (s t : Sl) (A T g : Nat → Int) (gives : Int) (w : World) (hA : Ints w v.args A) (hT : Ints w s T) (ht : Ints w t g) (hr : ∀ i, i < v.args.n → 0 ≤ A i ∧ A i < s.n) (h20 : v.args.n ≤ 20) :
  Calls Tryz.prog 135 #[tval v s, .int .i64 gives, .slice t.a t.n t.c] w fun e w' => Ans (fun r => r = true ↔ IsT v (fun i => T (A i).toNat) gives t.n g) w e w' := by
 obtain ⟨W, hW⟩ : ∃ W, w.alloc (.cells #[.int .i64 v.op, .int .i64 v.ty, .int .i64 v.to, .int .i64 v.sym, .int .i64 v.num, .slice v.args.a v.args.n v.args.c, .slice v.into.a v.into.n v.into.c, .slice s.a s.n s.c] 116) = W := ⟨_, rfl⟩
 have LW := hid (show Below w.heap.size w W by rw [← hW]; exact new (same w) _)
 have X := hid (show W.cell? ⟨w.heap.size, 1, none⟩ = some (.int .i64 v.ty) ∧ W.cell? ⟨w.heap.size, 5, none⟩ = some (.slice v.args.a v.args.n v.args.c) ∧ W.cell? ⟨w.heap.size, 7, none⟩ = some (.slice s.a s.n s.c) by rw [← hW]; exact ⟨by simp, by simp, by simp⟩)
 obtain ⟨x1, x5, x7⟩ := X.out
 have IA := hid (hA.on LW.out)
 have IT := hid (hT.on LW.out)
 have Ig := hid (ht.on LW.out)
 have HR := hid hr
 clear hA hT ht hr
 by_cases h : v.ty = gives
 ·have t1 : (v.ty == gives) = true := by simpa using h
  have HT := hid h
  clear h
  go_enter Tryz.func135, Tryz.ntmps135
  go_wp2_with (go_at_call 170; refine (eqf_any v.args t A g (fun i => T (A i).toNat) ⟨w.heap.size, 0, none⟩ W h20 (fun wx h => IA.out.on h) (fun wx h => Ig.out.on h) (fun k hk wx h => isc_any w.heap.size s T (A k) (g k) wx (HR.out k hk).1 (HR.out k hk).2 (cell_on h X.out.2.2) (IT.out.on h))).mono ?_; rintro e w1 ⟨r, rfl, hr, hb⟩; have H := hid hr; have B := hid hb; clear hr hb)
  go_ret
  exact ⟨r, rfl, H.out.trans ⟨fun h => ⟨HT.out, h⟩, fun h => h.2⟩, View.more LW.out B.out⟩
 ·have t1 : (v.ty == gives) = false := by simpa using h
  have HT := hid h
  clear h
  go_enter Tryz.func135, Tryz.ntmps135
  go_wp2_with fail
  go_ret
  exact ⟨false, rfl, ⟨fun h => (by cases h), fun h => absurd h.1 HT.out⟩, LW.out⟩

end Go.Proofs.YtolipafcoolpgaaGreat.Wf

/-
  What an Op asks of types, Op by Op.
-/
namespace Go.Proofs.YtolipafcoolpgaaGreat.Chk
open Go.RowKit View Rd Num Opn Copy Go.Proofs.YtolipafcoolpgaaGreat.Mod

set_option linter.unusedVariables false

theorem fi_1 {M : MV} {F : FV} {v : IV} {gn : Nat} {g : Nat → Int} (h : v.op = 1) : FitI M F v gn g ↔ (v.ty = 1 ∨ v.ty = 2 ∧ (v.num = 0 ∨ v.num = 1)) := by
 unfold FitI
 simp only [h]
 exact Iff.rfl

theorem fi_2 {M : MV} {F : FV} {v : IV} {gn : Nat} {g : Nat → Int} (h : v.op = 2) : FitI M F v gn g ↔ (v.ty = 4) := by
 unfold FitI
 simp only [h]
 exact Iff.rfl

theorem fi_3 {M : MV} {F : FV} {v : IV} {gn : Nat} {g : Nat → Int} (h : v.op = 3) : FitI M F v gn g ↔ (v.ty = 3) := by
 unfold FitI
 simp only [h]
 exact Iff.rfl

theorem fi_4 {M : MV} {F : FV} {v : IV} {gn : Nat} {g : Nat → Int} (h : v.op = 4) : FitI M F v gn g ↔ (v.ty = 1 ∧ g 0 = 1 ∧ g 1 = 1) := by
 unfold FitI
 simp only [h]
 exact Iff.rfl

theorem fi_5 {M : MV} {F : FV} {v : IV} {gn : Nat} {g : Nat → Int} (h : v.op = 5) : FitI M F v gn g ↔ (v.ty = 1 ∧ g 0 = 1 ∧ g 1 = 1) := by
 unfold FitI
 simp only [h]
 exact Iff.rfl

theorem fi_6 {M : MV} {F : FV} {v : IV} {gn : Nat} {g : Nat → Int} (h : v.op = 6) : FitI M F v gn g ↔ (v.ty = 1 ∧ g 0 = 1 ∧ g 1 = 1) := by
 unfold FitI
 simp only [h]
 exact Iff.rfl

theorem fi_7 {M : MV} {F : FV} {v : IV} {gn : Nat} {g : Nat → Int} (h : v.op = 7) : FitI M F v gn g ↔ (v.ty = 1 ∧ g 0 = 1 ∧ g 1 = 1) := by
 unfold FitI
 simp only [h]
 exact Iff.rfl

theorem fi_8 {M : MV} {F : FV} {v : IV} {gn : Nat} {g : Nat → Int} (h : v.op = 8) : FitI M F v gn g ↔ (v.ty = 1 ∧ g 0 = 1 ∧ g 1 = 1) := by
 unfold FitI
 simp only [h]
 exact Iff.rfl

theorem fi_9 {M : MV} {F : FV} {v : IV} {gn : Nat} {g : Nat → Int} (h : v.op = 9) : FitI M F v gn g ↔ (v.ty = 1 ∧ g 0 = 1 ∧ g 1 = 1) := by
 unfold FitI
 simp only [h]
 exact Iff.rfl

theorem fi_10 {M : MV} {F : FV} {v : IV} {gn : Nat} {g : Nat → Int} (h : v.op = 10) : FitI M F v gn g ↔ (v.ty = 1 ∧ g 0 = 1 ∧ g 1 = 1) := by
 unfold FitI
 simp only [h]
 exact Iff.rfl

theorem fi_11 {M : MV} {F : FV} {v : IV} {gn : Nat} {g : Nat → Int} (h : v.op = 11) : FitI M F v gn g ↔ (v.ty = 1 ∧ g 0 = 1 ∧ g 1 = 1) := by
 unfold FitI
 simp only [h]
 exact Iff.rfl

theorem fi_12 {M : MV} {F : FV} {v : IV} {gn : Nat} {g : Nat → Int} (h : v.op = 12) : FitI M F v gn g ↔ (v.ty = 1 ∧ g 0 = 1 ∧ g 1 = 1) := by
 unfold FitI
 simp only [h]
 exact Iff.rfl

theorem fi_13 {M : MV} {F : FV} {v : IV} {gn : Nat} {g : Nat → Int} (h : v.op = 13) : FitI M F v gn g ↔ (v.ty = 1 ∧ g 0 = 1 ∧ g 1 = 1) := by
 unfold FitI
 simp only [h]
 exact Iff.rfl

theorem fi_14 {M : MV} {F : FV} {v : IV} {gn : Nat} {g : Nat → Int} (h : v.op = 14) : FitI M F v gn g ↔ (v.ty = 2 ∧ g 0 = 1 ∧ g 1 = 1) := by
 unfold FitI
 simp only [h]
 exact Iff.rfl

theorem fi_15 {M : MV} {F : FV} {v : IV} {gn : Nat} {g : Nat → Int} (h : v.op = 15) : FitI M F v gn g ↔ (v.ty = 2 ∧ g 0 = 1 ∧ g 1 = 1) := by
 unfold FitI
 simp only [h]
 exact Iff.rfl

theorem fi_16 {M : MV} {F : FV} {v : IV} {gn : Nat} {g : Nat → Int} (h : v.op = 16) : FitI M F v gn g ↔ (v.ty = 2 ∧ g 0 = 2) := by
 unfold FitI
 simp only [h]
 exact Iff.rfl

theorem fi_17 {M : MV} {F : FV} {v : IV} {gn : Nat} {g : Nat → Int} (h : v.op = 17) : FitI M F v gn g ↔ (g 0 = 2 ∧ g 1 = v.ty ∧ g 2 = v.ty) := by
 unfold FitI
 simp only [h]
 exact Iff.rfl

theorem fi_18 {M : MV} {F : FV} {v : IV} {gn : Nat} {g : Nat → Int} (h : v.op = 18) : FitI M F v gn g ↔ (v.ty = 3) := by
 unfold FitI
 simp only [h]
 exact Iff.rfl

theorem fi_19 {M : MV} {F : FV} {v : IV} {gn : Nat} {g : Nat → Int} (h : v.op = 19) : FitI M F v gn g ↔ (v.ty = 3 ∧ g 0 = 3 ∧ g 1 = 1) := by
 unfold FitI
 simp only [h]
 exact Iff.rfl

theorem fi_20 {M : MV} {F : FV} {v : IV} {gn : Nat} {g : Nat → Int} (h : v.op = 20) : FitI M F v gn g ↔ (v.ty = 1 ∧ g 0 = 3) := by
 unfold FitI
 simp only [h]
 exact Iff.rfl

theorem fi_21 {M : MV} {F : FV} {v : IV} {gn : Nat} {g : Nat → Int} (h : v.op = 21) : FitI M F v gn g ↔ (g 0 = 3 ∧ g 1 = 1) := by
 unfold FitI
 simp only [h]
 exact Iff.rfl

theorem fi_22 {M : MV} {F : FV} {v : IV} {gn : Nat} {g : Nat → Int} (h : v.op = 22) : FitI M F v gn g ↔ (((M.F v.sym.toNat).par.n = gn ∧ ∀ i, i < gn → g i = (M.F v.sym.toNat).P i) ∧ v.ty = (M.F v.sym.toNat).res) := by
 unfold FitI
 simp only [h]
 exact Iff.rfl

theorem fi_23 {M : MV} {F : FV} {v : IV} {gn : Nat} {g : Nat → Int} (h : v.op = 23) : FitI M F v gn g ↔ (((M.E v.sym.toNat).par.n = gn ∧ ∀ i, i < gn → g i = M.EP v.sym.toNat i) ∧ v.ty = (M.E v.sym.toNat).res) := by
 unfold FitI
 simp only [h]
 exact Iff.rfl

theorem fi_24 {M : MV} {F : FV} {v : IV} {gn : Nat} {g : Nat → Int} (h : v.op = 24) : FitI M F v gn g ↔ (v.ty = 4 ∧ g 0 = 1) := by
 unfold FitI
 simp only [h]
 exact Iff.rfl

theorem fi_25 {M : MV} {F : FV} {v : IV} {gn : Nat} {g : Nat → Int} (h : v.op = 25) : FitI M F v gn g ↔ (g 0 = 4 ∧ v.ty ≠ 3) := by
 unfold FitI
 simp only [h]
 exact Iff.rfl

theorem fi_26 {M : MV} {F : FV} {v : IV} {gn : Nat} {g : Nat → Int} (h : v.op = 26) : FitI M F v gn g ↔ (∀ i, i < gn → g i = v.ty) := by
 unfold FitI
 simp only [h]
 exact Iff.rfl

theorem fi_27 {M : MV} {F : FV} {v : IV} {gn : Nat} {g : Nat → Int} (h : v.op = 27) : FitI M F v gn g ↔ (True) := by
 unfold FitI
 simp only [h]
 exact Iff.rfl

theorem fi_28 {M : MV} {F : FV} {v : IV} {gn : Nat} {g : Nat → Int} (h : v.op = 28) : FitI M F v gn g ↔ (g 0 = 2) := by
 unfold FitI
 simp only [h]
 exact Iff.rfl

theorem fi_29 {M : MV} {F : FV} {v : IV} {gn : Nat} {g : Nat → Int} (h : v.op = 29) : FitI M F v gn g ↔ (if F.res = 0 then gn = 0 else gn = 1 ∧ g 0 = F.res) := by
 unfold FitI
 simp only [h]
 exact Iff.rfl

theorem fi_30 {M : MV} {F : FV} {v : IV} {gn : Nat} {g : Nat → Int} (h : v.op = 30) : FitI M F v gn g ↔ (True) := by
 unfold FitI
 simp only [h]
 exact Iff.rfl

end Go.Proofs.YtolipafcoolpgaaGreat.Chk
