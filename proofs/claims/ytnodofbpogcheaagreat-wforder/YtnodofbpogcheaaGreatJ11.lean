/-
  FloD, FloF, Wfn: laid together.
-/
import Derived.Test.YtnodofbpogcheaaGreatJ10
import Derived.Test.YtnodofbpogcheaaGreatJ3
import Derived.Test.YtnodofbpogcheaaGreatJ5

namespace Go.Proofs.YtnodofbpogcheaaGreat.Flo
open Go.RowKit View Rd Copy Num Ty Srt

set_option linter.unusedVariables false

theorem info226 : (Tryz.prog.info? 226).map (fun i => (i.zero, i.size, i.bytes)) = some (some (.agg #[.int .i64 0, .slice none 0 0]), 2, 32) := by kernel_rfl
theorem size226 : (Tryz.prog.info? 226).map (fun i => i.size) = some 2 := by kernel_rfl
theorem underlying227 : Tryz.prog.underlying 227 = some (.slice 226) := by kernel_rfl

theorem append_visit {ops : Array Oper} {rest : List Oper} {o : Oper} {a : Act} {Q : Exit → Act → World → Prop} {w : World} (hgd : o.guard = none) (s x : Operand)
  (ho : o.op = .call { callee := .builtin .append, args := #[s, x], argTypes := #[227, 227] })
  (base : Nat) (v : Value) (n : Nat) (xs : List Value) (hs : a.eval s = v) (y : Int) (t : Sl) (hown : w.ownsRow base 226 2 v n xs)
  (hx : a.eval x = .slice (some ⟨w.heap.size, 0, none⟩) 1 1)
  (hsm : n ≤ 1000000) (hbase : base ≤ w.heap.size)
  (h : ∀ v' w', w'.ownsRow base 226 2 v' (n + 1) (xs ++ [.int .i64 y, Sl.val t]) → (w.alloc (.cells #[.int .i64 y, Sl.val t] 226)).grownBy w' v.ownBlock → (v'.ownBlock = v.ownBlock ∨ v'.ownBlock = some (w.heap.size + 1)) → wpList Tryz.prog ops Q rest (a.put o.dst v') w') : wpList Tryz.prog ops Q (o :: rest) a (w.alloc (.cells #[.int .i64 y, Sl.val t] 226)) := by
 obtain ⟨i0, hi, hz0, hz1, hz2⟩ := info_parts info226
 refine wpList_append_own_at _ hgd s x 227 ho base 226 i0 (.agg #[.int .i64 0, .slice none 0 0]) 2 32 underlying227 hi hz0 hz1 hz2 rfl (by decide) v _ _ hs (hown.alloc _) ⟨w.heap.size, 0, none⟩ 1 1 [.int .i64 y, Sl.val t] hx rfl (cell_two_new _ _ _ _) (by intro u hu; simp at hu; rcases hu with rfl | rfl <;> rfl) (by simp only [maxLen]; omega) (by omega) (by simp; omega) ?_
 intro v' w' h1 h2 _ h4
 exact h v' w' h1 h2 (by simpa using h4)

theorem OrdM.top {F : FV} {A0 : Nat} {dv : Value} {wr : World} {d : List Nat} {m : Nat → Bool} {W : List Ent} {e : Ent} {g cap : Nat} (h : OrdM F A0 dv (.slice (some ⟨g, 0, none⟩) (W ++ [e]).length cap) wr d m (W ++ [e])) :
  wr.cell? ⟨g, W.length * 2, none⟩ = some (.int .i64 e.b) ∧ wr.cell? ⟨g, W.length * 2 + 1, none⟩ = some (.slice e.s.a e.s.n e.s.c) ∧ (∀ i, wr.frozen? ⟨g, i, none⟩ = false) ∧ A0 + 2 ≤ g ∧ g < wr.heap.size ∧ (W.length + 1 ≤ cap) := by
 have hc := h.wy.cells (g := g) rfl
 have hl := h.wy.lt g rfl
 have e1 : (flatW (W ++ [e]))[W.length * 2]? = some (.int .i64 e.b) := by rw [flatW_snoc, List.getElem?_append_right (by rw [flatW_length]; omega), flatW_length]; simp
 have e2 : (flatW (W ++ [e]))[W.length * 2 + 1]? = some (Sl.val e.s) := by rw [flatW_snoc, List.getElem?_append_right (by rw [flatW_length]; omega), flatW_length]; simp
 have k1 := hc _ _ e1
 have k2 := hc _ _ e2
 rw [Addr.add_lit] at k1 k2
 refine ⟨by simpa using k1, by simpa using k2, fun i => ?_, hl.1, hl.2, ?_⟩
 ·rcases h.wy.2 with ⟨h0, _⟩ | ⟨g', c', cur, hv, _, hg, _⟩
  ·cases h0
  ·cases hv; simp [World.frozen?, hg]
 ·rcases h.wy.2 with ⟨h0, _⟩ | ⟨g', c', cur, hv, _, hg, hn, _⟩
  ·cases h0
  ·cases hv; simpa using hn

theorem way_at {g n cap x : Nat} (hx : x < n) : ∀ wx, (Instr.indexAt 227 (.slice (some ⟨g, 0, none⟩) n cap) (.int .i64 x)).run Tryz.prog wx = .ok (.pointer (some ⟨g, x * 2, none⟩)) wx := by
 have := index_row (s := ⟨some ⟨g, 0, none⟩, n, cap⟩) rfl underlying227 size226 hx
 simpa using this

def OrdIs (F : FV) (L : List Nat) : Prop :=
 (F.blk.n = 0 ∧ L = []) ∨ (0 < F.blk.n ∧ ∃ d m, Rest (su F) (su F 0) [] (upd (fun _ => false) 0) d m ∧ L = (d ++ [0]).reverse)

theorem ord_ex (F : FV) : ∃ L, OrdIs F L := by
 by_cases h : F.blk.n = 0
 ·exact ⟨[], .inl ⟨h, rfl⟩⟩
 ·obtain ⟨d, m, hr⟩ := rest_ex (N := su F) (n := F.blk.n) (su_lt F) _ (su F 0) (su_lt F 0) [] (upd (fun _ => false) 0) rfl
  exact ⟨_, .inr ⟨by omega, d, m, hr, rfl⟩⟩

theorem OrdM.start {F : FV} {w w1 : World} {s : Sl} (h0 : 0 < F.blk.n) (hsn : s.n = (su F 0).length) (hsi : Ints w1 s (fun i => (((su F 0).getD i 0 : Nat) : Int)))
  (hsm : Mine ((w.alloc (.cells (fcells F) 36)).alloc (.cells ((madeCells #[.bool false] F.blk.n).setIfInBounds 0 (.bool true)) 4)).heap.size w1.heap.size w1 s)
  (hb1 : Below ((w.alloc (.cells (fcells F) 36)).alloc (.cells ((madeCells #[.bool false] F.blk.n).setIfInBounds 0 (.bool true)) 4)).heap.size ((w.alloc (.cells (fcells F) 36)).alloc (.cells ((madeCells #[.bool false] F.blk.n).setIfInBounds 0 (.bool true)) 4)) w1) :
  OrdM F w.heap.size (.slice none 0 0) (.slice (some ⟨w1.heap.size, 0, none⟩) 1 1) (w1.alloc (.cells #[.int .i64 0, .slice s.a s.n s.c] 226)) [] (upd (fun _ => false) 0) [⟨0, s, su F 0⟩] := by
 have hz := hb1.size
 simp only [World.size_alloc] at hz
 refine ⟨World.ownsRow_nil _ _ _ _, ?_, ?_, ((FuncAt.alloc w F).on (new (same _) _) |>.on hb1).on (new (same _) _), ?_, ⟨_, _, rfl⟩⟩
 ·have := World.ownsRow_lit (base := w.heap.size + 2) (size := 2) (e := 226) w1 #[.int .i64 0, .slice s.a s.n s.c] 1 (by omega) (by decide) rfl
  simpa [flatW] using this
 ·have hr : ((w.alloc (.cells (fcells F) 36)).alloc (.cells ((madeCells #[.bool false] F.blk.n).setIfInBounds 0 (.bool true)) 4)).rowIs (w.heap.size + 1) 4 F.blk.n (fun i => .bool (upd (fun _ => false) 0 i)) := by
   refine ⟨(madeCells #[.bool false] F.blk.n).setIfInBounds 0 (.bool true), ?_, by simp [size_madeCells], fun i hi => ?_⟩
   ·have := Deep.blk_alloc_new (w.alloc (.cells (fcells F) 36)) (.cells ((madeCells #[.bool false] F.blk.n).setIfInBounds 0 (.bool true)) 4)
    simpa using this
   ·rw [Array.getElem?_setIfInBounds]
    by_cases e : 0 = i
    ·subst e; simp [size_madeCells, h0, upd]
    ·rw [if_neg e]
     have e' : ¬ i = 0 := fun h => e h.symm
     simp [madeCells, hi, Nat.mod_one, upd, e']
  exact (hr.of_block (hb1.block _ (by simp))).alloc _
 ·intro e he
  simp at he
  subst he
  refine ⟨h0, hsn, hsi.on (new (same _) _), su_lt F 0, fun hp => ?_⟩
  obtain ⟨g, h1, h2, h3, _⟩ := hsm hp
  simp only [World.size_alloc] at h2
  refine ⟨g, 0, h1, by omega, by simp; omega, by simp [Value.ownBlock], ?_⟩
  simp [Value.ownBlock]; omega

set_option maxRecDepth 10000 in
set_option maxHeartbeats 4000000 in
theorem order_flow (F : FV) (L : List Nat) (w : World) (hL : OrdIs F L) (hF : In w F) (hl : Light F) (hj : Jng F) :
  Calls Tryz.prog 163 #[F.val] w fun e w' => Gives L w e w' := by
 have HF := hid hF
 have HL := hid hl
 have HJ := hid hj
 have gb := hl.blk
 clear hF hl hj
 rcases hL with ⟨h0, rfl⟩ | ⟨h0, d1, m1, hR, rfl⟩
 ·have t0 : ((F.blk.n : Int) == 0) = true := by simp [h0]
  have H0 := hid h0
  clear h0
  go_enter Tryz.func163, Tryz.ntmps163
  go_wp2
  go_ret
  exact gives_nil (new (same w) _)
 have t0 : ((F.blk.n : Int) == 0) = false := by simp; omega
 have hS : Stk (su F) [] (upd (fun _ => false) 0) (([] : List (Nat × List Nat)) ++ [(0, su F 0)]) (d1 ++ [0]) := .top hR (.nil _ _)
 obtain ⟨D, hD⟩ : ∃ D, d1 ++ [0] = D := ⟨_, rfl⟩
 rw [hD] at hS
 rw [hD]
 have HS := hid hS
 have hmk := run_make_row' (P := Tryz.prog) 153 4 (.bool false) 1 underlying153 info4 rfl .i64 .i64 F.blk.n (by omega) (by omega)
 have hb0 := bool_at (g := w.heap.size + 1) (x := 0) (n := F.blk.n) h0
 have hmc : (madeCells #[Value.bool false] F.blk.n)[0]? = some (.bool false) := by simp [madeCells, h0, Nat.mod_one]
 clear hR hD hS
 go_enter Tryz.func163, Tryz.ntmps163
 go_wp2_with fail
 refine (next_flow F 0 _ (HF.out.on (new (new (same w) _) _)) HL.out HJ.out).mono ?_
 rintro e w1 ⟨s, rfl, hsn, hsi, hsm, hb1⟩
 have esu : suI F 0 = su F 0 := suI_nat F 0
 rw [esu] at hsn hsi
 have hb2 := View.more (new (new (same w) _) _) hb1
 have hz := hb1.size
 simp only [World.size_alloc] at hz
 have om : OrdM F w.heap.size (.slice none 0 0) (.slice (some ⟨w1.heap.size, 0, none⟩) 1 1) (w1.alloc (.cells #[.int .i64 0, .slice s.a s.n s.c] 226)) [] (upd (fun _ => false) 0) [⟨0, s, su F 0⟩] := by
  refine OrdM.start (w := w) h0 hsn hsi hsm hb1
 have OM := hid om
 have B2 := hid hb2
 have hun : unmet (upd (fun _ => false) 0) F.blk.n + 1 = F.blk.n := by
  have := unmet_upd (m := fun _ => false) (t := 0) rfl (n := F.blk.n)
  rw [unmet_none, if_pos h0] at this
  omega
 have HU := hid hun
 clear hmk hb0 hmc om hb2 hsn hsi hsm hb1 hun esu
 go_wp2_with fail
 go_loopg [3, 5] (toCome (su F) (upd (fun _ => false) 0) F.blk.n + (su F 0).length + 1) (fun k dv wv wr => ∃ d m W, OrdM F w.heap.size dv wv wr d m W ∧ Stk (su F) d m (wy W) D ∧ Below w.heap.size w wr ∧ d.length + W.length + unmet m F.blk.n ≤ F.blk.n ∧ toCome (su F) m F.blk.n + pile (wy W) ≤ k)
 case atStart => exact ⟨_, _, _, OM.out, HS.out, new B2.out _, by have := HU.out; simp; omega, by simp [pile]; omega⟩
 case round =>
  clear OM B2 HS HU hz
  obtain ⟨d, m, W, ho, hs, hb, hc, hk⟩ := hrel
  obtain ⟨g, cap, hnn⟩ := ho.nn
  subst hnn
  have OM := hid ho
  have SK := hid hs
  have HC := hid hc
  have HK := hid hk
  clear ho hs hc hk
  rcases List.eq_nil_or_concat W with hW | ⟨W', e, hW⟩
  ·subst hW
   have hd : D = d := SK.out.inv_nil
   subst hd
   have hdl : D.length ≤ 48 := by have := HC.out; omega
   clear HK HC
   obtain ⟨t, rfl, htn, hti, htm⟩ := ints_of_owns OM.out.dn (by simp; omega)
   have T1 := hid (And.intro hti htm)
   have htn' : t.n = D.length := by simpa using htn
   have HT := hid htn'
   have ht16 : t.n ≤ 48 := by omega
   clear hti htm htn htn'
   obtain ⟨g0, hg0, hga⟩ : ∃ g0, w.heap.size ≤ g0 ∧ (0 < t.n → t.a = some ⟨g0, 0, none⟩ ∧ g0 < wr.heap.size ∧ ∀ i, wr.frozen? ⟨g0, i, none⟩ = false) := by
    by_cases hp : 0 < t.n
    ·obtain ⟨g0, a1, a2, a3, a4⟩ := T1.out.2 hp
     exact ⟨g0, by omega, fun _ => ⟨a1, a3, a4⟩⟩
    ·exact ⟨w.heap.size, Nat.le_refl _, fun h => absurd h hp⟩
   have GA := hid hga
   clear hga
   go_wp2_with fail
   refine (reverse_any t g0 _ wr T1.out.1 (fun h => (GA.out h).1) (fun h => (GA.out h).2.1) (fun h => (GA.out h).2.2) (by omega)).mono ?_
   rintro e w5 ⟨rfl, hti5, htu⟩
   go_wp2_with fail
   go_ret
   refine ⟨t, rfl, by rw [HT.out, List.length_reverse], hti5.congr (fun i hi => ?_), fun hp => ?_, ?_⟩
   ·have hi' : i < D.length := by rw [← HT.out]; exact hi
    show (ints D).getD (t.n - 1 - i) 0 = _
    rw [getD_ints D _ (by rw [HT.out]; omega), HT.out]
    congr 1
    have h2 : D.length - 1 - i < D.length := by omega
    simp [List.getD, hi', List.getElem?_eq_getElem h2]
   ·obtain ⟨a1, a2, a3⟩ := GA.out hp
    exact ⟨g0, a1, hg0, by have := htu.size; omega, fun i => by rw [htu.froz _ a2]; exact a3 i⟩
   ·exact ⟨htu.os.trans hb.os, htu.tape.trans hb.tape, htu.output.trans hb.output, Nat.le_trans hb.size htu.size, fun k hk => (htu.block k (by have := hb.size; omega) (by omega)).trans (hb.block k hk)⟩
  ·simp only [List.concat_eq_append] at hW
   subst hW
   obtain ⟨b, s', l⟩ := e
   obtain ⟨h1, h2, h3, h4, h5, h6⟩ := OM.out.top
   have eok := OM.out.en ⟨b, s', l⟩ (by simp)
   have hlen : (W' ++ [(⟨b, s', l⟩ : Ent)]).length = W'.length + 1 := by simp
   obtain ⟨k, hkk⟩ : ∃ k, W'.length = k := ⟨_, rfl⟩
   rw [hkk] at h1 h2 h6 hlen
   rw [hlen]
   have hix := way_at (g := g) (cap := cap) (Nat.lt_succ_self k)
   have hfa := OM.out.fa
   have EOK := hid eok
   have HKK := hid (And.intro hkk hlen)
   have hkb : k < 48 := by have := HC.out; rw [hlen] at this; omega
   clear eok hkk hlen
   cases l with
   | nil =>
    have hsn : s'.n = 0 := EOK.out.len
    have t1 : ((s'.n : Int) == 0) = true := by simp [hsn]
    have HSN := hid hsn
    clear hsn
    have hdl : d.length ≤ 48 := by have := HC.out; omega
    go_wp2_with (at_builtin; refine append_at rfl (.tmp 37) (.tmp 40) rfl (w.heap.size + 2) u3 (ints d) rfl b (OM.out.alloc (.cells #[.int .i64 b, .slice s'.a s'.n s'.c] 226)).dn (by rw [World.size_alloc]; rfl) (by simp; omega) (by simp; omega) ?_; intro v2 w2 hown2 hgr2 hat2; have OW := hid (And.intro hown2 (And.intro hgr2 hat2)); clear hown2 hgr2 hat2)
    go_roundg (toCome (su F) m F.blk.n + pile (wy W'))
    case measure =>
     have h := HK.out
     simp only [wy, List.map_append, List.map_cons, List.map_nil] at h
     rw [pile_snoc] at h
     simp only [wy]
     omega
    case rel =>
     obtain ⟨o1, o2, o3⟩ := OW.out
     have hP := (OM.out.alloc (.cells #[.int .i64 b, .slice s'.a s'.n s'.c] 226)).pop rfl o1 o2 o3
     have hkk := HKK.out.1
     rw [hkk] at hP
     refine ⟨_, _, _, hP, ?_, ?_, ?_, Nat.le_refl _⟩
     ·have := SK.out
      simp only [wy, List.map_append, List.map_cons, List.map_nil] at this
      exact this.pop
     ·exact (new (new hb _) _).grown o2 (by simp; omega) (fun q hq => by have := (OM.out.dn.lt q hq).1; omega)
     ·have := HC.out
      simp at this ⊢
      omega
   | cons x l =>
    have hsn : s'.n = l.length + 1 := EOK.out.len
    have t1 : ((s'.n : Int) == 0) = false := by simp; omega
    have hxn : x < F.blk.n := EOK.out.lt x (by simp)
    obtain ⟨ib, io, hiy, hcell⟩ := (EOK.out.ints.on (new (same _) (.cells #[.int .i64 b, .slice s'.a s'.n s'.c] 226))).at (k := 0) (by show 0 < s'.n; omega)
    simp only [List.getD_cons_zero] at hcell
    replace hiy : ∀ wx, (Instr.indexAt 33 (.slice s'.a s'.n s'.c) (.int .i64 0)).run Tryz.prog wx = .ok (.pointer (some ⟨ib, io, none⟩)) wx := hiy
    have htl := tl_run (s := s') EOK.out.ints (by omega)
    have O1 := hid (OM.out.shift rfl)
    rw [HKK.out.1] at O1
    have hbl := bool_at (g := w.heap.size + 1) hxn
    have hrc := OM.out.mt.cell hxn
    have hrf := OM.out.mt.frozen x
    have hml := OM.out.mt.lt
    have HSN := hid hsn
    clear hsn
    obtain ⟨c0, c1, c2, c3, c4⟩ := hfa
    have hwl : w.heap.size < wr.heap.size := by omega
    by_cases hm : m x = true
    ·rw [hm] at hrc
     have HM := hid hm
     clear hm
     go_wp2_with fail
     go_roundg (toCome (su F) m F.blk.n + pile (wy (W' ++ [(⟨b, tl s', l⟩ : Ent)])))
     case measure =>
      have h := HK.out
      simp only [wy, List.map_append, List.map_cons, List.map_nil] at h ⊢
      rw [pile_snoc] at h ⊢
      simp at h ⊢
      omega
     case rel =>
      refine ⟨d, m, W' ++ [(⟨b, tl s', l⟩ : Ent)], ?_, ?_, ?_, ?_, Nat.le_refl _⟩
      ·have := O1.out.alloc (.cells #[.int .i64 b, .slice s'.a s'.n s'.c] 226)
       rw [HKK.out.2] at this
       exact this
      ·have := SK.out
       simp only [wy, List.map_append, List.map_cons, List.map_nil] at this ⊢
       exact this.skip HM.out
      ·exact new (hb.setCell (by show w.heap.size ≤ g; omega) _) _
      ·have := HC.out
       simp at this ⊢
       omega
    have hm' : m x = false := by simpa using hm
    rw [hm'] at hrc
    have HM := hid hm'
    clear hm hm'
    have O2 := hid ((O1.out.meet x).alloc (.cells #[.int .i64 b, .slice s'.a s'.n s'.c] 226))
    rw [HKK.out.2] at O2
    have b2 := new ((hb.setCell (p := ⟨g, k * 2 + 1, none⟩) (by show w.heap.size ≤ g; omega) (Sl.val (tl s'))).setCell (p := ⟨w.heap.size + 1, x, none⟩) (by show w.heap.size ≤ w.heap.size + 1; omega) (.bool true)) (.cells #[.int .i64 b, .slice s'.a s'.n s'.c] 226)
    have B2 := hid b2
    clear b2
    go_wp2_with fail
    refine (next_flow F x _ (HF.out.on B2.out) HL.out HJ.out).mono ?_
    rintro e w3 ⟨s3, rfl, hsn3, hsi3, hsm3, hb3⟩
    rw [suI_nat] at hsn3 hsi3
    have O3 := hid (O2.out.on hb3)
    have B3 := hid (View.more B2.out hb3)
    have hz3 := hb3.size
    simp only [World.size_alloc, World.size_setCell] at hz3 hsm3
    have E3 := hid (And.intro hsn3 (And.intro hsi3 hsm3))
    clear hsn3 hsi3 hsm3 hb3 c0 c1 c2 c3 c4 hrc hrf h1 h2 h3 hcell hiy htl
    go_wp2_with (at_builtin; refine append_visit rfl (.tmp 64) (.tmp 70) rfl (w.heap.size + 2) (.slice (some ⟨g, 0, none⟩) (k + 1) cap) (k + 1) (flatW (W' ++ [(⟨b, tl s', l⟩ : Ent)])) rfl x s3 (by have := O3.out.wy; simp only [List.length_append, List.length_cons, List.length_nil, HKK.out.1] at this; exact this) rfl (by omega) (by omega) ?_; intro v4 w4 hown4 hgr4 hat4; have OW := hid (And.intro hown4 (And.intro hgr4 hat4)); clear hown4 hgr4 hat4)
    go_roundg (toCome (su F) (upd m x) F.blk.n + pile (wy (W' ++ [(⟨b, tl s', l⟩ : Ent)] ++ [(⟨x, s3, su F x⟩ : Ent)])))
    case measure =>
     have h := HK.out
     have h' := toCome_upd (N := su F) HM.out hxn
     simp only [wy, List.map_append, List.map_cons, List.map_nil] at h ⊢
     rw [pile_snoc] at h
     rw [pile_snoc, pile_snoc]
     simp at h ⊢
     omega
    case rel =>
     obtain ⟨o1, o2, o3⟩ := OW.out
     obtain ⟨e1, e2, e3⟩ := E3.out
     have l1 := O2.out.dn.lt
     have l2 := O2.out.wy.lt
     simp only [World.size_alloc, World.size_setCell] at l1 l2
     have he : EntOk F.blk.n w3 w.heap.size u3.ownBlock (Value.slice (some ⟨g, 0, none⟩) (k + 1) cap).ownBlock ⟨x, s3, su F x⟩ := by
      refine ⟨hxn, e1, e2, su_lt F x, fun hp => ?_⟩
      obtain ⟨g3, a1, a2, a3, _⟩ := e3 hp
      exact ⟨g3, 0, a1, by omega, a3, fun e => by have := (l1 g3 e.symm).2; omega, fun e => by have := (l2 g3 e.symm).2; omega⟩
     have hlw : (W' ++ [(⟨b, tl s', l⟩ : Ent)]).length = k + 1 := by simp [HKK.out.1]
     refine ⟨d, upd m x, W' ++ [(⟨b, tl s', l⟩ : Ent)] ++ [(⟨x, s3, su F x⟩ : Ent)], O3.out.push he (by rw [hlw]; exact o1) o2 o3, ?_, ?_, ?_, Nat.le_refl _⟩
     ·have := SK.out
      simp only [wy, List.map_append, List.map_cons, List.map_nil] at this ⊢
      exact this.push HM.out
     ·exact (new B3.out _).grown o2 (by simp; omega) (fun q hq => by have := (l2 q hq).1; omega)
     ·have h := HC.out
      have h' := unmet_upd HM.out (n := F.blk.n)
      rw [if_pos hxn] at h'
      simp at h ⊢
      omega

end Go.Proofs.YtnodofbpogcheaaGreat.Flo

namespace Go.Proofs.YtnodofbpogcheaaGreat.Flo
open Go.RowKit View Rd Copy Num Ty Srt

set_option linter.unusedVariables false

theorem length_le_of_lt : ∀ (n : Nat) (l : List Nat), l.Nodup → (∀ x ∈ l, x < n) → l.length ≤ n
 | 0, l, _, h => by
  cases l with
  | nil => simp
  | cons a l => exact absurd (h a (by simp)) (by omega)
 | n + 1, l, hd, h => by
  have h1 := length_le_of_lt n (l.erase n) (hd.erase n) (fun x hx => by
   have h2 := (List.Nodup.mem_erase_iff hd).1 hx
   have := h x h2.2
   have := h2.1
   omega)
  by_cases hm : n ∈ l
  ·rw [List.length_erase_of_mem hm] at h1; omega
  ·rw [List.erase_of_not_mem hm] at h1; omega

structure Ord (F : FV) (L : List Nat) : Prop where
 nd : L.Nodup
 lt : ∀ x ∈ L, x < F.blk.n
 zero : 0 < F.blk.n → L[0]? = some 0
 shut : ∀ x ∈ L, ∀ t ∈ su F x, t ∈ L
 par : ∀ i x : Nat, L[i]? = some x → x = 0 ∨ ∃ j y : Nat, j < i ∧ L[j]? = some y ∧ x ∈ su F y
 way : ∀ x ∈ L, Way (su F) 0 x
 back : ∀ i x : Nat, L[i]? = some x → ∀ t ∈ su F x, (∃ j : Nat, i < j ∧ L[j]? = some t) ∨ Way (su F) t x

theorem getElem?_rev {l : List Nat} {i x : Nat} (h : l.reverse[i]? = some x) : i < l.length ∧ l[l.length - 1 - i]? = some x := by
 have h1 : i < l.length := by have := (List.getElem?_eq_some_iff.1 h).1; simpa using this
 rw [List.getElem?_reverse h1] at h
 exact ⟨h1, h⟩

theorem rev_getElem? {l : List Nat} {i x : Nat} (h : l[i]? = some x) : i < l.length ∧ l.reverse[l.length - 1 - i]? = some x := by
 have h1 : i < l.length := (List.getElem?_eq_some_iff.1 h).1
 refine ⟨h1, ?_⟩
 rw [List.getElem?_reverse (by omega), show l.length - 1 - (l.length - 1 - i) = i by omega]
 exact h

theorem OrdIs.ord {F : FV} {L : List Nat} (h : OrdIs F L) : Ord F L := by
 rcases h with ⟨h0, rfl⟩ | ⟨h0, d, m, hr, rfl⟩
 ·exact ⟨by simp, by simp, fun h => by omega, by simp, by simp, by simp, by simp⟩
 ·have hr2 : Rest (su F) [0] [] (fun _ => false) (d ++ [0]) m := .go rfl hr (.nil _ _)
  obtain ⟨e, he, T⟩ := hr2.told
  rw [List.nil_append] at he
  have h0e : (d ++ [0])[d.length]? = some 0 := by simp
  subst he
  have hpar : ∀ i x : Nat, (d ++ [0]).reverse[i]? = some x → x = 0 ∨ ∃ j y : Nat, j < i ∧ (d ++ [0]).reverse[j]? = some y ∧ x ∈ su F y := by
   intro i x hx
   obtain ⟨h1, h2⟩ := getElem?_rev hx
   rcases T.par _ x h2 with h | ⟨j, y, hj, hy, hxy⟩
   ·left; simpa using h
   ·obtain ⟨h3, h4⟩ := rev_getElem? hy
    exact .inr ⟨_, y, by omega, h4, hxy⟩
  refine ⟨(by unfold List.Nodup; rw [List.pairwise_reverse]; exact List.Pairwise.imp (fun h => Ne.symm h) T.nd), fun x hx => ?_, fun _ => by simp, fun x hx t ht => ?_, hpar, fun x hx => ?_, fun i x hx t ht => ?_⟩
  ·obtain ⟨i, hi, hx'⟩ := List.getElem_of_mem hx
   rcases hpar i x (by rw [List.getElem?_eq_getElem hi, hx']) with h | ⟨j, y, _, _, hxy⟩
   ·omega
   ·exact su_lt F y x hxy
  ·rw [List.mem_reverse] at hx ⊢
   rcases (T.met t).1 (T.shut x hx t ht) with h | h
   ·cases h
   ·exact h
  ·rw [List.mem_reverse] at hx
   obtain ⟨y, hy, hw⟩ := T.from_ x hx
   obtain rfl : y = 0 := by simpa using hy
   exact hw
  ·obtain ⟨h1, h2⟩ := getElem?_rev hx
   rcases T.back _ x h2 t ht with h | ⟨j, hj, hy⟩ | h
   ·cases h
   ·obtain ⟨h3, h4⟩ := rev_getElem? hy
    exact .inl ⟨_, by omega, h4⟩
   ·exact .inr h

theorem Ord.len {F : FV} {L : List Nat} (h : Ord F L) : L.length ≤ F.blk.n := length_le_of_lt _ _ h.nd h.lt

theorem Ord.mem {F : FV} {L : List Nat} (h : Ord F L) (h0 : 0 < F.blk.n) (x : Nat) : x ∈ L ↔ Way (su F) 0 x := by
 refine ⟨h.way x, fun hw => ?_⟩
 induction hw with
 | refl => exact List.mem_of_getElem? (h.zero h0)
 | step _ hc ih => exact h.shut _ ih _ hc

abbrev pos (L : List Nat) (x : Nat) : Nat := L.idxOf x

def stepBack (F : FV) (L : List Nat) : Prop := ∃ i x, L[i]? = some x ∧ ∃ t ∈ su F x, pos L t ≤ i

theorem mem_take_succ {l : List Nat} {t i x : Nat} (hx : l[t]? = some x) : i ∈ l.take (t + 1) ↔ i ∈ l.take t ∨ i = x := by
 obtain ⟨ht, hx⟩ := List.getElem?_eq_some_iff.1 hx
 subst hx
 rw [List.take_succ_eq_append_getElem ht, List.mem_append, List.mem_singleton]

theorem getD_some {L : List Nat} {k : Nat} (hk : k < L.length) : L[k]? = some (L.getD k 0) := by simp [List.getD, hk]

theorem Mine.at_ {base top : Nat} {w : World} {s : Sl} (h : Mine base top w s) : ∀ b off, s.a = some ⟨b, off, none⟩ → 0 < s.n → base ≤ b ∧ b < top := h.ge

set_option maxRecDepth 10000 in
set_option maxHeartbeats 1000000 in
theorem reach_flow (F : FV) (L : List Nat) (w : World) (hL : OrdIs F L) (hF : In w F) (hl : Light F) (hj : Jng F) :
  Calls Tryz.prog 129 #[F.val] w fun e w' => ReachIs F.blk.n (fun i => decide (i ∈ L)) w e w' := by
 have HF := hid hF
 have HL := hid hl
 have HJ := hid hj
 have OI := hid hL
 have OD := hid hL.ord
 have gb := hl.blk
 have hmk := run_make_row' (P := Tryz.prog) 153 4 (.bool false) 1 underlying153 info4 rfl .i64 .i64 F.blk.n (by omega) (by omega)
 have hrow : ((w.alloc (.cells (fcells F) 36)).alloc (.cells (madeCells #[.bool false] F.blk.n) 4)).rowIs (w.heap.size + 1) 4 F.blk.n (fun _ => .bool false) := by
  have := World.rowIs_made (w.alloc (.cells (fcells F) 36)) (.bool false) F.blk.n 4
  simpa using this
 have HR := hid hrow
 clear hF hl hj hL hrow
 go_enter Tryz.func129, Tryz.ntmps129
 go_wp2_with fail
 refine (order_flow F L _ OI.out (HF.out.on (new (new (same w) _) _)) HL.out HJ.out).mono ?_
 rintro e w1 ⟨s, rfl, hsn, hsi, hsm, hb1⟩
 have hr1 := HR.out.of_block (hb1.block _ (by simp))
 have hb2 := View.more (new (new (same w) _) _) hb1
 have hz := hb1.size
 simp only [World.size_alloc] at hz hsm
 have hs16 : s.n ≤ 48 := by have := OD.out.len; omega
 have R1 := hid hr1
 have B2 := hid hb2
 have SI := hid hsi
 have SM := hid hsm
 have SN := hid hsn
 clear hmk HR hr1 hb2 hsi hsm hb1 hsn
 go_wp2_with fail
 go_loopw [13] (fun i wr => ∃ k : Nat, k ≤ s.n ∧ i = .int .i64 k ∧ wr.rowIs (w.heap.size + 1) 4 F.blk.n (fun i => .bool (decide (i ∈ L.take k))) ∧ Ints wr s (fun i => ((L.getD i 0 : Nat) : Int)) ∧ Below w.heap.size w wr) (fun i _ => s.n - (intOf i).toNat)
 case atStart => exact ⟨0, Nat.zero_le _, rfl, R1.out.congr (fun i hi => by simp), SI.out, B2.out⟩
 case round =>
  clear R1 B2 SI
  obtain ⟨k, hk, rfl, hr, hi, hb⟩ := hrel
  have HR := hid hr
  have HI := hid hi
  clear hr hi
  by_cases hlt : k < s.n
  ·obtain ⟨ib, io, hiy, hcell⟩ := HI.out.at hlt
   have hkL : k < L.length := by have := SN.out; omega
   have hx : L.getD k 0 < F.blk.n := OD.out.lt _ (getD_mem hkL)
   have hstep := fun i => mem_take_succ (i := i) (getD_some hkL)
   obtain ⟨X, hX⟩ : ∃ X, L.getD k 0 = X := ⟨_, rfl⟩
   simp only [hX] at hcell hx hstep
   have hbl := bool_at (g := w.heap.size + 1) hx
   have hrc := HR.out.cell hx
   have hrf := HR.out.frozen X
   have STP := hid hstep
   clear hX hstep
   go_wp2_with fail
   go_round
   case rel =>
    refine ⟨k + 1, by omega, by go_num, (HR.out.set X (.bool true)).congr (fun i hi => ?_), HI.out.kept ((Kept.refl (fun b => w.heap.size + 2 ≤ b) wr).setCell (by show ¬ (_ ≤ w.heap.size + 1); omega) _) (fun b off h h0 => (SM.out.ge b off h h0).1), hb.setCell (by show _ ≤ w.heap.size + 1; omega) _⟩
    have := STP.out i
    by_cases e : i = X
    ·simp [e] at this ⊢; exact this
    ·simp only [e, if_false]; congr 1; simp [this, e]
   case measure => simp [intOf]; omega
  ·obtain rfl : k = s.n := by omega
   go_wp2_with fail
   go_ret
   exact ⟨w.heap.size + 1, rfl, HR.out.congr (fun i hi => by rw [SN.out, List.take_length]), by omega, hb⟩

end Go.Proofs.YtnodofbpogcheaaGreat.Flo

namespace Go.Proofs.YtnodofbpogcheaaGreat.Wf
open Go.RowKit View Rd Num Opn Copy Srt Go.Proofs.YtnodofbpogcheaaGreat.Mod Go.Proofs.YtnodofbpogcheaaGreat.Chk Go.Proofs.YtnodofbpogcheaaGreat.Flo

set_option linter.unusedVariables false

set_option maxHeartbeats 1000000 in
theorem indexB_any (M n : Nat) (f : Nat → Bool) (w : World) (hr : w.rowIs M 4 n (fun i => .bool (f i))) (hn : n ≤ 1000) :
  Calls Tryz.prog 162 #[.slice (some ⟨M, 0, none⟩) n n, .bool false] w fun e w' => ∃ r : Int, e = .returned (.int .i64 r) ∧ (0 ≤ r ↔ ∃ k, k < n ∧ f k = false) ∧ Below w.heap.size w w' := by
 have HR := hid hr
 clear hr
 go_enter Tryz.func162, Tryz.ntmps162
 go_wp2_with fail
 go_loopw [8] (fun iv wr => ∃ k : Nat, k ≤ n ∧ iv = .int .i64 k ∧ (∀ i, i < k → f i = true) ∧ Below w.heap.size w wr) (fun iv _ => n - (intOf iv).toNat)
 case atStart => exact ⟨0, Nat.zero_le _, rfl, fun i hi => by omega, same w⟩
 case round =>
  obtain ⟨k, hk, rfl, hall, hb⟩ := hrel
  have HA := hid (And.intro hall hb)
  by_cases lk : k < n
  ·have hrb := cell_on hb (HR.out.cell lk)
   have hba := bool_at (g := M) lk
   clear hall hb
   cases hf : f k with
   | false =>
    rw [hf] at hrb
    have HF := hid hf
    clear hf
    go_wp2_with fail
    go_ret
    exact ⟨k, rfl, ⟨fun _ => ⟨k, lk, HF.out⟩, fun _ => by omega⟩, HA.out.2⟩
   | true =>
    rw [hf] at hrb
    have HF := hid hf
    clear hf
    go_wp2_with fail
    go_round
    case rel => exact ⟨k + 1, by omega, by go_num, upto1 HA.out.1 HF.out, HA.out.2⟩
    case measure => simp [intOf]; omega
  ·obtain rfl : k = n := by omega
   clear hall hb
   go_wp2_with fail
   go_ret
   exact ⟨-1, rfl, ⟨fun h => by omega, fun ⟨i, h1, h2⟩ => by rw [HA.out.1 i h1] at h2; cases h2⟩, HA.out.2⟩

set_option maxHeartbeats 1000000 in
theorem containsB_any (M n : Nat) (f : Nat → Bool) (w : World) (hr : w.rowIs M 4 n (fun i => .bool (f i))) (hn : n ≤ 1000) :
  Calls Tryz.prog 128 #[.slice (some ⟨M, 0, none⟩) n n, .bool false] w fun e w' => Ans (fun r => r = true ↔ ∃ k, k < n ∧ f k = false) w e w' := by
 go_enter Tryz.func128, Tryz.ntmps128
 go_wp2_with fail
 refine (indexB_any M n f w hr hn).mono ?_
 rintro e w1 ⟨r, rfl, hr, hb⟩
 have HR := hid hr
 have HB := hid hb
 clear hr hb
 go_wp2_with fail
 go_ret
 exact ⟨decide (0 ≤ r), rfl, by rw [← HR.out]; simp, HB.out⟩

def EntP (F : FV) (b k : Nat) : Prop := (F.I b k).op = 26 → (F.I b k).into.n = (pvL F F.blk.n b).length ∧ ∀ i, i < (F.I b k).into.n → F.J b k i = ((pvL F F.blk.n b).getD i 0 : Nat)

def EntF (F : FV) : Prop := ∀ b, b < F.blk.n → ∀ k, k < (F.B b).n → EntP F b k

theorem mem_nxt {n : Nat} {f : Nat → Int} {x : Nat} : ∀ {k : Nat}, x ∈ nxt n f k → ∃ i, i < k ∧ f i = (x : Int)
 | 0, h => by simp [nxt] at h
 | k + 1, h => by
  by_cases q : 0 ≤ f k ∧ f k < n ∧ (f k).toNat ∉ nxt n f k
  ·rw [nxt_yes q.1 q.2.1 q.2.2, List.mem_append, List.mem_singleton] at h
   rcases h with h | h
   ·obtain ⟨i, h1, h2⟩ := mem_nxt h
    exact ⟨i, by omega, h2⟩
   ·exact ⟨k, by omega, by omega⟩
  ·rw [nxt_no q] at h
   obtain ⟨i, h1, h2⟩ := mem_nxt h
   exact ⟨i, by omega, h2⟩

theorem none_to0 {F : FV} (h : ∀ b, b < F.blk.n → FlowE F b) : pvL F F.blk.n 0 = [] := by
 rw [List.eq_nil_iff_forall_not_mem]
 intro a ha
 obtain ⟨h1, h2⟩ := mem_pvL.1 ha
 unfold su at h2
 rw [if_pos h1] at h2
 obtain ⟨i, hi, e⟩ := mem_nxt h2
 have hi' : i < (F.I a ((F.B a).n - 1)).into.n := by
  unfold led at hi
  split at hi
  ·simp at hi
  ·split at hi
   ·exact hi
   ·simp at hi
 have := ((h a h1).1 i hi').1
 omega

theorem phi_one {v : IV} (h : formB v = true) (ho : v.op = 26) : 1 ≤ v.into.n := by
 have hs : swB v = true := by
  unfold formB at h
  simp only [Bool.and_eq_true] at h
  exact h.1.1.2
 unfold swB at hs
 rw [if_pos ho] at hs
 simp at hs
 omega

theorem flowF_iff {F : FV} (hf : FormF F) : FlowF F ↔ (∀ b, b < F.blk.n → RowB (F.B b) (F.I b) ∧ FlowE F b) ∧ (∀ b, b < F.blk.n → Flo.Way (su F) 0 b) ∧ EntF F := by
 constructor
 ·rintro ⟨h1, h2⟩
  exact ⟨fun b hb => ⟨⟨(h1 b hb).1, (h1 b hb).2.1⟩, (h1 b hb).2.2⟩, fun b hb => (h2 b hb).1, fun b hb k hk ho => ((h2 b hb).2 k hk ho).2⟩
 ·rintro ⟨h1, h2, h3⟩
  refine ⟨fun b hb => ⟨(h1 b hb).1.1, (h1 b hb).1.2, (h1 b hb).2⟩, fun b hb => ⟨h2 b hb, fun k hk ho => ⟨?_, h3 b hb k hk ho⟩⟩⟩
  rintro rfl
  have := (h3 0 hb k hk ho).1
  rw [none_to0 (fun b hb => (h1 b hb).2)] at this
  have := phi_one (hf.2.2 0 hb k hk) ho
  simp at *
  omega

set_option maxRecDepth 10000 in
set_option maxHeartbeats 4000000 in
theorem entryFault_any (F : FV) (w : World) (hF : In w F) (hl : Light F) (hj : Jng F) : Calls Tryz.prog 130 #[F.val] w fun e w' => Ans (fun r => r = true ↔ ¬ EntF F) w e w' := by
 have gb := hl.blk
 obtain ⟨W, hW⟩ : ∃ W, w.alloc (.cells (fcells F) 36) = W := ⟨_, rfl⟩
 have FW := hid (show FuncAt W w.heap.size F by rw [← hW]; exact FuncAt.alloc w F)
 have HF := hid (show In W F by rw [← hW]; exact hF.on (new (same w) _))
 have LW := hid (show Below w.heap.size w W by rw [← hW]; exact new (same w) _)
 have HL := hid hl
 have HJ := hid hj
 have HWW := hid hW
 have YES := hid (show ∀ wx, Below W.heap.size W wx → ¬ EntF F → Ans (fun r => r = true ↔ ¬ EntF F) w (.returned (.bool true)) wx from fun wx h hn => ⟨true, rfl, by simp [hn], View.more LW.out h⟩)
 obtain ⟨f0, f1, f2, f3, f4⟩ := FW.out
 clear hF hl hj hW
 go_enter Tryz.func130, Tryz.ntmps130
 go_wp2_with fail
 simp only [HWW.out]
 clear HWW
 refine (prev_flow F W HF.out HL.out HJ.out).mono ?_
 rintro e w2 ⟨PM, R, rfl, hpv, hM2, hb2⟩
 have HR2 := hid hpv
 have ST := hid hb2
 clear hpv hM2 hb2 f0 f1 f2 f3 f4
 go_wp2_with fail
 go_loopw [10] (fun iv wr => ∃ b : Nat, b ≤ F.blk.n ∧ iv = .int .i64 b ∧ (∀ t, t < b → ∀ k, k < (F.B t).n → EntP F t k) ∧ Below w2.heap.size w2 wr) (fun iv _ => F.blk.n - (intOf iv).toNat)
 case atStart => exact ⟨0, Nat.zero_le _, rfl, fun t ht => by omega, same _⟩
 case round =>
  obtain ⟨b, hb0, rfl, hall, hb⟩ := hrel
  have HA := hid (And.intro hall hb)
  obtain ⟨f0, f1, f2, f3, f4⟩ := FW.out.on (View.more ST.out hb)
  by_cases lb : b < F.blk.n
  ·obtain ⟨rb, ro, hrx, hrc0⟩ := HF.out.blk.at lb
   have hrc := cell_on (View.more ST.out hb) hrc0
   have gi := HL.out.ins b lb
   have hpc := cell_on hb (HR2.out.row.cell lb)
   have hpx := prevs_at (g := PM) lb
   clear hall hb hrc0
   go_wp2_with fail
   clear f0 f1 f2 f3 f4 hrc hpc hpx
   go_loopw [22] (fun iv wx => ∃ k : Nat, k ≤ (F.B b).n ∧ iv = .int .i64 k ∧ (∀ t, t < k → EntP F b t) ∧ Below w2.heap.size w2 wx) (fun iv _ => (F.B b).n - (intOf iv).toNat)
   case atStart => exact ⟨0, Nat.zero_le _, rfl, fun t ht => by omega, HA.out.2⟩
   case round =>
    obtain ⟨k, hk0, rfl, hall, hb⟩ := hrel
    have HK := hid (And.intro hall hb)
    by_cases lk : k < (F.B b).n
    ·obtain ⟨ib, io, hiy, c0, c1, c2, c3, c4, c5, c6⟩ := ((HF.out.ins b lb).on (View.more ST.out hb)).at lk
     have hPL := pvL_le F F.blk.n b
     obtain ⟨hPI, hPN⟩ := HR2.out.ints lb (by omega)
     have L2 := hid (show Below w2.heap.size w2 (wr.alloc (.cells (F.I b k).cells 43)) from new HK.out.2 _)
     have IPV := hid (hPI.on L2.out)
     have IIN := hid ((HF.out.into b lb k lk).on (View.more ST.out L2.out))
     have NPV := hid hPN
     have g20 := HL.out.into b lb k lk
     clear hall hb hPI hPN hPL
     by_cases h26 : (F.I b k).op = 26
     ·have t26 : ((F.I b k).op == 26) = true := by simp [h26]
      have H26 := hid h26
      clear h26
      go_wp2_with fail
      refine (equal33 (F.I b k).into (R b) (F.J b k) (fun i => (((pvL F F.blk.n b).getD i 0 : Nat) : Int)) _ IIN.out IPV.out (by omega)).mono ?_
      rintro e w9 ⟨r, rfl, hr, q, rfl⟩
      have HR := hid hr
      have B9 := hid (View.more L2.out (below_drewN' _ q))
      clear hr
      cases r with
      | true =>
       have HP := hid (show EntP F b k from fun _ => by
        have hq := HR.out.1 rfl
        exact ⟨by rw [hq.1]; exact NPV.out, hq.2⟩)
       go_wp2_with fail
       go_round
       case rel => exact ⟨k + 1, by omega, by go_num, upto1 HK.out.1 HP.out, B9.out⟩
       case measure => simp [intOf]; omega
      | false =>
       have HN := hid (show ¬ EntF F from fun h => by
        have := h b lb k lk H26.out
        exact absurd (HR.out.2 ⟨by rw [this.1]; exact NPV.out.symm, this.2⟩) (by simp))
       go_wp2_with fail
       go_ret
       exact YES.out _ (View.more ST.out B9.out) HN.out
     ·have t26 : ((F.I b k).op == 26) = false := by simp [h26]
      have HP := hid (show EntP F b k from fun h => absurd h h26)
      clear h26
      go_wp2_with fail
      go_round
      case rel => exact ⟨k + 1, by omega, by go_num, upto1 HK.out.1 HP.out, L2.out⟩
      case measure => simp [intOf]; omega
    ·obtain rfl : k = (F.B b).n := by omega
     clear hall hb
     go_wp2_with fail
     go_round
     case rel =>
      have g := upto1 (p := fun t => ∀ k, k < (F.B t).n → EntP F t k) HA.out.1 HK.out.1
      first
       | exact ⟨b + 1, by omega, by go_num, g, HK.out.2⟩
       | ((repeat apply Exists.intro); exact ⟨⟨b + 1, by omega, by go_num, g, HK.out.2⟩, rfl⟩)
     case measure => simp [intOf]; omega
  ·obtain rfl : b = F.blk.n := by omega
   clear hall hb
   go_wp2_with fail
   go_ret
   exact ⟨false, rfl, ⟨fun h => absurd h (by simp), fun h => absurd HA.out.1 h⟩, View.more LW.out (View.more ST.out HA.out.2)⟩

end Go.Proofs.YtnodofbpogcheaaGreat.Wf
