/-
  Depth first: flow.Order.
-/
import Derived.Test.YtbmfimojhcdnbaaFloO
import Derived.Test.YtbmfimojhcdnbaaFloB
namespace Go.Proofs.Ytbmfimojhcdnbaa.Flo
open Go.RowKit View Rd Copy Num Ty Srt

set_option linter.unusedVariables false

theorem info77 : (Try.prog.info? 77).map (fun i => (i.zero, i.size, i.bytes)) = some (some (.agg #[.int .i64 0, .slice none 0 0]), 2, 32) := by kernel_rfl
theorem size77 : (Try.prog.info? 77).map (fun i => i.size) = some 2 := by kernel_rfl
theorem underlying78 : Try.prog.underlying 78 = some (.slice 77) := by kernel_rfl

/-- One more laid on the way. -/
theorem append_visit {ops : Array Oper} {rest : List Oper} {o : Oper} {a : Act} {Q : Exit → Act → World → Prop} {w : World} (hgd : o.guard = none) (s x : Operand)
    (ho : o.op = .call { callee := .builtin .append, args := #[s, x], argTypes := #[78, 78] })
    (base : Nat) (v : Value) (n : Nat) (xs : List Value) (hs : a.eval s = v) (y : Int) (t : Sl) (hown : w.ownsRow base 77 2 v n xs)
    (hx : a.eval x = .slice (some ⟨w.heap.size, 0, none⟩) 1 1)
    (hsm : n ≤ 1000000) (hbase : base ≤ w.heap.size)
    (h : ∀ v' w', w'.ownsRow base 77 2 v' (n + 1) (xs ++ [.int .i64 y, Sl.val t]) → (w.alloc (.cells #[.int .i64 y, Sl.val t] 77)).grownBy w' v.ownBlock → (v'.ownBlock = v.ownBlock ∨ v'.ownBlock = some (w.heap.size + 1)) → wpList Try.prog ops Q rest (a.put o.dst v') w') : wpList Try.prog ops Q (o :: rest) a (w.alloc (.cells #[.int .i64 y, Sl.val t] 77)) := by
  obtain ⟨i0, hi, hz0, hz1, hz2⟩ := info_parts info77
  refine wpList_append_own_at _ hgd s x 78 ho base 77 i0 (.agg #[.int .i64 0, .slice none 0 0]) 2 32 underlying78 hi hz0 hz1 hz2 rfl (by decide) v _ _ hs (hown.alloc _) ⟨w.heap.size, 0, none⟩ 1 1 [.int .i64 y, Sl.val t] hx rfl (cell_two_new _ _ _ _) (by intro u hu; simp at hu; rcases hu with rfl | rfl <;> rfl) (by simp only [maxLen]; omega) (by omega) (by simp; omega) ?_
  intro v' w' h1 h2 _ h4
  exact h v' w' h1 h2 (by simpa using h4)

/-- The top of the way as it lies. -/
theorem OrdM.top {F : FV} {A0 : Nat} {dv : Value} {wr : World} {d : List Nat} {m : Nat → Bool} {W : List Ent} {e : Ent} {g cap : Nat} (h : OrdM F A0 dv (.slice (some ⟨g, 0, none⟩) (W ++ [e]).length cap) wr d m (W ++ [e])) :
    wr.cell? ⟨g, W.length * 2, none⟩ = some (.int .i64 e.b) ∧ wr.cell? ⟨g, W.length * 2 + 1, none⟩ = some (.slice e.s.a e.s.n e.s.c) ∧ (∀ i, wr.frozen? ⟨g, i, none⟩ = false) ∧ A0 + 2 ≤ g ∧ g < wr.heap.size ∧ (W.length + 1 ≤ cap) := by
  have hc := h.wy.cells (g := g) rfl
  have hl := h.wy.lt g rfl
  have e1 : (flatW (W ++ [e]))[W.length * 2]? = some (.int .i64 e.b) := by rw [flatW_snoc, List.getElem?_append_right (by rw [flatW_length]; omega), flatW_length]; simp
  have e2 : (flatW (W ++ [e]))[W.length * 2 + 1]? = some (Sl.val e.s) := by rw [flatW_snoc, List.getElem?_append_right (by rw [flatW_length]; omega), flatW_length]; simp
  have k1 := hc _ _ e1
  have k2 := hc _ _ e2
  rw [Addr.add_lit] at k1 k2
  refine ⟨by simpa using k1, by simpa using k2, fun i => ?_, hl.1, hl.2, ?_⟩
  · rcases h.wy.2 with ⟨h0, _⟩ | ⟨g', c', cur, hv, _, hg, _⟩
    · cases h0
    · cases hv; simp [World.frozen?, hg]
  · rcases h.wy.2 with ⟨h0, _⟩ | ⟨g', c', cur, hv, _, hg, hn, _⟩
    · cases h0
    · cases hv; simpa using hn

theorem way_at {g n cap x : Nat} (hx : x < n) : ∀ wx, (Instr.indexAt 78 (.slice (some ⟨g, 0, none⟩) n cap) (.int .i64 x)).run Try.prog wx = .ok (.pointer (some ⟨g, x * 2, none⟩)) wx := by
  have := index_row (s := ⟨some ⟨g, 0, none⟩, n, cap⟩) rfl underlying78 size77 hx
  simpa using this

/-- What Order is. -/
def OrdIs (F : FV) (L : List Nat) : Prop :=
  (F.blk.n = 0 ∧ L = []) ∨ (0 < F.blk.n ∧ ∃ d m, Rest (su F) (su F 0) [] (upd (fun _ => false) 0) d m ∧ L = (d ++ [0]).reverse)

theorem ord_ex (F : FV) : ∃ L, OrdIs F L := by
  by_cases h : F.blk.n = 0
  · exact ⟨[], .inl ⟨h, rfl⟩⟩
  · obtain ⟨d, m, hr⟩ := rest_ex (N := su F) (n := F.blk.n) (su_lt F) _ (su F 0) (su_lt F 0) [] (upd (fun _ => false) 0) rfl
    exact ⟨_, .inr ⟨by omega, d, m, hr, rfl⟩⟩

theorem OrdM.start {F : FV} {w w1 : World} {s : Sl} (h0 : 0 < F.blk.n) (hsn : s.n = (su F 0).length) (hsi : Ints w1 s (fun i => (((su F 0).getD i 0 : Nat) : Int)))
    (hsm : Mine ((w.alloc (.cells (fcells F) 33)).alloc (.cells ((madeCells #[.bool false] F.blk.n).setIfInBounds 0 (.bool true)) 4)).heap.size w1.heap.size w1 s)
    (hb1 : Below ((w.alloc (.cells (fcells F) 33)).alloc (.cells ((madeCells #[.bool false] F.blk.n).setIfInBounds 0 (.bool true)) 4)).heap.size ((w.alloc (.cells (fcells F) 33)).alloc (.cells ((madeCells #[.bool false] F.blk.n).setIfInBounds 0 (.bool true)) 4)) w1) :
    OrdM F w.heap.size (.slice none 0 0) (.slice (some ⟨w1.heap.size, 0, none⟩) 1 1) (w1.alloc (.cells #[.int .i64 0, .slice s.a s.n s.c] 77)) [] (upd (fun _ => false) 0) [⟨0, s, su F 0⟩] := by
  have hz := hb1.size
  simp only [World.size_alloc] at hz
  refine ⟨World.ownsRow_nil _ _ _ _, ?_, ?_, ((FuncAt.alloc w F).on (new (same _) _) |>.on hb1).on (new (same _) _), ?_, ⟨_, _, rfl⟩⟩
  · have := World.ownsRow_lit (base := w.heap.size + 2) (size := 2) (e := 77) w1 #[.int .i64 0, .slice s.a s.n s.c] 1 (by omega) (by decide) rfl
    simpa [flatW] using this
  · have hr : ((w.alloc (.cells (fcells F) 33)).alloc (.cells ((madeCells #[.bool false] F.blk.n).setIfInBounds 0 (.bool true)) 4)).rowIs (w.heap.size + 1) 4 F.blk.n (fun i => .bool (upd (fun _ => false) 0 i)) := by
      refine ⟨(madeCells #[.bool false] F.blk.n).setIfInBounds 0 (.bool true), ?_, by simp [size_madeCells], fun i hi => ?_⟩
      · have := Deep.blk_alloc_new (w.alloc (.cells (fcells F) 33)) (.cells ((madeCells #[.bool false] F.blk.n).setIfInBounds 0 (.bool true)) 4)
        simpa using this
      · rw [Array.getElem?_setIfInBounds]
        by_cases e : 0 = i
        · subst e; simp [size_madeCells, h0, upd]
        · rw [if_neg e]
          have e' : ¬ i = 0 := fun h => e h.symm
          simp [madeCells, hi, Nat.mod_one, upd, e']
    exact (hr.of_block (hb1.block _ (by simp))).alloc _
  · intro e he
    simp at he
    subst he
    refine ⟨h0, hsn, hsi.on (new (same _) _), su_lt F 0, fun hp => ?_⟩
    obtain ⟨g, h1, h2, h3, _⟩ := hsm hp
    simp only [World.size_alloc] at h2
    refine ⟨g, 0, h1, by omega, by simp; omega, by simp [Value.ownBlock], ?_⟩
    simp [Value.ownBlock]; omega

set_option maxRecDepth 10000 in
set_option maxHeartbeats 4000000 in
theorem order_flow (F : FV) (L : List Nat) (w : World) (hL : OrdIs F L) (hF : In w F) (hl : Light F) (hj : Jng F) :
    Calls Try.prog 22 #[F.val] w fun e w' => Gives L w e w' := by
  have HF := hid hF
  have HL := hid hl
  have HJ := hid hj
  have gb := hl.blk
  clear hF hl hj
  rcases hL with ⟨h0, rfl⟩ | ⟨h0, d1, m1, hR, rfl⟩
  · have t0 : ((F.blk.n : Int) == 0) = true := by simp [h0]
    have H0 := hid h0
    clear h0
    go_enter Try.func22, Try.ntmps22
    go_wp2
    go_ret
    exact gives_nil (new (same w) _)
  have t0 : ((F.blk.n : Int) == 0) = false := by simp; omega
  have hS : Stk (su F) [] (upd (fun _ => false) 0) (([] : List (Nat × List Nat)) ++ [(0, su F 0)]) (d1 ++ [0]) := .top hR (.nil _ _)
  obtain ⟨D, hD⟩ : ∃ D, d1 ++ [0] = D := ⟨_, rfl⟩
  rw [hD] at hS
  rw [hD]
  have HS := hid hS
  have hmk := run_make_row' (P := Try.prog) 45 4 (.bool false) 1 underlying45 info4 rfl .i64 .i64 F.blk.n (by omega) (by omega)
  have hb0 := bool_at (g := w.heap.size + 1) (x := 0) (n := F.blk.n) h0
  have hmc : (madeCells #[Value.bool false] F.blk.n)[0]? = some (.bool false) := by simp [madeCells, h0, Nat.mod_one]
  clear hR hD hS
  go_enter Try.func22, Try.ntmps22
  go_wp2_with fail
  refine (next_flow F 0 _ (HF.out.on (new (new (same w) _) _)) HL.out HJ.out).mono ?_
  rintro e w1 ⟨s, rfl, hsn, hsi, hsm, hb1⟩
  have esu : suI F 0 = su F 0 := suI_nat F 0
  rw [esu] at hsn hsi
  have hb2 := View.more (new (new (same w) _) _) hb1
  have hz := hb1.size
  simp only [World.size_alloc] at hz
  have om : OrdM F w.heap.size (.slice none 0 0) (.slice (some ⟨w1.heap.size, 0, none⟩) 1 1) (w1.alloc (.cells #[.int .i64 0, .slice s.a s.n s.c] 77)) [] (upd (fun _ => false) 0) [⟨0, s, su F 0⟩] := by
    refine OrdM.start (w := w) h0 hsn hsi hsm hb1
  have OM := hid om
  have B2 := hid hb2
  have hun : unmet (upd (fun _ => false) 0) F.blk.n + 1 = F.blk.n := by
    have := unmet_upd (m := fun _ => false) (t := 0) rfl (n := F.blk.n)
    rw [unmet_none, if_pos h0] at this
    omega
  have HU := hid hun
  clear hmk hb0 hmc om hb2 hsn hsi hsm hb1 hun esu
  go_wp2_with fail
  go_loopg [3, 5] (toCome (su F) (upd (fun _ => false) 0) F.blk.n + (su F 0).length + 1) (fun k dv wv wr => ∃ d m W, OrdM F w.heap.size dv wv wr d m W ∧ Stk (su F) d m (wy W) D ∧ Below w.heap.size w wr ∧ d.length + W.length + unmet m F.blk.n ≤ F.blk.n ∧ toCome (su F) m F.blk.n + pile (wy W) ≤ k)
  case atStart => exact ⟨_, _, _, OM.out, HS.out, new B2.out _, by have := HU.out; simp; omega, by simp [pile]; omega⟩
  case round =>
    clear OM B2 HS HU hz
    obtain ⟨d, m, W, ho, hs, hb, hc, hk⟩ := hrel
    obtain ⟨g, cap, hnn⟩ := ho.nn
    subst hnn
    have OM := hid ho
    have SK := hid hs
    have HC := hid hc
    have HK := hid hk
    clear ho hs hc hk
    rcases List.eq_nil_or_concat W with hW | ⟨W', e, hW⟩
    · subst hW
      have hd : D = d := SK.out.inv_nil
      subst hd
      have hdl : D.length ≤ 48 := by have := HC.out; omega
      clear HK HC
      obtain ⟨t, rfl, htn, hti, htm⟩ := ints_of_owns OM.out.dn (by simp; omega)
      have T1 := hid (And.intro hti htm)
      have htn' : t.n = D.length := by simpa using htn
      have HT := hid htn'
      have ht16 : t.n ≤ 48 := by omega
      clear hti htm htn htn'
      obtain ⟨g0, hg0, hga⟩ : ∃ g0, w.heap.size ≤ g0 ∧ (0 < t.n → t.a = some ⟨g0, 0, none⟩ ∧ g0 < wr.heap.size ∧ ∀ i, wr.frozen? ⟨g0, i, none⟩ = false) := by
        by_cases hp : 0 < t.n
        · obtain ⟨g0, a1, a2, a3, a4⟩ := T1.out.2 hp
          exact ⟨g0, by omega, fun _ => ⟨a1, a3, a4⟩⟩
        · exact ⟨w.heap.size, Nat.le_refl _, fun h => absurd h hp⟩
      have GA := hid hga
      clear hga
      go_wp2_with fail
      refine (reverse_any t g0 _ wr T1.out.1 (fun h => (GA.out h).1) (fun h => (GA.out h).2.1) (fun h => (GA.out h).2.2) (by omega)).mono ?_
      rintro e w5 ⟨rfl, hti5, htu⟩
      go_wp2_with fail
      go_ret
      refine ⟨t, rfl, by rw [HT.out, List.length_reverse], hti5.congr (fun i hi => ?_), fun hp => ?_, ?_⟩
      · have hi' : i < D.length := by rw [← HT.out]; exact hi
        show (ints D).getD (t.n - 1 - i) 0 = _
        rw [getD_ints D _ (by rw [HT.out]; omega), HT.out]
        congr 1
        have h2 : D.length - 1 - i < D.length := by omega
        simp [List.getD, hi', List.getElem?_eq_getElem h2]
      · obtain ⟨a1, a2, a3⟩ := GA.out hp
        exact ⟨g0, a1, hg0, by have := htu.size; omega, fun i => by rw [htu.froz _ a2]; exact a3 i⟩
      · exact ⟨htu.os.trans hb.os, htu.tape.trans hb.tape, htu.output.trans hb.output, Nat.le_trans hb.size htu.size, fun k hk => (htu.block k (by have := hb.size; omega) (by omega)).trans (hb.block k hk)⟩
    · simp only [List.concat_eq_append] at hW
      subst hW
      obtain ⟨b, s', l⟩ := e
      obtain ⟨h1, h2, h3, h4, h5, h6⟩ := OM.out.top
      have eok := OM.out.en ⟨b, s', l⟩ (by simp)
      have hlen : (W' ++ [(⟨b, s', l⟩ : Ent)]).length = W'.length + 1 := by simp
      obtain ⟨k, hkk⟩ : ∃ k, W'.length = k := ⟨_, rfl⟩
      rw [hkk] at h1 h2 h6 hlen
      rw [hlen]
      have hix := way_at (g := g) (cap := cap) (Nat.lt_succ_self k)
      have hfa := OM.out.fa
      have EOK := hid eok
      have HKK := hid (And.intro hkk hlen)
      have hkb : k < 48 := by have := HC.out; rw [hlen] at this; omega
      clear eok hkk hlen
      cases l with
      | nil =>
        have hsn : s'.n = 0 := EOK.out.len
        have t1 : ((s'.n : Int) == 0) = true := by simp [hsn]
        have HSN := hid hsn
        clear hsn
        have hdl : d.length ≤ 48 := by have := HC.out; omega
        go_wp2_with (at_builtin; refine append_at rfl (.tmp 37) (.tmp 40) rfl (w.heap.size + 2) u3 (ints d) rfl b (OM.out.alloc (.cells #[.int .i64 b, .slice s'.a s'.n s'.c] 77)).dn (by rw [World.size_alloc]; rfl) (by simp; omega) (by simp; omega) ?_; intro v2 w2 hown2 hgr2 hat2; have OW := hid (And.intro hown2 (And.intro hgr2 hat2)); clear hown2 hgr2 hat2)
        go_roundg (toCome (su F) m F.blk.n + pile (wy W'))
        case measure =>
          have h := HK.out
          simp only [wy, List.map_append, List.map_cons, List.map_nil] at h
          rw [pile_snoc] at h
          simp only [wy]
          omega
        case rel =>
          obtain ⟨o1, o2, o3⟩ := OW.out
          have hP := (OM.out.alloc (.cells #[.int .i64 b, .slice s'.a s'.n s'.c] 77)).pop rfl o1 o2 o3
          have hkk := HKK.out.1
          rw [hkk] at hP
          refine ⟨_, _, _, hP, ?_, ?_, ?_, Nat.le_refl _⟩
          · have := SK.out
            simp only [wy, List.map_append, List.map_cons, List.map_nil] at this
            exact this.pop
          · exact (new (new hb _) _).grown o2 (by simp; omega) (fun q hq => by have := (OM.out.dn.lt q hq).1; omega)
          · have := HC.out
            simp at this ⊢
            omega
      | cons x l =>
        have hsn : s'.n = l.length + 1 := EOK.out.len
        have t1 : ((s'.n : Int) == 0) = false := by simp; omega
        have hxn : x < F.blk.n := EOK.out.lt x (by simp)
        obtain ⟨ib, io, hiy, hcell⟩ := (EOK.out.ints.on (new (same _) (.cells #[.int .i64 b, .slice s'.a s'.n s'.c] 77))).at (k := 0) (by show 0 < s'.n; omega)
        simp only [List.getD_cons_zero] at hcell
        replace hiy : ∀ wx, (Instr.indexAt 28 (.slice s'.a s'.n s'.c) (.int .i64 0)).run Try.prog wx = .ok (.pointer (some ⟨ib, io, none⟩)) wx := hiy
        have htl := tl_run (s := s') EOK.out.ints (by omega)
        have O1 := hid (OM.out.shift rfl)
        rw [HKK.out.1] at O1
        have hbl := bool_at (g := w.heap.size + 1) hxn
        have hrc := OM.out.mt.cell hxn
        have hrf := OM.out.mt.frozen x
        have hml := OM.out.mt.lt
        have HSN := hid hsn
        clear hsn
        obtain ⟨c0, c1, c2, c3, c4⟩ := hfa
        have hwl : w.heap.size < wr.heap.size := by omega
        by_cases hm : m x = true
        · rw [hm] at hrc
          have HM := hid hm
          clear hm
          go_wp2_with fail
          go_roundg (toCome (su F) m F.blk.n + pile (wy (W' ++ [(⟨b, tl s', l⟩ : Ent)])))
          case measure =>
            have h := HK.out
            simp only [wy, List.map_append, List.map_cons, List.map_nil] at h ⊢
            rw [pile_snoc] at h ⊢
            simp at h ⊢
            omega
          case rel =>
            refine ⟨d, m, W' ++ [(⟨b, tl s', l⟩ : Ent)], ?_, ?_, ?_, ?_, Nat.le_refl _⟩
            · have := O1.out.alloc (.cells #[.int .i64 b, .slice s'.a s'.n s'.c] 77)
              rw [HKK.out.2] at this
              exact this
            · have := SK.out
              simp only [wy, List.map_append, List.map_cons, List.map_nil] at this ⊢
              exact this.skip HM.out
            · exact new (hb.setCell (by show w.heap.size ≤ g; omega) _) _
            · have := HC.out
              simp at this ⊢
              omega
        have hm' : m x = false := by simpa using hm
        rw [hm'] at hrc
        have HM := hid hm'
        clear hm hm'
        have O2 := hid ((O1.out.meet x).alloc (.cells #[.int .i64 b, .slice s'.a s'.n s'.c] 77))
        rw [HKK.out.2] at O2
        have b2 := new ((hb.setCell (p := ⟨g, k * 2 + 1, none⟩) (by show w.heap.size ≤ g; omega) (Sl.val (tl s'))).setCell (p := ⟨w.heap.size + 1, x, none⟩) (by show w.heap.size ≤ w.heap.size + 1; omega) (.bool true)) (.cells #[.int .i64 b, .slice s'.a s'.n s'.c] 77)
        have B2 := hid b2
        clear b2
        go_wp2_with fail
        refine (next_flow F x _ (HF.out.on B2.out) HL.out HJ.out).mono ?_
        rintro e w3 ⟨s3, rfl, hsn3, hsi3, hsm3, hb3⟩
        rw [suI_nat] at hsn3 hsi3
        have O3 := hid (O2.out.on hb3)
        have B3 := hid (View.more B2.out hb3)
        have hz3 := hb3.size
        simp only [World.size_alloc, World.size_setCell] at hz3 hsm3
        have E3 := hid (And.intro hsn3 (And.intro hsi3 hsm3))
        clear hsn3 hsi3 hsm3 hb3 c0 c1 c2 c3 c4 hrc hrf h1 h2 h3 hcell hiy htl
        go_wp2_with (at_builtin; refine append_visit rfl (.tmp 64) (.tmp 70) rfl (w.heap.size + 2) (.slice (some ⟨g, 0, none⟩) (k + 1) cap) (k + 1) (flatW (W' ++ [(⟨b, tl s', l⟩ : Ent)])) rfl x s3 (by have := O3.out.wy; simp only [List.length_append, List.length_cons, List.length_nil, HKK.out.1] at this; exact this) rfl (by omega) (by omega) ?_; intro v4 w4 hown4 hgr4 hat4; have OW := hid (And.intro hown4 (And.intro hgr4 hat4)); clear hown4 hgr4 hat4)
        go_roundg (toCome (su F) (upd m x) F.blk.n + pile (wy (W' ++ [(⟨b, tl s', l⟩ : Ent)] ++ [(⟨x, s3, su F x⟩ : Ent)])))
        case measure =>
          have h := HK.out
          have h' := toCome_upd (N := su F) HM.out hxn
          simp only [wy, List.map_append, List.map_cons, List.map_nil] at h ⊢
          rw [pile_snoc] at h
          rw [pile_snoc, pile_snoc]
          simp at h ⊢
          omega
        case rel =>
          obtain ⟨o1, o2, o3⟩ := OW.out
          obtain ⟨e1, e2, e3⟩ := E3.out
          have l1 := O2.out.dn.lt
          have l2 := O2.out.wy.lt
          simp only [World.size_alloc, World.size_setCell] at l1 l2
          have he : EntOk F.blk.n w3 w.heap.size u3.ownBlock (Value.slice (some ⟨g, 0, none⟩) (k + 1) cap).ownBlock ⟨x, s3, su F x⟩ := by
            refine ⟨hxn, e1, e2, su_lt F x, fun hp => ?_⟩
            obtain ⟨g3, a1, a2, a3, _⟩ := e3 hp
            exact ⟨g3, 0, a1, by omega, a3, fun e => by have := (l1 g3 e.symm).2; omega, fun e => by have := (l2 g3 e.symm).2; omega⟩
          have hlw : (W' ++ [(⟨b, tl s', l⟩ : Ent)]).length = k + 1 := by simp [HKK.out.1]
          refine ⟨d, upd m x, W' ++ [(⟨b, tl s', l⟩ : Ent)] ++ [(⟨x, s3, su F x⟩ : Ent)], O3.out.push he (by rw [hlw]; exact o1) o2 o3, ?_, ?_, ?_, Nat.le_refl _⟩
          · have := SK.out
            simp only [wy, List.map_append, List.map_cons, List.map_nil] at this ⊢
            exact this.push HM.out
          · exact (new B3.out _).grown o2 (by simp; omega) (fun q hq => by have := (l2 q hq).1; omega)
          · have h := HC.out
            have h' := unmet_upd HM.out (n := F.blk.n)
            rw [if_pos hxn] at h'
            simp at h ⊢
            omega

end Go.Proofs.Ytbmfimojhcdnbaa.Flo
