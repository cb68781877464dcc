/-
  A Phi's rows in order, by the document: plnref3.rise.
-/
import Derived.Test.YthaedlnefikigaaSortF
import Derived.BigQuiet
import Derived.Deep.QuietTactic
import Derived.BigRegion
import Derived.Deep.RegionHeld3
namespace Go.Proofs.Ythaedlnefikigaa.Srt
open Go.RowKit View Rd Copy

set_option linter.unusedVariables false

/-- An operation is taken first; where it leaves its value is told. -/
theorem takeAt {P : Program} {ops : Array Oper} {Q : Exit → Act → World → Prop} {md : Region.Mode} {S : World → Prop} {i : Nat} {oi : Oper} {d : Option Tmp} {v : Value} {fuel : Nat} {listed : Array Bool} {a : Act} {w : World} (hi : ops[i]? = some oi) (hd : oi.dst = d)
    (hs : Region.noSelect ops = true) (hf : Region.free md ops listed i = true) (hr : (Region.ready md ops listed).contains i = true)
    (hQ : ∀ c a w, Q (.panic c) (a.put d v) w → Q (.panic c) a w) (hy : YieldsIf P ops S oi v a) (hS : S w)
    (h : wpAnyH P md ops Q S fuel (listed.setIfInBounds i true) (a.put d v) w) : wpAnyH P md ops Q S (fuel + 1) listed a w := by
  subst hd
  exact wpAnyH_take hi hs hf hr hQ hy hS h

/-- Another condition, which says more, from here on. -/
theorem wpAnyH_switch {P : Program} {ops : Array Oper} {Q : Exit → Act → World → Prop} {md : Region.Mode} {S S' : World → Prop} (h : ∀ w, S' w → S w) :
    ∀ (fuel : Nat) (listed : Array Bool) (a : Act) (w : World), wpAnyH P md ops Q S' fuel listed a w → wpAnyH P md ops Q S fuel listed a w
  | 0, _, _, _, H => H
  | fuel + 1, _, _, _, H => ⟨H.1, fun i hi => wpOp_mono (fun a' w' h' => ⟨h w' h'.1, wpAnyH_switch h fuel _ a' w' h'.2⟩) (H.2 i hi)⟩

/-- What lies in the two rows behind what was done. -/
structure Rs (v : IV) (a j : Nat → Int) (ga gj : Nat) (W wr : World) (a' j' : Nat → Int) : Prop where
  ia : Ints wr v.args a'
  ij : Ints wr v.into j'
  sels : ∀ c, sel c a' j' v.into.n = sel c a j v.into.n
  turn : Turn (fun b => b = ga ∨ b = gj) W wr

theorem two_set {x : World} {s : Sl} {f : Nat → Int} {g i y : Nat} (h : Ints x s f) (hg : s.a = some ⟨g, 0, none⟩) (hy : y = i + 1) (hi : y < s.n) : Ints ((x.setCell ⟨g, i, none⟩ (.int .i64 (f y))).setCell ⟨g, y, none⟩ (.int .i64 (f i))).drew s (swp f i) := by
  subst hy
  have e1 := own_set (own_set h hg (k := i) (by omega) (f (i + 1))) hg (k := i + 1) hi (f i)
  exact (e1.congr (g := swp f i) (fun z _ => by simp only [swp])).on (Below.drew (same _))

theorem two_other {x : World} {s : Sl} {f : Nat → Int} {g i y : Nat} {a b : Value} (h : Ints x s f) (hne : ∀ b o, s.a = some ⟨b, o, none⟩ → 0 < s.n → b ≠ g) : Ints ((x.setCell ⟨g, i, none⟩ a).setCell ⟨g, y, none⟩ b).drew s f :=
  (own_other (own_other h (a := ⟨g, i, none⟩) hne a) (a := ⟨g, y, none⟩) hne b).on (Below.drew (same _))

theorem two_turn {p : Nat → Prop} {W x : World} {g i y : Nat} {a b : Value} (h : Turn p W x) (hg : p g) : Turn p W ((x.setCell ⟨g, i, none⟩ a).setCell ⟨g, y, none⟩ b).drew :=
  ((h.setCell (x := ⟨g, i, none⟩) (.inl hg) a).setCell (x := ⟨g, y, none⟩) (.inl hg) b).drew

theorem Rs.on {v : IV} {a j a' j' : Nat → Int} {ga gj : Nat} {W wr w' : World} (hb : Below wr.heap.size wr w') (h : Rs v a j ga gj W wr a' j') : Rs v a j ga gj W w' a' j' :=
  ⟨h.ia.on hb, h.ij.on hb, h.sels, h.turn.below hb⟩

theorem drewN_below (w : World) (q : Nat) : Below w.heap.size w (w.drewN q) := below_drewN' w q

/-- What rise gives, where the two are of one length. -/
def Risen (v : IV) (a j : Nat → Int) (w : World) (e : Ending) (w' : World) : Prop :=
  e = .returned v.val ∧ ∃ a' j', Ints w' v.args a' ∧ Ints w' v.into j' ∧ StSort a j a' j' v.into.n ∧ Turn (fun k => 0 < v.into.n ∧ ((∃ o, v.args.a = some ⟨k, o, none⟩) ∨ ∃ o, v.into.a = some ⟨k, o, none⟩)) w w'

set_option maxRecDepth 10000 in
set_option maxHeartbeats 2000000 in
theorem rise_any (v : IV) (a j : Nat → Int) (ga gj : Nat) (w : World) (ha : Ints w v.args a) (hj : Ints w v.into j) (hna : v.args.a = some ⟨ga, 0, none⟩) (hnj : v.into.a = some ⟨gj, 0, none⟩) (hne : ga ≠ gj) (hla : ga < w.heap.size) (hlj : gj < w.heap.size)
    (hfa : ∀ i, w.frozen? ⟨ga, i, none⟩ = false) (hfj : ∀ i, w.frozen? ⟨gj, i, none⟩ = false) (hn : v.args.n = v.into.n) (h0 : 0 < v.into.n) (h20 : v.into.n ≤ 20) :
    Calls Try.prog 54 #[v.val] w fun e w' => Risen v a j w e w' := by
  have hN : ((v.args.n : Int) != (v.into.n : Int)) = false := by simp; omega
  have PR := hid (And.intro hna (And.intro hnj (And.intro hne (And.intro hla (And.intro hlj (And.intro hfa (And.intro hfj hn)))))))
  have HA := hid ha
  have HJ := hid hj
  clear ha hj hna hnj hne hla hlj hfa hfj hn
  go_enter Try.func54, Try.ntmps54
  go_wp2_with fail
  obtain ⟨W, hW⟩ : ∃ W, (w.alloc (.cells v.cells 48)).alloc (.cells IV.zero.cells 48) = W := ⟨_, rfl⟩
  have b0 : Below w.heap.size w W := by rw [← hW]; exact new (new (same w) _) _
  have i0 : InsAt W w.heap.size 0 v := by rw [← hW]; exact (InsAt.alloc w v).on (new (same _) _)
  have z0 : InsAt W (w.heap.size + 1) 0 IV.zero := by rw [← hW]; have := InsAt.alloc (w.alloc (.cells v.cells 48)) IV.zero; simpa using this
  have f0 : ∀ i, W.frozen? ⟨w.heap.size + 1, i, none⟩ = false := fun i => by rw [← hW]; simp
  have zW : W.heap.size = w.heap.size + 2 := by rw [← hW]; simp
  rw [hW]
  clear hW
  have KF : Hid (∀ wr, Turn (fun b => b = ga ∨ b = gj) W wr → InsAt wr w.heap.size 0 v ∧ InsAt wr (w.heap.size + 1) 0 IV.zero ∧ ∀ i, wr.frozen? ⟨w.heap.size + 1, i, none⟩ = false) := fun wr t =>
    ⟨i0.kept t.kept ⟨by omega, by have := PR.out.2.2.2.1; have := PR.out.2.2.2.2.1; omega⟩, z0.kept t.kept ⟨by omega, by have := PR.out.2.2.2.1; have := PR.out.2.2.2.2.1; omega⟩, fun i => by rw [t.froz _ (by show w.heap.size + 1 < _; omega)]; exact f0 i⟩
  have FZ : Hid (∀ wr, Turn (fun b => b = ga ∨ b = gj) W wr → (∀ i, wr.frozen? ⟨ga, i, none⟩ = false) ∧ ∀ i, wr.frozen? ⟨gj, i, none⟩ = false) := fun wr t =>
    ⟨fun i => by rw [t.froz _ (by show ga < _; have := PR.out.2.2.2.1; omega), b0.frozen (by exact PR.out.2.2.2.1)]; exact PR.out.2.2.2.2.2.1 i, fun i => by rw [t.froz _ (by show gj < _; have := PR.out.2.2.2.2.1; omega), b0.frozen (by exact PR.out.2.2.2.2.1)]; exact PR.out.2.2.2.2.2.2.1 i⟩
  have st0 := hid (show Rs v a j ga gj W W a j from ⟨HA.out.on b0, HJ.out.on b0, fun _ => rfl, Turn.refl _ _⟩)
  have B0 := hid b0
  clear b0 i0 z0 f0 zW
  go_loopw [3] (fun i wr => ∃ k : Nat, 1 ≤ k ∧ k ≤ 21 ∧ i = .int .i64 k ∧ ∃ a' j', Rs v a j ga gj W wr a' j' ∧ Rises j' k) (fun i _ => v.into.n - (intOf i).toNat)
  case atStart => exact ⟨1, Nat.le_refl _, by omega, rfl, a, j, st0.out, fun x y h1 h2 => by omega⟩
  case round =>
    clear st0
    obtain ⟨k, hk1, hk, rfl, p1, q1, hst, hri⟩ := hrel
    obtain ⟨⟨c0, c1, c2, c3, c4, c5, c6⟩, ⟨d0, d1, d2, d3, d4, d5, d6⟩, f1⟩ := KF.out wr hst.turn
    have HS := hid (And.intro hst hri)
    clear hst hri
    by_cases hlt : k < v.into.n
    · go_wp2_with fail
      go_loopw [4] (fun i wx => ∃ y : Nat, y ≤ k ∧ i = .int .i64 y ∧ ∃ a' j', Rs v a j ga gj W wx a' j' ∧ Ins1 j' k y) (fun i _ => (intOf i).toNat)
      case atStart => exact ⟨k, Nat.le_refl _, rfl, p1, q1, HS.out.1, Ins1.start HS.out.2⟩
      case round =>
        clear HS c0 c1 c2 c3 c4 c5 c6 d0 d1 d2 d3 d4 d5 d6 f1
        obtain ⟨y, hy, rfl, p2, q2, hst, hin⟩ := hrel
        obtain ⟨⟨c0, c1, c2, c3, c4, c5, c6⟩, _, _⟩ := KF.out wr hst.turn
        have HS := hid (And.intro hst hin)
        clear hst hin
        rcases Nat.eq_zero_or_pos y with rfl | hy0
        · have HZ := hid (HS.out.2.done (Nat.zero_le _) (.inl rfl))
          go_wp2_with fail
          go_quiet (fail)
          go_wp2_with fail
          go_round
          case rel => exact ⟨k + 1, by omega, by omega, by go_num, p2, q2, HS.out.1.on (drewN_below _ _), HZ.out⟩
          case measure => simp [intOf]; omega
        · obtain ⟨i, hi⟩ : ∃ i, y = i + 1 := ⟨y - 1, by omega⟩
          obtain ⟨x1, y1⟩ := own_at HS.out.1.ij PR.out.2.1 (k := y) (by omega)
          obtain ⟨x2, y2⟩ := own_at HS.out.1.ij PR.out.2.1 (k := i) (by omega)
          obtain ⟨x3, y3⟩ := own_at HS.out.1.ia PR.out.1 (k := y) (by have := PR.out.2.2.2.2.2.2.2; omega)
          obtain ⟨x4, y4⟩ := own_at HS.out.1.ia PR.out.1 (k := i) (by have := PR.out.2.2.2.2.2.2.2; omega)
          have b0 : (0 : Int) < (y : Int) := by omega
          have b5 : IntKind.i64.wrap ((y : Int) - 1) = (i : Int) := by simp only [IntKind.wrap_i64]; omega
          have b6 : wrap64 ((y : Int) - 1) = (i : Int) := by unfold wrap64; omega
          have JI := hid hi
          clear hi
          by_cases hlv : q2 y < q2 i
          · have t1 : decide (q2 y < q2 i) = true := by simpa using hlv
            clear y3 y4
            go_wp2_with fail
            go_quiet (fail)
            have h2 := hid (HS.out.1.on (drewN_below wr nq))
            obtain ⟨wq, hwq⟩ : ∃ wq, wr.drewN nq = wq := ⟨_, rfl⟩
            rw [hwq] at h2 ⊢
            clear hwq c0 c1 c2 c3 c4 c5 c6 y1 y2
            obtain ⟨⟨c0, c1, c2, c3, c4, c5, c6⟩, _, _⟩ := KF.out wq h2.out.turn
            obtain ⟨f2, f3⟩ := FZ.out wq h2.out.turn
            have y1 := (own_at h2.out.ij PR.out.2.1 (k := y) (by omega)).2
            have y2 := (own_at h2.out.ij PR.out.2.1 (k := i) (by have := JI.out; omega)).2
            have s0 : (wq.setCell ⟨gj, i, none⟩ (.int .i64 (q2 y))).cell? ⟨gj, y, none⟩ = some (.int .i64 (q2 y)) := cell_other (ne_off (by have := JI.out; omega)) y1
            have s1 : (wq.setCell ⟨gj, i, none⟩ (.int .i64 (q2 y))).cell? ⟨w.heap.size, 6, none⟩ = some (.slice v.into.a v.into.n v.into.c) := cell_other (by intro e; have := congrArg Addr.block e; simp at this; have := PR.out.2.2.2.2.1; omega) c6
            have HLV := hid hlv
            clear hlv t1 x3 x4 c0 c1 c2 c3 c4
            go_wp2_with fail
            have u0 : wq.drew.cell? ⟨w.heap.size, 6, none⟩ = some (.slice v.into.a v.into.n v.into.c) := c6
            have u1 : (wq.drew.setCell ⟨gj, i, none⟩ (.int .i64 (q2 y))).cell? ⟨w.heap.size, 6, none⟩ = some (.slice v.into.a v.into.n v.into.c) := s1
            have u2 : ((wq.drew.setCell ⟨gj, i, none⟩ (.int .i64 (q2 y))).setCell ⟨gj, y, none⟩ (.int .i64 (q2 i))).cell? ⟨w.heap.size, 6, none⟩ = some (.slice v.into.a v.into.n v.into.c) := cell_other (by intro e; have := congrArg Addr.block e; simp at this; have := PR.out.2.2.2.2.1; omega) u1
            refine wp_region_noPanic ?_
            refine wp_region_held_drew (S := fun wx => wx.cell? ⟨w.heap.size, 6, none⟩ = some (.slice v.into.a v.into.n v.into.c)) (by kernel_rfl) u0 (fun hS => ?_)
            refine takeAt (i := 0) (d := some 39) (v := ?vn0) rfl (by rfl) (by kernel_rfl) (by kernel_rfl) (by kernel_rfl) (fun _ _ _ h => h) (Or.inl ⟨by rfl, ?yn0⟩) hS ?_
            case yn0 => intro wx hSw; (go_simp) <;> with_reducible rfl
            simp only [Act.put, List.setIfInBounds_toArray, List.set_cons_zero, List.set_cons_succ]
            refine takeAt (i := 1) (d := some 40) (v := ?vn1) rfl (by rfl) (by kernel_rfl) (by kernel_rfl) (by kernel_rfl) (fun _ _ _ h => h) (Or.inl ⟨by rfl, ?yn1⟩) hS ?_
            case yn1 => intro wx hSw; (go_simp) <;> with_reducible rfl
            simp only [Act.put, List.setIfInBounds_toArray, List.set_cons_zero, List.set_cons_succ]
            refine takeAt (i := 2) (d := some 41) (v := ?vn2) rfl (by rfl) (by kernel_rfl) (by kernel_rfl) (by kernel_rfl) (fun _ _ _ h => h) (Or.inl ⟨by rfl, ?yn2⟩) hS ?_
            case yn2 => intro wx hSw; (go_simp) <;> with_reducible rfl
            simp only [Act.put, List.setIfInBounds_toArray, List.set_cons_zero, List.set_cons_succ]
            refine takeAt (i := 3) (d := some 42) (v := ?vn3) rfl (by rfl) (by kernel_rfl) (by kernel_rfl) (by kernel_rfl) (fun _ _ _ h => h) (Or.inl ⟨by rfl, ?yn3⟩) hS ?_
            case yn3 => intro wx hSw; (go_simp) <;> with_reducible rfl
            simp only [Act.put, List.setIfInBounds_toArray, List.set_cons_zero, List.set_cons_succ]
            refine takeAt (i := 4) (d := some 43) (v := ?vn4) rfl (by rfl) (by kernel_rfl) (by kernel_rfl) (by kernel_rfl) (fun _ _ _ h => h) (Or.inl ⟨by rfl, ?yn4⟩) hS ?_
            case yn4 => intro wx hSw; (go_simp) <;> with_reducible rfl
            simp only [Act.put, List.setIfInBounds_toArray, List.set_cons_zero, List.set_cons_succ]
            refine takeAt (i := 5) (d := some 44) (v := ?vn5) rfl (by rfl) (by kernel_rfl) (by kernel_rfl) (by kernel_rfl) (fun _ _ _ h => h) (Or.inl ⟨by rfl, ?yn5⟩) hS ?_
            case yn5 => intro wx hSw; (go_simp) <;> with_reducible rfl
            simp only [Act.put, List.setIfInBounds_toArray, List.set_cons_zero, List.set_cons_succ]
            refine takeAt (i := 6) (d := some 45) (v := ?vn6) rfl (by rfl) (by kernel_rfl) (by kernel_rfl) (by kernel_rfl) (fun _ _ _ h => h) (Or.inl ⟨by rfl, ?yn6⟩) hS ?_
            case yn6 => intro wx hSw; (go_simp) <;> with_reducible rfl
            simp only [Act.put, List.setIfInBounds_toArray, List.set_cons_zero, List.set_cons_succ]
            refine takeAt (i := 7) (d := some 46) (v := ?vn7) rfl (by rfl) (by kernel_rfl) (by kernel_rfl) (by kernel_rfl) (fun _ _ _ h => h) (Or.inl ⟨by rfl, ?yn7⟩) hS ?_
            case yn7 => intro wx hSw; (go_simp) <;> with_reducible rfl
            simp only [Act.put, List.setIfInBounds_toArray, List.set_cons_zero, List.set_cons_succ]
            refine takeAt (i := 8) (d := some 47) (v := ?vn8) rfl (by rfl) (by kernel_rfl) (by kernel_rfl) (by kernel_rfl) (fun _ _ _ h => h) (Or.inl ⟨by rfl, ?yn8⟩) hS ?_
            case yn8 => intro wx hSw; (go_simp) <;> with_reducible rfl
            simp only [Act.put, List.setIfInBounds_toArray, List.set_cons_zero, List.set_cons_succ]
            refine takeAt (i := 9) (d := some 48) (v := ?vn9) rfl (by rfl) (by kernel_rfl) (by kernel_rfl) (by kernel_rfl) (fun _ _ _ h => h) (Or.inl ⟨by rfl, ?yn9⟩) hS ?_
            case yn9 => intro wx hSw; (go_simp) <;> with_reducible rfl
            simp only [Act.put, List.setIfInBounds_toArray, List.set_cons_zero, List.set_cons_succ]
            refine takeAt (i := 10) (d := some 49) (v := ?vn10) rfl (by rfl) (by kernel_rfl) (by kernel_rfl) (by kernel_rfl) (fun _ _ _ h => h) (Or.inl ⟨by rfl, ?yn10⟩) hS ?_
            case yn10 => intro wx hSw; (go_simp) <;> with_reducible rfl
            simp only [Act.put, List.setIfInBounds_toArray, List.set_cons_zero, List.set_cons_succ]
            refine takeAt (i := 12) (d := some 51) (v := ?vn12) rfl (by rfl) (by kernel_rfl) (by kernel_rfl) (by kernel_rfl) (fun _ _ _ h => h) (Or.inl ⟨by rfl, ?yn12⟩) hS ?_
            case yn12 => intro wx hSw; (go_simp) <;> with_reducible rfl
            simp only [Act.put, List.setIfInBounds_toArray, List.set_cons_zero, List.set_cons_succ]
            refine takeAt (i := 13) (d := some 52) (v := ?vn13) rfl (by rfl) (by kernel_rfl) (by kernel_rfl) (by kernel_rfl) (fun _ _ _ h => h) (Or.inl ⟨by rfl, ?yn13⟩) hS ?_
            case yn13 => intro wx hSw; (go_simp) <;> with_reducible rfl
            simp only [Act.put, List.setIfInBounds_toArray, List.set_cons_zero, List.set_cons_succ]
            refine takeAt (i := 14) (d := some 53) (v := ?vn14) rfl (by rfl) (by kernel_rfl) (by kernel_rfl) (by kernel_rfl) (fun _ _ _ h => h) (Or.inl ⟨by rfl, ?yn14⟩) hS ?_
            case yn14 => intro wx hSw; (go_simp) <;> with_reducible rfl
            simp only [Act.put, List.setIfInBounds_toArray, List.set_cons_zero, List.set_cons_succ]
            refine takeAt (i := 15) (d := some 54) (v := ?vn15) rfl (by rfl) (by kernel_rfl) (by kernel_rfl) (by kernel_rfl) (fun _ _ _ h => h) (Or.inl ⟨by rfl, ?yn15⟩) hS ?_
            case yn15 => intro wx hSw; (go_simp) <;> with_reducible rfl
            simp only [Act.put, List.setIfInBounds_toArray, List.set_cons_zero, List.set_cons_succ]
            refine takeAt (i := 16) (d := some 55) (v := ?vn16) rfl (by rfl) (by kernel_rfl) (by kernel_rfl) (by kernel_rfl) (fun _ _ _ h => h) (Or.inl ⟨by rfl, ?yn16⟩) hS ?_
            case yn16 => intro wx hSw; (go_simp) <;> with_reducible rfl
            simp only [Act.put, List.setIfInBounds_toArray, List.set_cons_zero, List.set_cons_succ]
            refine wpAnyH_ready (rs := [11, 17]) (by kernel_rfl) (by simp) ?_
            refine AllReadyH.cons rfl (fun K hK => ?_) (AllReadyH.cons rfl (fun K hK => ?_) AllReadyH.nil)
            · go_simp
              refine hK.out _ _ u0 (fun _ => ?_)
              clear hK K
              replace hS := u0
              try simp only [Act.put, List.setIfInBounds_toArray, List.set_cons_zero, List.set_cons_succ]
              refine wpAnyH_ready (rs := [17]) (by kernel_rfl) (by simp) ?_
              refine AllReadyH.cons rfl (fun K hK => ?_) AllReadyH.nil
              go_simp
              refine hK.out _ _ u0 (fun _ => ?_)
              clear hK K
              replace hS := u0
              try simp only [Act.put, List.setIfInBounds_toArray, List.set_cons_zero, List.set_cons_succ]
              refine takeAt (i := 18) (d := some 57) (v := ?vnx18) rfl (by rfl) (by kernel_rfl) (by kernel_rfl) (by kernel_rfl) (fun _ _ _ h => h) (Or.inl ⟨by rfl, ?ynx18⟩) hS ?_
              case ynx18 => intro wx hSw; (go_simp) <;> with_reducible rfl
              simp only [Act.put, List.setIfInBounds_toArray, List.set_cons_zero, List.set_cons_succ]
              refine wpAnyH_ready (rs := [19]) (by kernel_rfl) (by simp) ?_
              refine AllReadyH.cons rfl (fun K hK => ?_) AllReadyH.nil
              go_simp
              refine hK.out _ _ u1 (fun _ => ?_)
              clear hK K
              replace hS := u1
              try simp only [Act.put, List.setIfInBounds_toArray, List.set_cons_zero, List.set_cons_succ]
              refine takeAt (i := 20) (d := some 58) (v := ?vnx20) rfl (by rfl) (by kernel_rfl) (by kernel_rfl) (by kernel_rfl) (fun _ _ _ h => h) (Or.inl ⟨by rfl, ?ynx20⟩) hS ?_
              case ynx20 => intro wx hSw; (go_simp) <;> with_reducible rfl
              simp only [Act.put, List.setIfInBounds_toArray, List.set_cons_zero, List.set_cons_succ]
              refine wpAnyH_ready (rs := [21]) (by kernel_rfl) (by simp) ?_
              refine AllReadyH.cons rfl (fun K hK => ?_) AllReadyH.nil
              go_simp
              refine hK.out _ _ u2 (fun _ => ?_)
              clear hK K
              replace hS := u2
              try simp only [Act.put, List.setIfInBounds_toArray, List.set_cons_zero, List.set_cons_succ]
              refine wpAnyH_done (by kernel_rfl) ?_ _
              refine NoPanic.normal ?_
              have ia3 := two_other (g := gj) (i := i) (y := y) (a := .int .i64 (q2 y)) (b := .int .i64 (q2 i)) h2.out.ia (fun b o hb _ => by rw [PR.out.1] at hb; simp at hb; rw [← hb.1]; exact PR.out.2.2.1)
              have ij3 := two_set h2.out.ij PR.out.2.1 JI.out (by omega)
              have tu3 := two_turn (g := gj) (i := i) (y := y) (a := .int .i64 (q2 y)) (b := .int .i64 (q2 i)) h2.out.turn (.inr rfl)
              obtain ⟨w3, hw3⟩ : ∃ w3, ((wq.setCell ⟨gj, i, none⟩ (.int .i64 (q2 y))).setCell ⟨gj, y, none⟩ (.int .i64 (q2 i))).drew = w3 := ⟨_, rfl⟩
              rw [hw3] at ia3 ij3 tu3 ⊢
              clear hw3 hS u0 u1 u2 c5 c6 y1 y2 s0 s1 f2 f3 x1 x2
              obtain ⟨⟨c0, c1, c2, c3, c4, c5, c6⟩, _, _⟩ := KF.out w3 tu3
              obtain ⟨f2, f3⟩ := FZ.out w3 tu3
              have ya : y < v.args.n := by have := PR.out.2.2.2.2.2.2.2; omega
              obtain ⟨x3, y3⟩ := own_at ia3 PR.out.1 (k := y) ya
              obtain ⟨x4, y4⟩ := own_at ia3 PR.out.1 (k := i) (by have := JI.out; omega)
              have s0 : (w3.setCell ⟨ga, i, none⟩ (.int .i64 (p2 y))).cell? ⟨ga, y, none⟩ = some (.int .i64 (p2 y)) := cell_other (ne_off (by have := JI.out; omega)) y3
              have s1 : (w3.setCell ⟨ga, i, none⟩ (.int .i64 (p2 y))).cell? ⟨w.heap.size, 5, none⟩ = some (.slice v.args.a v.args.n v.args.c) := cell_other (by intro e; have := congrArg Addr.block e; simp at this; have := PR.out.2.2.2.1; omega) c5
              have H3 := hid (And.intro ia3 (And.intro ij3 tu3))
              clear ia3 ij3 tu3 c0 c1 c2 c3 c4 c6
              go_wp2_with fail
              have u0 : w3.drew.cell? ⟨w.heap.size, 5, none⟩ = some (.slice v.args.a v.args.n v.args.c) := c5
              have u1 : (w3.drew.setCell ⟨ga, i, none⟩ (.int .i64 (p2 y))).cell? ⟨w.heap.size, 5, none⟩ = some (.slice v.args.a v.args.n v.args.c) := s1
              have u2 : ((w3.drew.setCell ⟨ga, i, none⟩ (.int .i64 (p2 y))).setCell ⟨ga, y, none⟩ (.int .i64 (p2 i))).cell? ⟨w.heap.size, 5, none⟩ = some (.slice v.args.a v.args.n v.args.c) := cell_other (by intro e; have := congrArg Addr.block e; simp at this; have := PR.out.2.2.2.1; omega) u1
              refine wp_region_noPanic ?_
              refine wp_region_held_drew (S := fun wx => wx.cell? ⟨w.heap.size, 5, none⟩ = some (.slice v.args.a v.args.n v.args.c)) (by kernel_rfl) u0 (fun hS => ?_)
              refine takeAt (i := 0) (d := some 59) (v := ?vtnx0) rfl (by rfl) (by kernel_rfl) (by kernel_rfl) (by kernel_rfl) (fun _ _ _ h => h) (Or.inl ⟨by rfl, ?ytnx0⟩) hS ?_
              case ytnx0 => intro wx hSw; (go_simp) <;> with_reducible rfl
              simp only [Act.put, List.setIfInBounds_toArray, List.set_cons_zero, List.set_cons_succ]
              refine takeAt (i := 1) (d := some 60) (v := ?vtnx1) rfl (by rfl) (by kernel_rfl) (by kernel_rfl) (by kernel_rfl) (fun _ _ _ h => h) (Or.inl ⟨by rfl, ?ytnx1⟩) hS ?_
              case ytnx1 => intro wx hSw; (go_simp) <;> with_reducible rfl
              simp only [Act.put, List.setIfInBounds_toArray, List.set_cons_zero, List.set_cons_succ]
              refine takeAt (i := 2) (d := some 61) (v := ?vtnx2) rfl (by rfl) (by kernel_rfl) (by kernel_rfl) (by kernel_rfl) (fun _ _ _ h => h) (Or.inl ⟨by rfl, ?ytnx2⟩) hS ?_
              case ytnx2 => intro wx hSw; (go_simp) <;> with_reducible rfl
              simp only [Act.put, List.setIfInBounds_toArray, List.set_cons_zero, List.set_cons_succ]
              refine takeAt (i := 3) (d := some 62) (v := ?vtnx3) rfl (by rfl) (by kernel_rfl) (by kernel_rfl) (by kernel_rfl) (fun _ _ _ h => h) (Or.inl ⟨by rfl, ?ytnx3⟩) hS ?_
              case ytnx3 => intro wx hSw; (go_simp) <;> with_reducible rfl
              simp only [Act.put, List.setIfInBounds_toArray, List.set_cons_zero, List.set_cons_succ]
              refine takeAt (i := 4) (d := some 63) (v := ?vtnx4) rfl (by rfl) (by kernel_rfl) (by kernel_rfl) (by kernel_rfl) (fun _ _ _ h => h) (Or.inl ⟨by rfl, ?ytnx4⟩) hS ?_
              case ytnx4 => intro wx hSw; (go_simp) <;> with_reducible rfl
              simp only [Act.put, List.setIfInBounds_toArray, List.set_cons_zero, List.set_cons_succ]
              refine takeAt (i := 5) (d := some 64) (v := ?vtnx5) rfl (by rfl) (by kernel_rfl) (by kernel_rfl) (by kernel_rfl) (fun _ _ _ h => h) (Or.inl ⟨by rfl, ?ytnx5⟩) hS ?_
              case ytnx5 => intro wx hSw; (go_simp) <;> with_reducible rfl
              simp only [Act.put, List.setIfInBounds_toArray, List.set_cons_zero, List.set_cons_succ]
              refine takeAt (i := 6) (d := some 65) (v := ?vtnx6) rfl (by rfl) (by kernel_rfl) (by kernel_rfl) (by kernel_rfl) (fun _ _ _ h => h) (Or.inl ⟨by rfl, ?ytnx6⟩) hS ?_
              case ytnx6 => intro wx hSw; (go_simp) <;> with_reducible rfl
              simp only [Act.put, List.setIfInBounds_toArray, List.set_cons_zero, List.set_cons_succ]
              refine takeAt (i := 7) (d := some 66) (v := ?vtnx7) rfl (by rfl) (by kernel_rfl) (by kernel_rfl) (by kernel_rfl) (fun _ _ _ h => h) (Or.inl ⟨by rfl, ?ytnx7⟩) hS ?_
              case ytnx7 => intro wx hSw; (go_simp) <;> with_reducible rfl
              simp only [Act.put, List.setIfInBounds_toArray, List.set_cons_zero, List.set_cons_succ]
              refine takeAt (i := 8) (d := some 67) (v := ?vtnx8) rfl (by rfl) (by kernel_rfl) (by kernel_rfl) (by kernel_rfl) (fun _ _ _ h => h) (Or.inl ⟨by rfl, ?ytnx8⟩) hS ?_
              case ytnx8 => intro wx hSw; (go_simp) <;> with_reducible rfl
              simp only [Act.put, List.setIfInBounds_toArray, List.set_cons_zero, List.set_cons_succ]
              refine takeAt (i := 9) (d := some 68) (v := ?vtnx9) rfl (by rfl) (by kernel_rfl) (by kernel_rfl) (by kernel_rfl) (fun _ _ _ h => h) (Or.inl ⟨by rfl, ?ytnx9⟩) hS ?_
              case ytnx9 => intro wx hSw; (go_simp) <;> with_reducible rfl
              simp only [Act.put, List.setIfInBounds_toArray, List.set_cons_zero, List.set_cons_succ]
              refine takeAt (i := 10) (d := some 69) (v := ?vtnx10) rfl (by rfl) (by kernel_rfl) (by kernel_rfl) (by kernel_rfl) (fun _ _ _ h => h) (Or.inl ⟨by rfl, ?ytnx10⟩) hS ?_
              case ytnx10 => intro wx hSw; (go_simp) <;> with_reducible rfl
              simp only [Act.put, List.setIfInBounds_toArray, List.set_cons_zero, List.set_cons_succ]
              refine takeAt (i := 12) (d := some 71) (v := ?vtnx12) rfl (by rfl) (by kernel_rfl) (by kernel_rfl) (by kernel_rfl) (fun _ _ _ h => h) (Or.inl ⟨by rfl, ?ytnx12⟩) hS ?_
              case ytnx12 => intro wx hSw; (go_simp) <;> with_reducible rfl
              simp only [Act.put, List.setIfInBounds_toArray, List.set_cons_zero, List.set_cons_succ]
              refine takeAt (i := 13) (d := some 72) (v := ?vtnx13) rfl (by rfl) (by kernel_rfl) (by kernel_rfl) (by kernel_rfl) (fun _ _ _ h => h) (Or.inl ⟨by rfl, ?ytnx13⟩) hS ?_
              case ytnx13 => intro wx hSw; (go_simp) <;> with_reducible rfl
              simp only [Act.put, List.setIfInBounds_toArray, List.set_cons_zero, List.set_cons_succ]
              refine takeAt (i := 14) (d := some 73) (v := ?vtnx14) rfl (by rfl) (by kernel_rfl) (by kernel_rfl) (by kernel_rfl) (fun _ _ _ h => h) (Or.inl ⟨by rfl, ?ytnx14⟩) hS ?_
              case ytnx14 => intro wx hSw; (go_simp) <;> with_reducible rfl
              simp only [Act.put, List.setIfInBounds_toArray, List.set_cons_zero, List.set_cons_succ]
              refine takeAt (i := 15) (d := some 74) (v := ?vtnx15) rfl (by rfl) (by kernel_rfl) (by kernel_rfl) (by kernel_rfl) (fun _ _ _ h => h) (Or.inl ⟨by rfl, ?ytnx15⟩) hS ?_
              case ytnx15 => intro wx hSw; (go_simp) <;> with_reducible rfl
              simp only [Act.put, List.setIfInBounds_toArray, List.set_cons_zero, List.set_cons_succ]
              refine takeAt (i := 16) (d := some 75) (v := ?vtnx16) rfl (by rfl) (by kernel_rfl) (by kernel_rfl) (by kernel_rfl) (fun _ _ _ h => h) (Or.inl ⟨by rfl, ?ytnx16⟩) hS ?_
              case ytnx16 => intro wx hSw; (go_simp) <;> with_reducible rfl
              simp only [Act.put, List.setIfInBounds_toArray, List.set_cons_zero, List.set_cons_succ]
              refine wpAnyH_ready (rs := [11, 17]) (by kernel_rfl) (by simp) ?_
              refine AllReadyH.cons rfl (fun K hK => ?_) (AllReadyH.cons rfl (fun K hK => ?_) AllReadyH.nil)
              · go_simp
                refine hK.out _ _ u0 (fun _ => ?_)
                clear hK K
                replace hS := u0
                try simp only [Act.put, List.setIfInBounds_toArray, List.set_cons_zero, List.set_cons_succ]
                refine wpAnyH_ready (rs := [17]) (by kernel_rfl) (by simp) ?_
                refine AllReadyH.cons rfl (fun K hK => ?_) AllReadyH.nil
                go_simp
                refine hK.out _ _ u0 (fun _ => ?_)
                clear hK K
                replace hS := u0
                try simp only [Act.put, List.setIfInBounds_toArray, List.set_cons_zero, List.set_cons_succ]
                refine takeAt (i := 18) (d := some 77) (v := ?vtnxx18) rfl (by rfl) (by kernel_rfl) (by kernel_rfl) (by kernel_rfl) (fun _ _ _ h => h) (Or.inl ⟨by rfl, ?ytnxx18⟩) hS ?_
                case ytnxx18 => intro wx hSw; (go_simp) <;> with_reducible rfl
                simp only [Act.put, List.setIfInBounds_toArray, List.set_cons_zero, List.set_cons_succ]
                refine wpAnyH_ready (rs := [19]) (by kernel_rfl) (by simp) ?_
                refine AllReadyH.cons rfl (fun K hK => ?_) AllReadyH.nil
                go_simp
                refine hK.out _ _ u1 (fun _ => ?_)
                clear hK K
                replace hS := u1
                try simp only [Act.put, List.setIfInBounds_toArray, List.set_cons_zero, List.set_cons_succ]
                refine takeAt (i := 20) (d := some 78) (v := ?vtnxx20) rfl (by rfl) (by kernel_rfl) (by kernel_rfl) (by kernel_rfl) (fun _ _ _ h => h) (Or.inl ⟨by rfl, ?ytnxx20⟩) hS ?_
                case ytnxx20 => intro wx hSw; (go_simp) <;> with_reducible rfl
                simp only [Act.put, List.setIfInBounds_toArray, List.set_cons_zero, List.set_cons_succ]
                refine wpAnyH_ready (rs := [21]) (by kernel_rfl) (by simp) ?_
                refine AllReadyH.cons rfl (fun K hK => ?_) AllReadyH.nil
                go_simp
                refine hK.out _ _ u2 (fun _ => ?_)
                clear hK K
                replace hS := u2
                try simp only [Act.put, List.setIfInBounds_toArray, List.set_cons_zero, List.set_cons_succ]
                refine wpAnyH_done (by kernel_rfl) ?_ _
                refine NoPanic.normal ?_
                have ia4 := two_set H3.out.1 PR.out.1 JI.out ya
                have ij4 := two_other (g := ga) (i := i) (y := y) (a := .int .i64 (p2 y)) (b := .int .i64 (p2 i)) H3.out.2.1 (fun b o hb _ => by rw [PR.out.2.1] at hb; simp at hb; rw [← hb.1]; exact PR.out.2.2.1.symm)
                have tu4 := two_turn (g := ga) (i := i) (y := y) (a := .int .i64 (p2 y)) (b := .int .i64 (p2 i)) H3.out.2.2 (.inl rfl)
                have H4 := hid (And.intro ia4 (And.intro ij4 tu4))
                clear ia4 ij4 tu4 hS u0 u1 u2
                go_wp2_with fail
                go_round
                case rel =>
                  refine ⟨i, by have := JI.out; omega, rfl, swp p2 i, swp q2 i, ⟨H4.out.1, H4.out.2.1, fun c => ?_, H4.out.2.2⟩, ?_⟩
                  · have q := HLV.out
                    rw [JI.out] at q
                    rw [sel_swp (by omega) (by have := JI.out; omega)]; exact HS.out.1.sels c
                  · have := HS.out.2; rw [JI.out] at this; exact this.step (by have := JI.out; omega) (by rw [← JI.out]; exact HLV.out)
                case measure => simp [intOf]; have := JI.out; omega
              · go_simp
                refine hK.out _ _ u0 (fun _ => ?_)
                clear hK K
                replace hS := u0
                try simp only [Act.put, List.setIfInBounds_toArray, List.set_cons_zero, List.set_cons_succ]
                refine wpAnyH_ready (rs := [11]) (by kernel_rfl) (by simp) ?_
                refine AllReadyH.cons rfl (fun K hK => ?_) AllReadyH.nil
                go_simp
                refine hK.out _ _ u0 (fun _ => ?_)
                clear hK K
                replace hS := u0
                try simp only [Act.put, List.setIfInBounds_toArray, List.set_cons_zero, List.set_cons_succ]
                refine takeAt (i := 18) (d := some 77) (v := ?vtnxy18) rfl (by rfl) (by kernel_rfl) (by kernel_rfl) (by kernel_rfl) (fun _ _ _ h => h) (Or.inl ⟨by rfl, ?ytnxy18⟩) hS ?_
                case ytnxy18 => intro wx hSw; (go_simp) <;> with_reducible rfl
                simp only [Act.put, List.setIfInBounds_toArray, List.set_cons_zero, List.set_cons_succ]
                refine wpAnyH_ready (rs := [19]) (by kernel_rfl) (by simp) ?_
                refine AllReadyH.cons rfl (fun K hK => ?_) AllReadyH.nil
                go_simp
                refine hK.out _ _ u1 (fun _ => ?_)
                clear hK K
                replace hS := u1
                try simp only [Act.put, List.setIfInBounds_toArray, List.set_cons_zero, List.set_cons_succ]
                refine takeAt (i := 20) (d := some 78) (v := ?vtnxy20) rfl (by rfl) (by kernel_rfl) (by kernel_rfl) (by kernel_rfl) (fun _ _ _ h => h) (Or.inl ⟨by rfl, ?ytnxy20⟩) hS ?_
                case ytnxy20 => intro wx hSw; (go_simp) <;> with_reducible rfl
                simp only [Act.put, List.setIfInBounds_toArray, List.set_cons_zero, List.set_cons_succ]
                refine wpAnyH_ready (rs := [21]) (by kernel_rfl) (by simp) ?_
                refine AllReadyH.cons rfl (fun K hK => ?_) AllReadyH.nil
                go_simp
                refine hK.out _ _ u2 (fun _ => ?_)
                clear hK K
                replace hS := u2
                try simp only [Act.put, List.setIfInBounds_toArray, List.set_cons_zero, List.set_cons_succ]
                refine wpAnyH_done (by kernel_rfl) ?_ _
                refine NoPanic.normal ?_
                have ia4 := two_set H3.out.1 PR.out.1 JI.out ya
                have ij4 := two_other (g := ga) (i := i) (y := y) (a := .int .i64 (p2 y)) (b := .int .i64 (p2 i)) H3.out.2.1 (fun b o hb _ => by rw [PR.out.2.1] at hb; simp at hb; rw [← hb.1]; exact PR.out.2.2.1.symm)
                have tu4 := two_turn (g := ga) (i := i) (y := y) (a := .int .i64 (p2 y)) (b := .int .i64 (p2 i)) H3.out.2.2 (.inl rfl)
                have H4 := hid (And.intro ia4 (And.intro ij4 tu4))
                clear ia4 ij4 tu4 hS u0 u1 u2
                go_wp2_with fail
                go_round
                case rel =>
                  refine ⟨i, by have := JI.out; omega, rfl, swp p2 i, swp q2 i, ⟨H4.out.1, H4.out.2.1, fun c => ?_, H4.out.2.2⟩, ?_⟩
                  · have q := HLV.out
                    rw [JI.out] at q
                    rw [sel_swp (by omega) (by have := JI.out; omega)]; exact HS.out.1.sels c
                  · have := HS.out.2; rw [JI.out] at this; exact this.step (by have := JI.out; omega) (by rw [← JI.out]; exact HLV.out)
                case measure => simp [intOf]; have := JI.out; omega
            · go_simp
              refine hK.out _ _ u0 (fun _ => ?_)
              clear hK K
              replace hS := u0
              try simp only [Act.put, List.setIfInBounds_toArray, List.set_cons_zero, List.set_cons_succ]
              refine wpAnyH_ready (rs := [11]) (by kernel_rfl) (by simp) ?_
              refine AllReadyH.cons rfl (fun K hK => ?_) AllReadyH.nil
              go_simp
              refine hK.out _ _ u0 (fun _ => ?_)
              clear hK K
              replace hS := u0
              try simp only [Act.put, List.setIfInBounds_toArray, List.set_cons_zero, List.set_cons_succ]
              refine takeAt (i := 18) (d := some 57) (v := ?vny18) rfl (by rfl) (by kernel_rfl) (by kernel_rfl) (by kernel_rfl) (fun _ _ _ h => h) (Or.inl ⟨by rfl, ?yny18⟩) hS ?_
              case yny18 => intro wx hSw; (go_simp) <;> with_reducible rfl
              simp only [Act.put, List.setIfInBounds_toArray, List.set_cons_zero, List.set_cons_succ]
              refine wpAnyH_ready (rs := [19]) (by kernel_rfl) (by simp) ?_
              refine AllReadyH.cons rfl (fun K hK => ?_) AllReadyH.nil
              go_simp
              refine hK.out _ _ u1 (fun _ => ?_)
              clear hK K
              replace hS := u1
              try simp only [Act.put, List.setIfInBounds_toArray, List.set_cons_zero, List.set_cons_succ]
              refine takeAt (i := 20) (d := some 58) (v := ?vny20) rfl (by rfl) (by kernel_rfl) (by kernel_rfl) (by kernel_rfl) (fun _ _ _ h => h) (Or.inl ⟨by rfl, ?yny20⟩) hS ?_
              case yny20 => intro wx hSw; (go_simp) <;> with_reducible rfl
              simp only [Act.put, List.setIfInBounds_toArray, List.set_cons_zero, List.set_cons_succ]
              refine wpAnyH_ready (rs := [21]) (by kernel_rfl) (by simp) ?_
              refine AllReadyH.cons rfl (fun K hK => ?_) AllReadyH.nil
              go_simp
              refine hK.out _ _ u2 (fun _ => ?_)
              clear hK K
              replace hS := u2
              try simp only [Act.put, List.setIfInBounds_toArray, List.set_cons_zero, List.set_cons_succ]
              refine wpAnyH_done (by kernel_rfl) ?_ _
              refine NoPanic.normal ?_
              have ia3 := two_other (g := gj) (i := i) (y := y) (a := .int .i64 (q2 y)) (b := .int .i64 (q2 i)) h2.out.ia (fun b o hb _ => by rw [PR.out.1] at hb; simp at hb; rw [← hb.1]; exact PR.out.2.2.1)
              have ij3 := two_set h2.out.ij PR.out.2.1 JI.out (by omega)
              have tu3 := two_turn (g := gj) (i := i) (y := y) (a := .int .i64 (q2 y)) (b := .int .i64 (q2 i)) h2.out.turn (.inr rfl)
              obtain ⟨w3, hw3⟩ : ∃ w3, ((wq.setCell ⟨gj, i, none⟩ (.int .i64 (q2 y))).setCell ⟨gj, y, none⟩ (.int .i64 (q2 i))).drew = w3 := ⟨_, rfl⟩
              rw [hw3] at ia3 ij3 tu3 ⊢
              clear hw3 hS u0 u1 u2 c5 c6 y1 y2 s0 s1 f2 f3 x1 x2
              obtain ⟨⟨c0, c1, c2, c3, c4, c5, c6⟩, _, _⟩ := KF.out w3 tu3
              obtain ⟨f2, f3⟩ := FZ.out w3 tu3
              have ya : y < v.args.n := by have := PR.out.2.2.2.2.2.2.2; omega
              obtain ⟨x3, y3⟩ := own_at ia3 PR.out.1 (k := y) ya
              obtain ⟨x4, y4⟩ := own_at ia3 PR.out.1 (k := i) (by have := JI.out; omega)
              have s0 : (w3.setCell ⟨ga, i, none⟩ (.int .i64 (p2 y))).cell? ⟨ga, y, none⟩ = some (.int .i64 (p2 y)) := cell_other (ne_off (by have := JI.out; omega)) y3
              have s1 : (w3.setCell ⟨ga, i, none⟩ (.int .i64 (p2 y))).cell? ⟨w.heap.size, 5, none⟩ = some (.slice v.args.a v.args.n v.args.c) := cell_other (by intro e; have := congrArg Addr.block e; simp at this; have := PR.out.2.2.2.1; omega) c5
              have H3 := hid (And.intro ia3 (And.intro ij3 tu3))
              clear ia3 ij3 tu3 c0 c1 c2 c3 c4 c6
              go_wp2_with fail
              have u0 : w3.drew.cell? ⟨w.heap.size, 5, none⟩ = some (.slice v.args.a v.args.n v.args.c) := c5
              have u1 : (w3.drew.setCell ⟨ga, i, none⟩ (.int .i64 (p2 y))).cell? ⟨w.heap.size, 5, none⟩ = some (.slice v.args.a v.args.n v.args.c) := s1
              have u2 : ((w3.drew.setCell ⟨ga, i, none⟩ (.int .i64 (p2 y))).setCell ⟨ga, y, none⟩ (.int .i64 (p2 i))).cell? ⟨w.heap.size, 5, none⟩ = some (.slice v.args.a v.args.n v.args.c) := cell_other (by intro e; have := congrArg Addr.block e; simp at this; have := PR.out.2.2.2.1; omega) u1
              refine wp_region_noPanic ?_
              refine wp_region_held_drew (S := fun wx => wx.cell? ⟨w.heap.size, 5, none⟩ = some (.slice v.args.a v.args.n v.args.c)) (by kernel_rfl) u0 (fun hS => ?_)
              refine takeAt (i := 0) (d := some 59) (v := ?vtny0) rfl (by rfl) (by kernel_rfl) (by kernel_rfl) (by kernel_rfl) (fun _ _ _ h => h) (Or.inl ⟨by rfl, ?ytny0⟩) hS ?_
              case ytny0 => intro wx hSw; (go_simp) <;> with_reducible rfl
              simp only [Act.put, List.setIfInBounds_toArray, List.set_cons_zero, List.set_cons_succ]
              refine takeAt (i := 1) (d := some 60) (v := ?vtny1) rfl (by rfl) (by kernel_rfl) (by kernel_rfl) (by kernel_rfl) (fun _ _ _ h => h) (Or.inl ⟨by rfl, ?ytny1⟩) hS ?_
              case ytny1 => intro wx hSw; (go_simp) <;> with_reducible rfl
              simp only [Act.put, List.setIfInBounds_toArray, List.set_cons_zero, List.set_cons_succ]
              refine takeAt (i := 2) (d := some 61) (v := ?vtny2) rfl (by rfl) (by kernel_rfl) (by kernel_rfl) (by kernel_rfl) (fun _ _ _ h => h) (Or.inl ⟨by rfl, ?ytny2⟩) hS ?_
              case ytny2 => intro wx hSw; (go_simp) <;> with_reducible rfl
              simp only [Act.put, List.setIfInBounds_toArray, List.set_cons_zero, List.set_cons_succ]
              refine takeAt (i := 3) (d := some 62) (v := ?vtny3) rfl (by rfl) (by kernel_rfl) (by kernel_rfl) (by kernel_rfl) (fun _ _ _ h => h) (Or.inl ⟨by rfl, ?ytny3⟩) hS ?_
              case ytny3 => intro wx hSw; (go_simp) <;> with_reducible rfl
              simp only [Act.put, List.setIfInBounds_toArray, List.set_cons_zero, List.set_cons_succ]
              refine takeAt (i := 4) (d := some 63) (v := ?vtny4) rfl (by rfl) (by kernel_rfl) (by kernel_rfl) (by kernel_rfl) (fun _ _ _ h => h) (Or.inl ⟨by rfl, ?ytny4⟩) hS ?_
              case ytny4 => intro wx hSw; (go_simp) <;> with_reducible rfl
              simp only [Act.put, List.setIfInBounds_toArray, List.set_cons_zero, List.set_cons_succ]
              refine takeAt (i := 5) (d := some 64) (v := ?vtny5) rfl (by rfl) (by kernel_rfl) (by kernel_rfl) (by kernel_rfl) (fun _ _ _ h => h) (Or.inl ⟨by rfl, ?ytny5⟩) hS ?_
              case ytny5 => intro wx hSw; (go_simp) <;> with_reducible rfl
              simp only [Act.put, List.setIfInBounds_toArray, List.set_cons_zero, List.set_cons_succ]
              refine takeAt (i := 6) (d := some 65) (v := ?vtny6) rfl (by rfl) (by kernel_rfl) (by kernel_rfl) (by kernel_rfl) (fun _ _ _ h => h) (Or.inl ⟨by rfl, ?ytny6⟩) hS ?_
              case ytny6 => intro wx hSw; (go_simp) <;> with_reducible rfl
              simp only [Act.put, List.setIfInBounds_toArray, List.set_cons_zero, List.set_cons_succ]
              refine takeAt (i := 7) (d := some 66) (v := ?vtny7) rfl (by rfl) (by kernel_rfl) (by kernel_rfl) (by kernel_rfl) (fun _ _ _ h => h) (Or.inl ⟨by rfl, ?ytny7⟩) hS ?_
              case ytny7 => intro wx hSw; (go_simp) <;> with_reducible rfl
              simp only [Act.put, List.setIfInBounds_toArray, List.set_cons_zero, List.set_cons_succ]
              refine takeAt (i := 8) (d := some 67) (v := ?vtny8) rfl (by rfl) (by kernel_rfl) (by kernel_rfl) (by kernel_rfl) (fun _ _ _ h => h) (Or.inl ⟨by rfl, ?ytny8⟩) hS ?_
              case ytny8 => intro wx hSw; (go_simp) <;> with_reducible rfl
              simp only [Act.put, List.setIfInBounds_toArray, List.set_cons_zero, List.set_cons_succ]
              refine takeAt (i := 9) (d := some 68) (v := ?vtny9) rfl (by rfl) (by kernel_rfl) (by kernel_rfl) (by kernel_rfl) (fun _ _ _ h => h) (Or.inl ⟨by rfl, ?ytny9⟩) hS ?_
              case ytny9 => intro wx hSw; (go_simp) <;> with_reducible rfl
              simp only [Act.put, List.setIfInBounds_toArray, List.set_cons_zero, List.set_cons_succ]
              refine takeAt (i := 10) (d := some 69) (v := ?vtny10) rfl (by rfl) (by kernel_rfl) (by kernel_rfl) (by kernel_rfl) (fun _ _ _ h => h) (Or.inl ⟨by rfl, ?ytny10⟩) hS ?_
              case ytny10 => intro wx hSw; (go_simp) <;> with_reducible rfl
              simp only [Act.put, List.setIfInBounds_toArray, List.set_cons_zero, List.set_cons_succ]
              refine takeAt (i := 12) (d := some 71) (v := ?vtny12) rfl (by rfl) (by kernel_rfl) (by kernel_rfl) (by kernel_rfl) (fun _ _ _ h => h) (Or.inl ⟨by rfl, ?ytny12⟩) hS ?_
              case ytny12 => intro wx hSw; (go_simp) <;> with_reducible rfl
              simp only [Act.put, List.setIfInBounds_toArray, List.set_cons_zero, List.set_cons_succ]
              refine takeAt (i := 13) (d := some 72) (v := ?vtny13) rfl (by rfl) (by kernel_rfl) (by kernel_rfl) (by kernel_rfl) (fun _ _ _ h => h) (Or.inl ⟨by rfl, ?ytny13⟩) hS ?_
              case ytny13 => intro wx hSw; (go_simp) <;> with_reducible rfl
              simp only [Act.put, List.setIfInBounds_toArray, List.set_cons_zero, List.set_cons_succ]
              refine takeAt (i := 14) (d := some 73) (v := ?vtny14) rfl (by rfl) (by kernel_rfl) (by kernel_rfl) (by kernel_rfl) (fun _ _ _ h => h) (Or.inl ⟨by rfl, ?ytny14⟩) hS ?_
              case ytny14 => intro wx hSw; (go_simp) <;> with_reducible rfl
              simp only [Act.put, List.setIfInBounds_toArray, List.set_cons_zero, List.set_cons_succ]
              refine takeAt (i := 15) (d := some 74) (v := ?vtny15) rfl (by rfl) (by kernel_rfl) (by kernel_rfl) (by kernel_rfl) (fun _ _ _ h => h) (Or.inl ⟨by rfl, ?ytny15⟩) hS ?_
              case ytny15 => intro wx hSw; (go_simp) <;> with_reducible rfl
              simp only [Act.put, List.setIfInBounds_toArray, List.set_cons_zero, List.set_cons_succ]
              refine takeAt (i := 16) (d := some 75) (v := ?vtny16) rfl (by rfl) (by kernel_rfl) (by kernel_rfl) (by kernel_rfl) (fun _ _ _ h => h) (Or.inl ⟨by rfl, ?ytny16⟩) hS ?_
              case ytny16 => intro wx hSw; (go_simp) <;> with_reducible rfl
              simp only [Act.put, List.setIfInBounds_toArray, List.set_cons_zero, List.set_cons_succ]
              refine wpAnyH_ready (rs := [11, 17]) (by kernel_rfl) (by simp) ?_
              refine AllReadyH.cons rfl (fun K hK => ?_) (AllReadyH.cons rfl (fun K hK => ?_) AllReadyH.nil)
              · go_simp
                refine hK.out _ _ u0 (fun _ => ?_)
                clear hK K
                replace hS := u0
                try simp only [Act.put, List.setIfInBounds_toArray, List.set_cons_zero, List.set_cons_succ]
                refine wpAnyH_ready (rs := [17]) (by kernel_rfl) (by simp) ?_
                refine AllReadyH.cons rfl (fun K hK => ?_) AllReadyH.nil
                go_simp
                refine hK.out _ _ u0 (fun _ => ?_)
                clear hK K
                replace hS := u0
                try simp only [Act.put, List.setIfInBounds_toArray, List.set_cons_zero, List.set_cons_succ]
                refine takeAt (i := 18) (d := some 77) (v := ?vtnyx18) rfl (by rfl) (by kernel_rfl) (by kernel_rfl) (by kernel_rfl) (fun _ _ _ h => h) (Or.inl ⟨by rfl, ?ytnyx18⟩) hS ?_
                case ytnyx18 => intro wx hSw; (go_simp) <;> with_reducible rfl
                simp only [Act.put, List.setIfInBounds_toArray, List.set_cons_zero, List.set_cons_succ]
                refine wpAnyH_ready (rs := [19]) (by kernel_rfl) (by simp) ?_
                refine AllReadyH.cons rfl (fun K hK => ?_) AllReadyH.nil
                go_simp
                refine hK.out _ _ u1 (fun _ => ?_)
                clear hK K
                replace hS := u1
                try simp only [Act.put, List.setIfInBounds_toArray, List.set_cons_zero, List.set_cons_succ]
                refine takeAt (i := 20) (d := some 78) (v := ?vtnyx20) rfl (by rfl) (by kernel_rfl) (by kernel_rfl) (by kernel_rfl) (fun _ _ _ h => h) (Or.inl ⟨by rfl, ?ytnyx20⟩) hS ?_
                case ytnyx20 => intro wx hSw; (go_simp) <;> with_reducible rfl
                simp only [Act.put, List.setIfInBounds_toArray, List.set_cons_zero, List.set_cons_succ]
                refine wpAnyH_ready (rs := [21]) (by kernel_rfl) (by simp) ?_
                refine AllReadyH.cons rfl (fun K hK => ?_) AllReadyH.nil
                go_simp
                refine hK.out _ _ u2 (fun _ => ?_)
                clear hK K
                replace hS := u2
                try simp only [Act.put, List.setIfInBounds_toArray, List.set_cons_zero, List.set_cons_succ]
                refine wpAnyH_done (by kernel_rfl) ?_ _
                refine NoPanic.normal ?_
                have ia4 := two_set H3.out.1 PR.out.1 JI.out ya
                have ij4 := two_other (g := ga) (i := i) (y := y) (a := .int .i64 (p2 y)) (b := .int .i64 (p2 i)) H3.out.2.1 (fun b o hb _ => by rw [PR.out.2.1] at hb; simp at hb; rw [← hb.1]; exact PR.out.2.2.1.symm)
                have tu4 := two_turn (g := ga) (i := i) (y := y) (a := .int .i64 (p2 y)) (b := .int .i64 (p2 i)) H3.out.2.2 (.inl rfl)
                have H4 := hid (And.intro ia4 (And.intro ij4 tu4))
                clear ia4 ij4 tu4 hS u0 u1 u2
                go_wp2_with fail
                go_round
                case rel =>
                  refine ⟨i, by have := JI.out; omega, rfl, swp p2 i, swp q2 i, ⟨H4.out.1, H4.out.2.1, fun c => ?_, H4.out.2.2⟩, ?_⟩
                  · have q := HLV.out
                    rw [JI.out] at q
                    rw [sel_swp (by omega) (by have := JI.out; omega)]; exact HS.out.1.sels c
                  · have := HS.out.2; rw [JI.out] at this; exact this.step (by have := JI.out; omega) (by rw [← JI.out]; exact HLV.out)
                case measure => simp [intOf]; have := JI.out; omega
              · go_simp
                refine hK.out _ _ u0 (fun _ => ?_)
                clear hK K
                replace hS := u0
                try simp only [Act.put, List.setIfInBounds_toArray, List.set_cons_zero, List.set_cons_succ]
                refine wpAnyH_ready (rs := [11]) (by kernel_rfl) (by simp) ?_
                refine AllReadyH.cons rfl (fun K hK => ?_) AllReadyH.nil
                go_simp
                refine hK.out _ _ u0 (fun _ => ?_)
                clear hK K
                replace hS := u0
                try simp only [Act.put, List.setIfInBounds_toArray, List.set_cons_zero, List.set_cons_succ]
                refine takeAt (i := 18) (d := some 77) (v := ?vtnyy18) rfl (by rfl) (by kernel_rfl) (by kernel_rfl) (by kernel_rfl) (fun _ _ _ h => h) (Or.inl ⟨by rfl, ?ytnyy18⟩) hS ?_
                case ytnyy18 => intro wx hSw; (go_simp) <;> with_reducible rfl
                simp only [Act.put, List.setIfInBounds_toArray, List.set_cons_zero, List.set_cons_succ]
                refine wpAnyH_ready (rs := [19]) (by kernel_rfl) (by simp) ?_
                refine AllReadyH.cons rfl (fun K hK => ?_) AllReadyH.nil
                go_simp
                refine hK.out _ _ u1 (fun _ => ?_)
                clear hK K
                replace hS := u1
                try simp only [Act.put, List.setIfInBounds_toArray, List.set_cons_zero, List.set_cons_succ]
                refine takeAt (i := 20) (d := some 78) (v := ?vtnyy20) rfl (by rfl) (by kernel_rfl) (by kernel_rfl) (by kernel_rfl) (fun _ _ _ h => h) (Or.inl ⟨by rfl, ?ytnyy20⟩) hS ?_
                case ytnyy20 => intro wx hSw; (go_simp) <;> with_reducible rfl
                simp only [Act.put, List.setIfInBounds_toArray, List.set_cons_zero, List.set_cons_succ]
                refine wpAnyH_ready (rs := [21]) (by kernel_rfl) (by simp) ?_
                refine AllReadyH.cons rfl (fun K hK => ?_) AllReadyH.nil
                go_simp
                refine hK.out _ _ u2 (fun _ => ?_)
                clear hK K
                replace hS := u2
                try simp only [Act.put, List.setIfInBounds_toArray, List.set_cons_zero, List.set_cons_succ]
                refine wpAnyH_done (by kernel_rfl) ?_ _
                refine NoPanic.normal ?_
                have ia4 := two_set H3.out.1 PR.out.1 JI.out ya
                have ij4 := two_other (g := ga) (i := i) (y := y) (a := .int .i64 (p2 y)) (b := .int .i64 (p2 i)) H3.out.2.1 (fun b o hb _ => by rw [PR.out.2.1] at hb; simp at hb; rw [← hb.1]; exact PR.out.2.2.1.symm)
                have tu4 := two_turn (g := ga) (i := i) (y := y) (a := .int .i64 (p2 y)) (b := .int .i64 (p2 i)) H3.out.2.2 (.inl rfl)
                have H4 := hid (And.intro ia4 (And.intro ij4 tu4))
                clear ia4 ij4 tu4 hS u0 u1 u2
                go_wp2_with fail
                go_round
                case rel =>
                  refine ⟨i, by have := JI.out; omega, rfl, swp p2 i, swp q2 i, ⟨H4.out.1, H4.out.2.1, fun c => ?_, H4.out.2.2⟩, ?_⟩
                  · have q := HLV.out
                    rw [JI.out] at q
                    rw [sel_swp (by omega) (by have := JI.out; omega)]; exact HS.out.1.sels c
                  · have := HS.out.2; rw [JI.out] at this; exact this.step (by have := JI.out; omega) (by rw [← JI.out]; exact HLV.out)
                case measure => simp [intOf]; have := JI.out; omega
          · have t1 : decide (q2 y < q2 i) = false := by simpa using hlv
            have t2 : q2 i ≤ q2 y := by omega
            go_wp2_with fail
            go_quiet (fail)
            go_wp2_with fail
            go_round
            case rel => exact ⟨k + 1, by omega, by omega, by go_num, p2, q2, HS.out.1.on (drewN_below _ _), HS.out.2.done hy (.inr ⟨i, JI.out, by omega⟩)⟩
            case measure => simp [intOf]; omega
    · go_wp2_with fail
      refine bodyPost_ret (v := v.val) (by rw [results_cell rfl]; go_simp) rfl ?_
      refine ⟨rfl, p1, q1, ?_, ?_, ⟨fun x y h1 h2 => HS.out.2 x y h1 (by omega), fun c => HS.out.1.sels c⟩, ?_⟩
      · refine HS.out.1.ia.kept (p := fun k => k < w.heap.size) ?_ (fun b o hb _ => by rw [PR.out.1] at hb; simp at hb; rw [← hb.1]; exact PR.out.2.2.2.1)
        repeat (refine Kept.setCell ?_ (by simp) _)
        exact Kept.refl _ _
      · refine HS.out.1.ij.kept (p := fun k => k < w.heap.size) ?_ (fun b o hb _ => by rw [PR.out.2.1] at hb; simp at hb; rw [← hb.1]; exact PR.out.2.2.2.2.1)
        repeat (refine Kept.setCell ?_ (by simp) _)
        exact Kept.refl _ _
      · repeat (refine Turn.setCell ?_ (.inr (by simp)) _)
        exact ((Turn.of_below B0.out).trans (HS.out.1.turn.wide (q := fun k => 0 < v.into.n ∧ ((∃ o, v.args.a = some ⟨k, o, none⟩) ∨ ∃ o, v.into.a = some ⟨k, o, none⟩)) (fun b hb => ⟨h0, by rcases hb with rfl | rfl; exact .inl ⟨0, PR.out.1⟩; exact .inr ⟨0, PR.out.2.1⟩⟩)))

end Go.Proofs.Ythaedlnefikigaa.Srt
