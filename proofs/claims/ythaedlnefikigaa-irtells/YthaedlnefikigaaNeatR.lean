/-
  plnref3.Neat: the function that it hands back.
-/
import Derived.Test.YthaedlnefikigaaCopyH
import Derived.Test.YthaedlnefikigaaNeatE
import Derived.Deep.CutRange
namespace Go.Proofs.Ythaedlnefikigaa.Own
open Go.RowKit View Rd Copy Srt Num

set_option linter.unusedVariables false

/-- What is taken has its new number up to block b's instruction t. -/
def RenA (T : FV) (A : Nat → Nat → Nat → Int) (b t : Nat) (A2 : Nat → Nat → Nat → Int) : Prop :=
  ∀ j, j < T.blk.n → ∀ k, k < (T.B j).n → if j < b ∨ j = b ∧ k < t then A2 j k = fun i => nm T (A j k i) else A2 j k = A j k

theorem RenA.start (T : FV) (A : Nat → Nat → Nat → Int) : RenA T A 0 0 A := fun j hj k hk => by simp

theorem RenA.put {F : FV} {A : Nat → Nat → Nat → Int} {b t : Nat} {A2 : Nat → Nat → Nat → Int} (h : RenA F A b t A2) (hb : b < F.blk.n) (ht : t < (F.B b).n) : RenA F A b (t + 1) (upd A2 b t (fun i => nm F (A b t i))) := fun j hj k hk => by
  have := h j hj k hk
  by_cases e : j = b ∧ k = t
  · obtain ⟨rfl, rfl⟩ := e
    rw [if_pos (by omega), upd_same]
  · rw [upd_other _ _ e]
    by_cases e2 : j < b ∨ j = b ∧ k < t
    · rw [if_pos e2] at this; rw [if_pos (by omega)]; exact this
    · rw [if_neg e2] at this; rw [if_neg (by omega)]; exact this

theorem RenA.next {F : FV} {A : Nat → Nat → Nat → Int} {b : Nat} {A2 : Nat → Nat → Nat → Int} (h : RenA F A b (F.B b).n A2) : RenA F A (b + 1) 0 A2 := fun j hj k hk => by
  have := h j hj k hk
  by_cases e2 : j < b ∨ j = b ∧ k < (F.B b).n
  · rw [if_pos e2] at this; rw [if_pos (by omega)]; exact this
  · rw [if_neg e2] at this
    rw [if_neg (fun h => ?_)]
    · exact this
    · rcases h with h | h
      · rcases Nat.lt_or_eq_of_le (Nat.le_of_lt_succ h) with h' | rfl
        · exact e2 (.inl h')
        · exact e2 (.inr ⟨rfl, hk⟩)
      · omega

/-- None of a function's own rows is written. -/
theorem own_turn {base : Nat} {w w' : World} {F : FV} {at_ : Id → Nat} {p : Nat → Prop} (h : Own base w F at_) (g : Turn p w w') (hB : ∀ b, (∃ x, has F x ∧ 0 < (sl F x).n ∧ b = at_ x) ∨ (∃ o, F.par.a = some ⟨b, o, none⟩ ∧ 0 < F.par.n) ∨ (∃ o, F.blk.a = some ⟨b, o, none⟩ ∧ 0 < F.blk.n) → ¬ p b) : Own base w' F at_ := by
  have hz := g.size
  have kp : Kept (fun k => k < w.heap.size ∧ ¬ p k) w w' := g.kept
  have xne : ∀ x, has F x → 0 < (sl F x).n → ¬ p (at_ x) := fun x hx h0 => hB _ (.inl ⟨x, hx, h0, rfl⟩)
  refine ⟨⟨?_, ?_, fun j hj => ?_, fun j hj k hk => ?_, fun j hj k hk => ?_⟩, h.adr, h.ge, fun x hx h0 => Nat.lt_of_lt_of_le (h.lt x hx h0) hz, fun x hx h0 i => by rw [g.froz _ (h.lt x hx h0)]; exact h.fz x hx h0 i, h.sep, h.par, h.blk, mine_turn h.pm g, mine_turn h.bm g⟩
  · exact h.inn.par.kept kp fun b o e h0 => ⟨Ints_lt h.inn.par b o e h0, hB b (.inr (.inl ⟨o, e, h0⟩))⟩
  · exact Sls_kept h.inn.blk kp fun b o e h0 => ⟨Sls_lt h.inn.blk b o e h0, hB b (.inr (.inr ⟨o, e, h0⟩))⟩
  · refine Inss_kept (h.inn.ins j hj) kp fun b o e h0 => ⟨Inss_lt (h.inn.ins j hj) b o e h0, ?_⟩
    rw [adr_inj (h.adr (.row j) hj h0) e]; exact xne _ hj h0
  · refine (h.inn.args j hj k hk).kept kp fun b o e h0 => ⟨Ints_lt (h.inn.args j hj k hk) b o e h0, ?_⟩
    rw [adr_inj (h.adr (.arg j k) ⟨hj, hk⟩ h0) e]; exact xne _ ⟨hj, hk⟩ h0
  · refine (h.inn.into j hj k hk).kept kp fun b o e h0 => ⟨Ints_lt (h.inn.into j hj k hk) b o e h0, ?_⟩
    rw [adr_inj (h.adr (.int j k) ⟨hj, hk⟩ h0) e]; exact xne _ ⟨hj, hk⟩ h0

structure Last (base N : Nat) (T : FV) (at_ : Id → Nat) (W0 : World) (I : Nat → Nat → IV) (A J : Nat → Nat → Nat → Int) (n b t : Nat) (wr : World) (A2 : Nat → Nat → Nat → Int) : Prop where
  own : Own base wr { T with I := I, A := A2, J := J } at_
  ra : RenA T A b t A2
  map : MapIs wr (N + 1) n (allMap T T.blk.n)
  turn : Turn (Ms T at_ N) W0 wr

theorem ren_of {T : FV} {I : Nat → Nat → IV} {A A2 J : Nat → Nat → Nat → Int} (h1 : RenT T T.blk.n 0 I) (h2 : RenA T A T.blk.n 0 A2) : Ren { T with A := A, J := J } T.blk.n 0 I A2 := fun j hj k hk => by
  have a := h1 j hj k hk
  have b := h2 j hj k hk
  have hj' : j < T.blk.n := hj
  rw [if_pos (.inl hj')] at a b
  rw [if_pos (.inl hj')]
  have n1 : Num2 T { T with A := A, J := J } := ⟨rfl, rfl, fun _ _ => rfl, fun _ _ _ _ => rfl, fun _ _ _ _ => rfl⟩
  refine ⟨by rw [a, n1.newTo hj' hk], ?_⟩
  rw [b]
  funext i
  exact (n1.nm _).symm

set_option maxRecDepth 10000 in
set_option maxHeartbeats 4000000 in
theorem neat_ref (F : FV) (w : World) (hF : In w F) (hl : Light F) (hr : Rng F) :
    Calls Try.prog 26 #[F.val] w fun e w' => Neated F w e w' := by
  have hmm := @run_makeMap Try.prog
  have HF := hid hF
  have HL := hid hl
  have HR := hid hr
  clear hF hl hr
  go_enter Try.func26, Try.ntmps26
  go_wp2_with fail
  refine (copyFunc_ref F _ (HF.out.on (new (new (same w) _) _)) HL.out).mono ?_
  rintro e w1 ⟨T, at_, rfl, own0, light0, tw, hb1⟩
  have hz1 := hb1.size
  simp only [World.size_alloc] at own0 hz1
  have ff := (((FuncAt.alloc w F).on (new (same _) (.cells (fcells zF) 36))).on hb1)
  have d1 := ((FuncAt.alloc (w.alloc (.cells (fcells F) 36)) zF).on hb1)
  simp only [World.size_alloc] at d1
  have f1 : ∀ i, w1.frozen? ⟨w.heap.size + 1, i, none⟩ = false := fun i => by rw [hb1.frozen (by simp)]; simp
  have B1 := hid (more (new (new (same w) _) _) hb1)
  have RT := hid (rng_twin tw HR.out)
  have OWN0 := hid own0
  have LI0 := hid light0
  have TW := hid tw
  have gp := light0.par
  have gb := light0.blk
  have EP := hid (show T.par.n = F.par.n from tw.par)
  have gp2 := HL.out.par
  have bnd : Hid (∀ b, rowsOf T at_ b → w.heap.size + 1 + 1 ≤ b ∧ b < w1.heap.size) := fun b ⟨x, hx, h0, e⟩ => by
    rw [e]; exact ⟨OWN0.out.ge x hx h0, OWN0.out.lt x hx h0⟩
  have PB : Hid ((∀ g o, T.par.a = some ⟨g, o, none⟩ → 0 < T.par.n → g < w1.heap.size) ∧ ∀ g o, T.blk.a = some ⟨g, o, none⟩ → 0 < T.blk.n → g < w1.heap.size) := ⟨Ints_lt own0.inn.par, Sls_lt own0.inn.blk⟩
  have PN : Hid ((∀ g o, T.par.a = some ⟨g, o, none⟩ → 0 < T.par.n → w.heap.size + 1 + 1 ≤ g) ∧ ∀ g o, T.blk.a = some ⟨g, o, none⟩ → 0 < T.blk.n → w.heap.size + 1 + 1 ≤ g) := ⟨fun g o e h0 => (own0.pm.ge g o e h0).1, fun g o e h0 => (own0.bm.ge g o e h0).1⟩
  have D1 := hid d1
  have F1 := hid f1
  obtain ⟨e0, e1, e2, e3, e4⟩ := ff
  have hzl : w.heap.size < w1.heap.size := by omega
  clear own0 light0 tw hb1 d1 f1
  go_wp2_with fail
  clear hmm e0 e1 e2 e3 e4 hzl
  obtain ⟨W0, hW0⟩ : ∃ W0, (w1.alloc (.cells (fcells T) 36)).alloc (.map #[] 0) = W0 := ⟨_, rfl⟩
  obtain ⟨N, hN⟩ : ∃ N, w1.heap.size = N := ⟨_, rfl⟩
  have mz : MapIs W0 (N + 1) 0 (m0 0) := by
    rw [← hW0, ← hN]
    have := MapIs.made (w1.alloc (.cells (fcells T) 36))
    simp only [World.size_alloc] at this
    exact this.congr (fun v => by unfold m0; rw [if_neg (by omega)]) (Nat.le_refl _)
  have zW : W0.heap.size = N + 2 := by rw [← hW0, ← hN]; simp
  have oW : Own (w.heap.size + 1 + 1) W0 T at_ := by rw [← hW0]; exact (OWN0.out.on (new (same _) _)).on (new (same _) _)
  have gW : FuncAt W0 N T := by rw [← hW0, ← hN]; exact (FuncAt.alloc w1 T).on (new (same _) _)
  have dW : FuncAt W0 (w.heap.size + 1) zF := by rw [← hW0]; exact (D1.out.on (new (same _) _)).on (new (same _) _)
  have fW : ∀ i, W0.frozen? ⟨w.heap.size + 1, i, none⟩ = false := fun i => by rw [← hW0, World.frozen?_alloc_old _ _ _ (by show w.heap.size + 1 ≠ _; simp; omega), World.frozen?_alloc_old _ _ _ (by show w.heap.size + 1 ≠ _; omega)]; exact F1.out i
  have lW : Below w.heap.size w W0 := by rw [← hW0]; exact new (new B1.out _) _
  rw [hW0, hN]
  rw [hN] at hz1 bnd PB
  have FT : Hid (∀ wr, Turn (Ms T at_ N) W0 wr → FuncAt wr N T ∧ FuncAt wr (w.heap.size + 1) zF ∧ (∀ i, wr.frozen? ⟨w.heap.size + 1, i, none⟩ = false) ∧ Below w.heap.size w wr ∧ N + 2 ≤ wr.heap.size) := fun wr ht =>
    ⟨gW.kept ht.kept ⟨by omega, fun h => h.elim (fun h => by have := (bnd.out _ h).2; omega) (fun h => by omega)⟩, dW.kept ht.kept ⟨by omega, fun h => h.elim (fun h => by have := (bnd.out _ h).1; omega) (fun h => by omega)⟩, fun i => by rw [ht.froz _ (by show w.heap.size + 1 < _; omega)]; exact fW i, below_turn lW ht (fun k hk h => h.elim (fun h => by have := (bnd.out _ h).1; omega) (fun h => by omega)) (by omega), by have := ht.size; omega⟩
  have MZ := hid mz
  have OW := hid oW
  clear hW0 hN mz oW gW dW fW lW D1 F1 OWN0 B1
  go_loopw [6] (fun i wr => ∃ k : Nat, k ≤ F.par.n ∧ i = .int .i64 ((k : Int) + 1) ∧ MapIs wr (N + 1) k (m0 k) ∧ Turn (fun x => x = N + 1) W0 wr) (fun i _ => F.par.n + 1 - (intOf i).toNat)
  case atStart => exact ⟨0, Nat.zero_le _, rfl, MZ.out, Turn.refl _ _⟩
  case round =>
    clear MZ
    obtain ⟨k, hk, rfl, hm, ht⟩ := hrel
    have HM := hid (And.intro hm ht)
    clear hm ht
    by_cases hlt : k < F.par.n
    · have q1 : decide ((k : Int) + 1 ≤ (F.par.n : Int)) = true := by simp; omega
      go_wp2_with (at_mapUpdate; refine wpList_put rfl (.tmp 27) (.tmp 28) (.tmp 29) rfl (N + 1) k _ rfl HM.out.1 (by omega) ((k : Int) + 1) ((k : Int) + 1) rfl rfl ⟨by omega, by omega⟩ ⟨by omega, by omega⟩ ?_; intro w2 hm2 hg2)
      have FIN := hid (And.intro hm2 hg2)
      clear hm2 hg2
      go_wp2_with fail
      go_round
      case rel =>
        refine ⟨k + 1, by omega, by go_num, FIN.out.1.congr (fun v => ?_) (Nat.le_refl _), turn_map HM.out.2 FIN.out.2 rfl HM.out.1 FIN.out.1⟩
        unfold m0
        by_cases e : v = (k : Int) + 1
        · rw [if_pos e, if_pos (by omega), e]
        · rw [if_neg e]
          by_cases e2 : 1 ≤ v ∧ v ≤ k
          · rw [if_pos e2, if_pos (by omega)]
          · rw [if_neg e2, if_neg (by omega)]
      case measure => simp [intOf]; omega
    · obtain rfl : k = F.par.n := by omega
      have q1 : decide ((F.par.n : Int) + 1 ≤ (F.par.n : Int)) = false := by simp; omega
      have GG : Hid (∀ j, j ≤ T.blk.n → cnt (fun j => giv (T.I j) (T.B j).n) j ≤ j * 90) := fun j hj => cnt_le (fun i hi => Nat.le_trans (giv_le _ _) (LI0.out.ins i (by omega)))
      have zR := HM.out.2.size
      have ST := hid (show Half (w.heap.size + 1 + 1) N T at_ W0 0 0 0 wr T.I T.A T.J F.par.n from ⟨own_turn OW.out HM.out.2 (fun x hx => by rcases hx with ⟨y, hy, h0, e⟩ | ⟨o, e, h0⟩ | ⟨o, e, h0⟩; have := (bnd.out _ ⟨y, hy, h0, e⟩).2; omega; have := PB.out.1 x o e h0; omega; have := PB.out.2 x o e h0; omega), Upto.start T, fun j hj k hk => by simp, by simp [lastOf, cnt, EP.out], by have := HM.out.1; rw [← EP.out] at this ⊢; exact this, HM.out.2.wide (fun b h => .inr h), fun x hx h0 => (bnd.out _ ⟨x, hx, h0, rfl⟩).2⟩)
      clear HM
      go_wp2_with fail
      go_loopw [4, 7] (fun l i wr => ∃ b : Nat, b ≤ T.blk.n ∧ i = .int .i64 b ∧ l = .int .i64 (lastOf T b) ∧ ∃ I A J n, Half (w.heap.size + 1 + 1) N T at_ W0 b 0 0 wr I A J n) (fun _ i _ => T.blk.n - (intOf i).toNat)
      case atStart => exact ⟨0, Nat.zero_le _, rfl, by simp [lastOf, cnt, EP.out], _, _, _, _, ST.out⟩
      case round =>
        clear ST zR hlt q1
        obtain ⟨b, hb, rfl, rfl, I, A, J, n, hh⟩ := hrel
        obtain ⟨⟨x0, x1, x2, x3, x4⟩, _⟩ := FT.out _ hh.turn
        have HH := hid hh
        have g1 := GG.out b hb
        by_cases hlt : b < T.blk.n
        · have g5 := LI0.out.ins b hlt
          obtain ⟨L, hL⟩ : ∃ L, lastOf T b = L := ⟨_, rfl⟩
          have hLb : L ≤ 1500 := by
            have : lastOf T b = T.par.n + cnt (fun j => giv (T.I j) (T.B j).n) b := rfl
            omega
          rw [hL]
          have HLL := hid hL
          clear hL hh
          go_wp2_with fail
          go_loopw [4, 8] (fun l i wx => ∃ t : Nat, t ≤ (T.B b).n ∧ i = .int .i64 t ∧ l = .int .i64 ((L + giv (T.I b) t : Nat) : Int) ∧ ∃ I A J n, Half (w.heap.size + 1 + 1) N T at_ W0 b t t wx I A J n) (fun _ i _ => (T.B b).n - (intOf i).toNat)
          case atStart => exact ⟨0, Nat.zero_le _, rfl, by simp [giv], _, _, _, _, HH.out⟩
          case round =>
            clear HH x0 x1 x2 x3 x4 I A J n
            obtain ⟨t, ht0, rfl, rfl, I, A, J, n, hh⟩ := hrel
            obtain ⟨⟨x0, x1, x2, x3, x4⟩, _, _, _, zr⟩ := FT.out _ hh.turn
            obtain ⟨bb, oo, hix, hck⟩ := hh.own.inn.blk.at hlt
            have g6 := giv_le (T.I b) t
            obtain ⟨L1, hL1⟩ : ∃ L1, L + giv (T.I b) t = L1 := ⟨_, rfl⟩
            rw [hL1]
            have hL1b : L1 ≤ 1600 := by omega
            have HL1 := hid (show lastOf T b + giv (T.I b) t = L1 by rw [HLL.out]; exact hL1)
            have HL2 := hid hL1
            clear hL1
            by_cases htl : t < (T.B b).n
            · obtain ⟨eI, hI, hiy, hrl, hfr⟩ := hh.ins hlt htl
              have hto := RT.out.to b hlt t htl
              have HH := hid hh
              have EI := hid eI
              obtain ⟨R, hR⟩ : ∃ R, at_ (.row b) = R := ⟨_, rfl⟩
              rw [hR] at hI hiy hrl hfr
              have HRq := hid hR
              have HI := hid hI
              obtain ⟨c0, c1, c2, c3, c4, c5, c6⟩ := hI
              clear hh hR eI
              by_cases hop : (T.I b t).op = 26
              · have d0 : ((T.I b t).op == 26) = true := by simp [hop]
                have HP := hid hop
                clear hop
                go_upto_region 15 with fail
                have eI2 : ({ T with I := I, A := A, J := J } : FV).I b t = T.I b t := EI.out
                have hrise := rise_own (w.heap.size + 1 + 1) { T with I := I, A := A, J := J } at_ wr HH.out.own (j := b) (k := t) hlt htl (by rw [eI2]; exact HP.out) (by rw [eI2]; exact LI0.out.into b hlt t htl)
                rw [eI2] at hrise
                have HRS := hid hrise
                clear hrise eI2
                go_wp2_with fail
                refine HRS.out.mono ?_
                rintro e w2 ⟨rfl, a', j', hput, own2, t2⟩
                have eI2 : ({ T with I := I, A := A, J := J } : FV).I b t = T.I b t := EI.out
                rw [eI2] at hput ⊢
                have mid : ∃ A2 J2, Half (w.heap.size + 1 + 1) N T at_ W0 b t (t + 1) w2 I A2 J2 n := by
                  have hA := HH.out.up b hlt t htl
                  rw [if_neg (by omega)] at hA
                  have hput' : Put (T.I b t) (T.A b t) (T.J b t) a' j' := by rw [← hA.1, ← hA.2]; exact hput
                  have rw_ : ∀ x, rowsOf { T with I := I, A := A, J := J } at_ x → rowsOf T at_ x := fun x ⟨y, hy, h0, e⟩ => by
                    have hy' : has T y := by cases y <;> exact hy
                    rw [half_sl HH.out.ren y hy'] at h0
                    exact ⟨y, hy', h0, e⟩
                  refine ⟨_, _, own2, HH.out.up.put hlt htl hput', HH.out.ren, HH.out.le, HH.out.map.at_block (t2.block (N + 1) (by omega) (fun h => by have := (bnd.out _ (rw_ _ h)).2; omega)), HH.out.turn.trans (t2.wide fun x hx => .inl (rw_ x hx)), HH.out.far⟩
                obtain ⟨A2, J2, mid⟩ := mid
                obtain ⟨eI3, hI3, _, _, hfr3⟩ := mid.ins hlt htl
                obtain ⟨⟨y0, y1, y2, y3, y4⟩, _, _, _, zr2⟩ := FT.out _ mid.turn
                obtain ⟨bb2, oo2, hix2, hck2⟩ := mid.own.inn.blk.at hlt
                rw [HRq.out] at hI3 hfr3
                have HM := hid mid
                clear hput own2 t2 mid eI2 eI3 HRS HH HI c0 c1 c2 c3 c4 c5 c6 hfr hix hck x0 x1 x2 x3 x4 zr
                obtain ⟨c0, c1, c2, c3, c4, c5, c6⟩ := hI3
                have hfr := hfr3
                have zr := zr2
                clear hfr3 zr2
                go_upto_region 16 with fail
                rw [setCell_self c0, setCell_self c1, setCell_self c2, setCell_self c3, setCell_self c4, setCell_self c5, setCell_self c6]
                go_upto_region 16 with fail
                by_cases hty : (T.I b t).ty = 0
                · have t1 : ((T.I b t).ty == 0) = true := by simp [hty]
                  have eg : giv (T.I b) (t + 1) = giv (T.I b) t := by simp [giv, hty]
                  obtain ⟨I', hh'⟩ := HM.out.setTo hlt htl (n' := n) (by rw [eg]; exact HM.out.le) HM.out.own (HM.out.map.congr (fun v => (rowMap_no (fun h => h.1 hty)).symm) (Nat.le_refl _)) HM.out.turn (u := 0) (by simp [newTo, hty])
                  rw [HRq.out] at hh'
                  have FIN := hid hh'
                  have EG := hid eg
                  clear hh' eg
                  go_wp2_with fail
                  go_round
                  case rel => exact ⟨t + 1, by omega, by go_num, by rw [EG.out, HL2.out], I', _, _, _, FIN.out⟩
                  case measure => simp [intOf]; omega
                · have t1 : ((T.I b t).ty == 0) = false := by simp [hty]
                  have eg : giv (T.I b) (t + 1) = giv (T.I b) t + 1 := by simp [giv, hty]
                  have en : newTo T b t = (L1 : Int) + 1 := by simp only [newTo, if_neg hty, eg]; have := HL1.out; omega
                  have hlk := HM.out.map.look_ok hto
                  obtain ⟨mv, hmv⟩ : ∃ mv, rowMap (allMap T b) (lastOf T b) (T.I b) t (T.I b t).to = mv := ⟨_, rfl⟩
                  rw [hmv] at hlk
                  have HTY := hid hty
                  have EG := hid eg
                  have EN := hid en
                  clear hty eg en
                  cases mv with
                  | some c =>
                    simp only [Option.isSome_some, Option.getD_some] at hlk
                    obtain ⟨I', hh'⟩ := HM.out.setTo hlt htl (n' := n) (by rw [EG.out]; have := HM.out.le; omega) HM.out.own (HM.out.map.congr (fun v => (rowMap_no (fun h => by rw [hmv] at h; simp at h)).symm) (Nat.le_refl _)) HM.out.turn (u := (L1 : Int) + 1) EN.out.symm
                    rw [HRq.out] at hh'
                    have FIN := hid hh'
                    have HMV := hid hmv
                    clear hmv hh'
                    go_wp2_with fail
                    go_round
                    case rel => exact ⟨t + 1, by omega, by go_num, by rw [EG.out, ← Nat.add_assoc, HL2.out]; simp, I', _, _, _, FIN.out⟩
                    case measure => simp [intOf]; omega
                  | none =>
                    simp only [Option.isSome_none, Option.getD_none] at hlk
                    have HMV := hid hmv
                    clear hmv
                    have hle := HM.out.le
                    have hl1 := HL1.out
                    go_wp2_with (at_mapUpdate; refine wpList_put rfl (.tmp 88) (.tmp 92) (.tmp 93) rfl (N + 1) n _ rfl HM.out.map (by omega) (T.I b t).to ((L1 : Int) + 1) rfl rfl hto ⟨by omega, by omega⟩ ?_; intro w3 hm3 hg3; have kx : InsAt w3 R (t * 7) (T.I b t) := (InsAt.kept ⟨c0, c1, c2, c3, c4, c5, c6⟩ (kept_of_grown hg3) ⟨by omega, by omega⟩); have kf : ∀ i, w3.frozen? ⟨R, i, none⟩ = false := (fun i => (by rw [World.frozen?_of_block (hg3.block R (by omega) (fun e => by have := Option.some.inj e; omega))]; exact hfr i)); have FIN := hid (And.intro hm3 hg3); clear c0 c1 c2 c3 c4 c5 c6 hfr hm3 hg3; obtain ⟨c0, c1, c2, c3, c4, c5, c6⟩ := kx)
                    have mp := FIN.out.1.congr (m' := rowMap (allMap T b) (lastOf T b) (T.I b) (t + 1)) (n' := n + 1) (fun v => by
                      by_cases e : v = (T.I b t).to
                      · rw [if_pos e, rowMap_yes HTY.out HMV.out e, EG.out]; exact congrArg some (by have := HL1.out; omega)
                      · rw [if_neg e, rowMap_no (fun h => e h.2.2)]) (Nat.le_refl _)
                    obtain ⟨I', hh'⟩ := HM.out.setTo hlt htl (n' := n + 1) (by rw [EG.out]; omega) (HM.out.off PB.out.1 PB.out.2 FIN.out.2) mp (turn_map HM.out.turn FIN.out.2 (.inr rfl) HM.out.map FIN.out.1) (u := (L1 : Int) + 1) EN.out.symm
                    rw [HRq.out] at hh'
                    have FF := hid hh'
                    clear mp hh'
                    go_round
                    case rel => exact ⟨t + 1, by omega, by go_num, by rw [EG.out, ← Nat.add_assoc, HL2.out]; simp, I', _, _, _, FF.out⟩
                    case measure => simp [intOf]; omega
              · have d0 : ((T.I b t).op == 26) = false := by simp [hop]
                have HM := hid (show Half (w.heap.size + 1 + 1) N T at_ W0 b t (t + 1) wr I A J n from ⟨HH.out.own, HH.out.up.skip hlt htl (by unfold Put; rw [if_neg (fun h => hop h.1)]; exact ⟨rfl, rfl⟩), HH.out.ren, HH.out.le, HH.out.map, HH.out.turn, HH.out.far⟩)
                clear HH hop
                go_upto_region 16 with fail
                by_cases hty : (T.I b t).ty = 0
                · have t1 : ((T.I b t).ty == 0) = true := by simp [hty]
                  have eg : giv (T.I b) (t + 1) = giv (T.I b) t := by simp [giv, hty]
                  obtain ⟨I', hh'⟩ := HM.out.setTo hlt htl (n' := n) (by rw [eg]; exact HM.out.le) HM.out.own (HM.out.map.congr (fun v => (rowMap_no (fun h => h.1 hty)).symm) (Nat.le_refl _)) HM.out.turn (u := 0) (by simp [newTo, hty])
                  rw [HRq.out] at hh'
                  have FIN := hid hh'
                  have EG := hid eg
                  clear hh' eg
                  go_wp2_with fail
                  go_round
                  case rel => exact ⟨t + 1, by omega, by go_num, by rw [EG.out, HL2.out], I', _, _, _, FIN.out⟩
                  case measure => simp [intOf]; omega
                · have t1 : ((T.I b t).ty == 0) = false := by simp [hty]
                  have eg : giv (T.I b) (t + 1) = giv (T.I b) t + 1 := by simp [giv, hty]
                  have en : newTo T b t = (L1 : Int) + 1 := by simp only [newTo, if_neg hty, eg]; have := HL1.out; omega
                  have hlk := HM.out.map.look_ok hto
                  obtain ⟨mv, hmv⟩ : ∃ mv, rowMap (allMap T b) (lastOf T b) (T.I b) t (T.I b t).to = mv := ⟨_, rfl⟩
                  rw [hmv] at hlk
                  have HTY := hid hty
                  have EG := hid eg
                  have EN := hid en
                  clear hty eg en
                  cases mv with
                  | some c =>
                    simp only [Option.isSome_some, Option.getD_some] at hlk
                    obtain ⟨I', hh'⟩ := HM.out.setTo hlt htl (n' := n) (by rw [EG.out]; have := HM.out.le; omega) HM.out.own (HM.out.map.congr (fun v => (rowMap_no (fun h => by rw [hmv] at h; simp at h)).symm) (Nat.le_refl _)) HM.out.turn (u := (L1 : Int) + 1) EN.out.symm
                    rw [HRq.out] at hh'
                    have FIN := hid hh'
                    have HMV := hid hmv
                    clear hmv hh'
                    go_wp2_with fail
                    go_round
                    case rel => exact ⟨t + 1, by omega, by go_num, by rw [EG.out, ← Nat.add_assoc, HL2.out]; simp, I', _, _, _, FIN.out⟩
                    case measure => simp [intOf]; omega
                  | none =>
                    simp only [Option.isSome_none, Option.getD_none] at hlk
                    have HMV := hid hmv
                    clear hmv
                    have hle := HM.out.le
                    have hl1 := HL1.out
                    go_wp2_with (at_mapUpdate; refine wpList_put rfl (.tmp 88) (.tmp 92) (.tmp 93) rfl (N + 1) n _ rfl HM.out.map (by omega) (T.I b t).to ((L1 : Int) + 1) rfl rfl hto ⟨by omega, by omega⟩ ?_; intro w3 hm3 hg3; have kx : InsAt w3 R (t * 7) (T.I b t) := (InsAt.kept ⟨c0, c1, c2, c3, c4, c5, c6⟩ (kept_of_grown hg3) ⟨by omega, by omega⟩); have kf : ∀ i, w3.frozen? ⟨R, i, none⟩ = false := (fun i => (by rw [World.frozen?_of_block (hg3.block R (by omega) (fun e => by have := Option.some.inj e; omega))]; exact hfr i)); have FIN := hid (And.intro hm3 hg3); clear c0 c1 c2 c3 c4 c5 c6 hfr hm3 hg3; obtain ⟨c0, c1, c2, c3, c4, c5, c6⟩ := kx)
                    have mp := FIN.out.1.congr (m' := rowMap (allMap T b) (lastOf T b) (T.I b) (t + 1)) (n' := n + 1) (fun v => by
                      by_cases e : v = (T.I b t).to
                      · rw [if_pos e, rowMap_yes HTY.out HMV.out e, EG.out]; exact congrArg some (by have := HL1.out; omega)
                      · rw [if_neg e, rowMap_no (fun h => e h.2.2)]) (Nat.le_refl _)
                    obtain ⟨I', hh'⟩ := HM.out.setTo hlt htl (n' := n + 1) (by rw [EG.out]; omega) (HM.out.off PB.out.1 PB.out.2 FIN.out.2) mp (turn_map HM.out.turn FIN.out.2 (.inr rfl) HM.out.map FIN.out.1) (u := (L1 : Int) + 1) EN.out.symm
                    rw [HRq.out] at hh'
                    have FF := hid hh'
                    clear mp hh'
                    go_round
                    case rel => exact ⟨t + 1, by omega, by go_num, by rw [EG.out, ← Nat.add_assoc, HL2.out]; simp, I', _, _, _, FF.out⟩
                    case measure => simp [intOf]; omega
            · obtain rfl : t = (T.B b).n := by omega
              have HH := hid hh
              clear hh
              go_wp2_with fail
              go_round
              case rel => exact ⟨b + 1, by omega, by go_num, by rw [← HL1.out]; simp [lastOf, cnt, Nat.add_assoc], _, _, _, _, HH.out.next⟩
              case measure => simp [intOf]; omega
        · obtain rfl : b = T.blk.n := by omega
          have ST := hid (show Last (w.heap.size + 1 + 1) N T at_ W0 I A J n 0 0 wr A from ⟨hh.own, RenA.start T A, hh.map, hh.turn⟩)
          have RA := hid (show Rng { T with A := A, J := J } from rng_put RT.out hh.up)
          clear hh
          go_wp2_with fail
          go_loopw [12] (fun i wr => ∃ b : Nat, b ≤ T.blk.n ∧ i = .int .i64 b ∧ ∃ A2, Last (w.heap.size + 1 + 1) N T at_ W0 I A J n b 0 wr A2) (fun i _ => T.blk.n - (intOf i).toNat)
          case atStart => exact ⟨0, Nat.zero_le _, rfl, _, ST.out⟩
          case round =>
            clear ST x0 x1 x2 x3 x4 hlt
            obtain ⟨b, hb, rfl, A2, hh⟩ := hrel
            obtain ⟨⟨x0, x1, x2, x3, x4⟩, ⟨z0, z1, z2, z3, z4⟩, zz, lo, _⟩ := FT.out _ hh.turn
            have HL3 := hid hh
            clear hh
            by_cases hlt : b < T.blk.n
            · have g5 := LI0.out.ins b hlt
              clear z0 z1 z2 z3 z4 zz lo
              go_wp2_with fail
              go_loopw [13] (fun i wx => ∃ t : Nat, t ≤ (T.B b).n ∧ i = .int .i64 t ∧ ∃ A2, Last (w.heap.size + 1 + 1) N T at_ W0 I A J n b t wx A2) (fun i _ => (T.B b).n - (intOf i).toNat)
              case atStart => exact ⟨0, Nat.zero_le _, rfl, _, HL3.out⟩
              case round =>
                clear HL3 x0 x1 x2 x3 x4 A2
                obtain ⟨t, ht0, rfl, A2, hh⟩ := hrel
                obtain ⟨⟨x0, x1, x2, x3, x4⟩, _, _, _, zr⟩ := FT.out _ hh.turn
                obtain ⟨bb, oo, hix, hck⟩ := hh.own.inn.blk.at hlt
                have HL3 := hid hh
                by_cases htl : t < (T.B b).n
                · obtain ⟨hI, hiy⟩ := hh.own.insAt (j := b) (k := t) hlt htl
                  have es : (I b t).args = (T.I b t).args := (ren_sl HH.out.ren hlt htl).1
                  have hrn : at_ (.row b) < N := (bnd.out _ ⟨.row b, hlt, by show 0 < (T.B b).n; omega, rfl⟩).2
                  have c5 : wr.cell? ⟨at_ (.row b), t * 7 + 5, none⟩ = some (.slice (T.I b t).args.a (T.I b t).args.n (T.I b t).args.c) := by have := hI.c5; simp only [es] at this; exact this
                  have hE := hh.ra b hlt t htl
                  rw [if_neg (by omega)] at hE
                  have ia : Hid (Ints wr (T.I b t).args (A b t)) := by
                    have := hh.own.inn.args b hlt t htl
                    simp only [es, hE] at this
                    exact this
                  have hargs : Hid (∀ h0 : 0 < (T.I b t).args.n, (T.I b t).args.a = some ⟨at_ (.arg b t), 0, none⟩ ∧ at_ (.arg b t) < N ∧ (∀ i, wr.frozen? ⟨at_ (.arg b t), i, none⟩ = false)) := fun h0 => by
                    have h0' : 0 < (sl { T with I := I, A := A2, J := J } (.arg b t)).n := by show 0 < (I b t).args.n; rw [es]; exact h0
                    exact ⟨by have := hh.own.adr (.arg b t) ⟨hlt, htl⟩ h0'; simp only [sl, es] at this; exact this, (bnd.out _ ⟨.arg b t, ⟨hlt, htl⟩, h0, rfl⟩).2, hh.own.fz (.arg b t) ⟨hlt, htl⟩ h0'⟩
                  have ga := LI0.out.args b hlt t htl
                  have HE := hid hE
                  have ES := hid es
                  clear hh hI hE es
                  obtain ⟨Q, hQ⟩ : ∃ Q, at_ (.arg b t) = Q := ⟨_, rfl⟩
                  have HQq := hid hQ
                  clear hQ
                  go_wp2_with fail
                  go_loopw [15] (fun i wx => ∃ s : Nat, s ≤ (T.I b t).args.n ∧ i = .int .i64 s ∧ Ints wx (T.I b t).args (mix s (fun i => nm T (A b t i)) (A b t)) ∧ Turn (fun x => x = at_ (.arg b t) ∧ 0 < (T.I b t).args.n) wr wx ∧ MapIs wx (N + 1) n (allMap T T.blk.n)) (fun i _ => (T.I b t).args.n - (intOf i).toNat)
                  case atStart => exact ⟨0, Nat.zero_le _, rfl, ia.out.congr (fun i _ => by simp [mix]), Turn.refl _ _, HL3.out.map⟩
                  case round =>
                    obtain ⟨s, hs, rfl, is, hts, hms⟩ := hrel
                    by_cases hsl : s < (T.I b t).args.n
                    · obtain ⟨ka, kq, kf⟩ := hargs.out (by omega)
                      rw [HQq.out] at ka kq kf
                      obtain ⟨y0, y1⟩ := own_at is ka hsl
                      have e1 : mix s (fun i => nm T (A b t i)) (A b t) s = A b t s := by simp [mix]
                      rw [e1] at y1
                      have hlk1 : (Instr.lookup 80 (.map (some (N + 1))) (.int .i64 (A b t s)) false).run Try.prog wr = .ok (.int .i64 (nm T (A b t s))) wr := MapIs.look hms (RA.out.args b hlt t htl s hsl)
                      have hf1 : wr.frozen? ⟨Q, s, none⟩ = false := by rw [hts.froz _ (by show Q < _; omega)]; exact kf s
                      have HS := hid (And.intro is (And.intro hts hms))
                      have KA := hid ka
                      clear is hts hms e1 ka kf
                      go_wp2_with fail
                      go_round
                      case rel =>
                        have is2 := (own_set HS.out.1 KA.out hsl (nm T (A b t s))).congr (fun i _ => mix_step s (fun i => nm T (A b t i)) (A b t) i)
                        exact ⟨s + 1, by omega, by go_num, is2, HS.out.2.1.setCell (x := ⟨Q, s, none⟩) (.inl ⟨HQq.out.symm, by omega⟩) _, map_set HS.out.2.2 (a := ⟨Q, s, none⟩) (by show _ ≠ Q; omega) _⟩
                      case measure => simp [intOf]; omega
                    · obtain rfl : s = (T.I b t).args.n := by omega
                      have FIN : Hid (Last (w.heap.size + 1 + 1) N T at_ W0 I A J n b (t + 1) wr (upd A2 b t (fun i => nm T (A b t i)))) := by
                        have ia2 : Ints wr (T.I b t).args (fun i => nm T (A b t i)) := is.congr (fun i hi => by simp [mix, hi])
                        have hp' : ∀ x, (x = at_ (.arg b t) ∧ 0 < (T.I b t).args.n) → (x = at_ (.arg b t) ∧ 0 < (I b t).args.n) ∨ (x = at_ (.int b t) ∧ 0 < (I b t).into.n) := fun x hx => .inl ⟨hx.1, by rw [ES.out]; exact hx.2⟩
                        have o0 := HL3.out.own
                        have ij2 : Ints wr (I b t).into (J b t) := by
                          refine (o0.inn.into b hlt t htl).kept hts.kept fun g o ha h0 => ⟨Ints_lt (o0.inn.into b hlt t htl) g o ha h0, fun hx => ?_⟩
                          have e1 := adr_inj (o0.adr (.int b t) ⟨hlt, htl⟩ h0) ha
                          have := o0.sep (.int b t) (.arg b t) ⟨hlt, htl⟩ ⟨hlt, htl⟩ h0 (by show 0 < (I b t).args.n; rw [ES.out]; exact hx.2) (by rw [← e1]; exact hx.1)
                          cases this
                        have o2 := o0.rows hts (j := b) (k := t) hlt htl hp' (by show Ints wr (I b t).args _; rw [ES.out]; exact ia2) ij2
                        have eJ : upd J b t (J b t) = J := upd_self _ _ _
                        simp only [eJ] at o2
                        exact ⟨o2, HL3.out.ra.put hlt htl, hms, HL3.out.turn.trans (hts.wide fun x hx => .inl ⟨.arg b t, ⟨hlt, htl⟩, hx.2, hx.1⟩)⟩
                      clear is hts hms
                      go_wp2_with fail
                      go_round
                      case rel =>
                        (repeat apply Exists.intro)
                        exact ⟨⟨t + 1, by omega, by go_num, _, FIN.out⟩, rfl⟩
                      case measure => simp [intOf]; omega
                · obtain rfl : t = (T.B b).n := by omega
                  clear hh
                  go_wp2_with fail
                  go_round
                  case rel => exact ⟨b + 1, by omega, by go_num, _, HL3.out.own, HL3.out.ra.next, HL3.out.map, HL3.out.turn⟩
                  case measure => simp [intOf]; omega
            · obtain rfl : b = T.blk.n := by omega
              have LO := hid lo
              clear lo
              go_wp2_with fail
              refine bodyPost_ret (v := T.val) (by rw [results_cell rfl]; go_simp) rfl ?_
              refine ⟨{ T with A := A2, J := J, I := I }, at_, rfl, ?_, neats_of TW.out HH.out.up (ren_of HH.out.ren HL3.out.ra), ?_⟩
              · refine (HL3.out.own.far (p := fun b => b = w.heap.size + 1) ?_ (fun b e => by omega)).less (by omega)
                repeat (refine Turn.setCell ?_ (by simp) _)
                exact Turn.refl _ _
              · repeat (refine Below.setCell ?_ (by simp) _)
                exact LO.out

end Go.Proofs.Ythaedlnefikigaa.Own
