/-
  The walk of plnlaw3.IrNeat: it answers true, whatever function lies there.
-/
import Derived.Test.YthaedlnefikigaaPure
import Derived.Test.YthaedlnefikigaaFirst
import Derived.Test.YthaedlnefikigaaLight
import Derived.BigQuiet
import Derived.Deep.QuietTactic
namespace Go.Proofs.Ythaedlnefikigaa.NeatLaw
open Go.RowKit View Rd Copy Srt Num Own Ty First

set_option linter.unusedVariables false

theorem cnt_mono {f g : Nat → Nat} : ∀ {k : Nat}, (∀ t, t < k → f t ≤ g t) → cnt f k ≤ cnt g k
  | 0, _ => Nat.le_refl _
  | k + 1, h => by
    have h1 := cnt_mono (k := k) (fun t ht => h t (by omega))
    have h2 := h k (by omega)
    rw [cnt, cnt]; omega

theorem total_le {F : FV} (hl : Light F) : F.par.n + cnt (fun j => giv (F.I j) (F.B j).n) F.blk.n ≤ 98 := by
  have h1 := cnt_mono (f := fun j => giv (F.I j) (F.B j).n) (g := fun j => (F.B j).n) (k := F.blk.n) (fun t ht => giv_le _ _)
  have := hl.all
  have := hl.par
  omega

theorem same_true (F G : FV) (w : World) (hF : In w F) (hG : In w G) (hl : Light F) (h : EqF F G) : Calls Try.prog 24 #[F.val, G.val] w fun e w' => e = .returned (.bool true) ∧ Below w.heap.size w w' := by
  refine (sameFunc_ref F G w hF hG hl).mono ?_
  rintro e w' ⟨r, rfl, hr, hb⟩
  rw [hr.2 h]; exact ⟨rfl, hb⟩

theorem ints_true (s t : Sl) (f g : Nat → Int) (w : World) (hs : Ints w s f) (ht : Ints w t g) (hsm : s.n ≤ 1000) (h : Eqs s t f g) : Calls Try.prog 19 #[.slice s.a s.n s.c, .slice t.a t.n t.c] w fun e w' => e = .returned (.bool true) ∧ Below w.heap.size w w' := by
  refine (ints_any s t f g w hs ht hsm).mono ?_
  rintro e w' ⟨r, rfl, hr, q, rfl⟩
  rw [hr.2 h]; exact ⟨rfl, below_drewN' w q⟩

set_option maxRecDepth 100000 in
set_option maxHeartbeats 1000000 in
theorem walk (F : FV) (w : World) (hF : In w F) (hr : Rng F) :
    Calls Try.prog 5 #[F.val] w fun e w' => e = .returned (.bool true) ∧ Below w.heap.size w w' := by
  have HF := hid hF
  have HR := hid hr
  clear hF hr
  go_enter Try.func5, Try.ntmps5
  go_wp2_with fail
  refine (first_any _).mono ?_
  rintro e w1 ⟨rfl, hb1⟩
  have f1 := FuncAt.on hb1 (FuncAt.alloc w F)
  have B1 := hid (more (new (same w) _) hb1)
  have FA1 := hid f1
  obtain ⟨c0, c1, c2, c3, c4⟩ := f1
  clear hb1
  go_wp2_with fail
  refine (light_any F _ (HF.out.on B1.out)).mono ?_
  rintro e w2 ⟨r, rfl, hr, hb2⟩
  have B2 := hid (more B1.out hb2)
  have FA2 := hid (FA1.out.on hb2)
  clear hb2 c0 c1 c2 c3 c4 FA1 B1
  cases r
  · clear hr
    go_wp2_with fail
    refine (first_any _).mono ?_
    rintro e w3 ⟨rfl, hb3⟩
    have B3 := hid (more B2.out hb3)
    clear hb3
    go_wp2_with fail
    go_ret
    exact ⟨rfl, B3.out⟩
  have HL := hid (hr rfl)
  clear hr
  obtain ⟨c0, c1, c2, c3, c4⟩ := FA2.out
  go_wp2_with fail
  refine (neat_any F _ (HF.out.on B2.out) HL.out HR.out).mono ?_
  rintro e w4 ⟨G, at_, rfl, own, ne, hb4⟩
  have B4 := hid (more B2.out hb4)
  have FA4 := hid ((FA2.out.on hb4).on (new (same _) (.cells (fcells G) 36)))
  have GA4 := hid (FuncAt.alloc w4 G)
  have IF4 := hid ((HF.out.on B4.out).on (new (same _) (.cells (fcells G) 36)))
  have IG4 := hid (own.inn.on (new (same _) (.cells (fcells G) 36)))
  have B5 := hid (new B4.out (.cells (fcells G) 36))
  have NE := hid ne
  clear own ne hb4 c0 c1 c2 c3 c4 FA2 B2 B4
  go_wp2_with fail
  obtain ⟨N3, hN3⟩ : ∃ N3, w4.heap.size = N3 := ⟨_, rfl⟩
  rw [hN3] at GA4 ⊢
  clear hN3
  obtain ⟨W, hW⟩ : ∃ W, w4.alloc (.cells (fcells G) 36) = W := ⟨_, rfl⟩
  rw [hW] at FA4 GA4 IF4 IG4 B5 ⊢
  clear hW
  have cf : ∀ wx, Below W.heap.size W wx → FuncAt wx w.heap.size F := fun wx h => FA4.out.on h
  have cg : ∀ wx, Below W.heap.size W wx → FuncAt wx N3 G := fun wx h => GA4.out.on h
  have a0 := fun wx h => (cf wx h).c0
  have a1 := fun wx h => (cf wx h).c1
  have a2 := fun wx h => (cf wx h).c2
  have a3 := fun wx h => (cf wx h).c3
  have a4 := fun wx h => (cf wx h).c4
  have g0 := fun wx h => (cg wx h).c0
  have g1 := fun wx h => (cg wx h).c1
  have g2 := fun wx h => (cg wx h).c2
  have g3 := fun wx h => (cg wx h).c3
  have g4 := fun wx h => (cg wx h).c4
  clear cf cg
  have LG := hid (NE.out.light HL.out)
  have RG := hid (NE.out.rng HL.out)
  have TY := hid NE.out.types
  have SZ := hid NE.out.size
  go_region_held3 (fun wx => Below W.heap.size W wx) (first | exact Below.drew (same _) | exact more (by assumption) hbx) (first | (go_at_call 25; refine (neat_any G _ (IG4.out.on (by assumption)) LG.out RG.out).mono ?_; rintro e wa ⟨H, ath, rfl, ownH, neH, hbx⟩) | (go_at_call 24; refine (same_true H G _ ownH.inn (IG4.out.on (by assumption)) (neH.light LG.out) (neat_twice NE.out neH)).mono ?_; rintro e wb ⟨rfl, hbx⟩) | (go_at_call_of 16 (FV.blk G); refine (size_ref G _ (IG4.out.on (by assumption)) LG.out).mono ?_; rintro e wc ⟨rfl, hbx⟩; rw [SZ.out]) | (go_at_call_of 16 (FV.blk F); refine (size_ref F _ (IF4.out.on (by assumption)) HL.out).mono ?_; rintro e wd ⟨rfl, hbx⟩) | (go_at_call_of 21 (FV.blk G); refine (types_ref G _ (IG4.out.on (by assumption)) LG.out).mono ?_; rintro e we ⟨s1, rfl, hs1, hi1, hm1, hbx⟩; have HS1 := hid hs1; clear hs1) | (go_at_call_of 21 (FV.blk F); refine (types_ref F _ (IF4.out.on (by assumption)) HL.out).mono ?_; rintro e wg ⟨s2, rfl, hs2, hi2, hm2, hbx⟩; have HS2 := hid hs2; clear hs2; have hi3 := hi1.on hbx) | (go_at_call 19; refine (ints_true s1 s2 _ _ _ hi3 hi2 ?_ ?_).mono ?_; (rw [HS1.out, TY.out, typesL_length]; have := total_le HL.out; omega); (exact ⟨(by rw [HS1.out, HS2.out, TY.out]), fun i _ => (by rw [TY.out])⟩); rintro e wh ⟨rfl, hbx⟩))
  have hz : Below W.heap.size W wh := by assumption
  have BB := hid B5.out
  clear hi1 hi2 hi3 hm1 hm2 HS1 HS2 ownH neH hbx
  have gb := HL.out.blk
  have NB := hid NE.out.blk
  have LT := hid (fun j (hj : j ≤ F.blk.n) => last_le HL.out hj)
  go_wp2_with fail
  go_loopw [4, 5] (fun l i wr => ∃ j : Nat, j ≤ F.blk.n ∧ i = .int .i64 j ∧ l = .int .i64 (lastOf F j) ∧ Below W.heap.size W wr) (fun _ i _ => F.blk.n - (intOf i).toNat)
  case atStart => exact ⟨0, Nat.zero_le _, rfl, by simp [lastOf, cnt], hz⟩
  case round =>
    clear hz
    obtain ⟨j, hj, rfl, rfl, hb⟩ := hrel
    obtain ⟨L, hL⟩ : ∃ L, lastOf F j = L := ⟨_, rfl⟩
    have hLb := LT.out j hj
    rw [hL] at hLb ⊢
    have HLL := hid hL
    clear hL
    by_cases hlt : j < F.blk.n
    · have hlg : j < G.blk.n := by rw [NB.out]; exact hlt
      have g5 := HL.out.ins j hlt
      obtain ⟨bb, oo, hix, hck⟩ : ∃ b o, (∀ wx, (Instr.indexAt 34 (.slice G.blk.a G.blk.n G.blk.c) (.int .i64 j)).run Try.prog wx = .ok (.pointer (some ⟨b, o, none⟩)) wx) ∧ ∀ wx, Below W.heap.size W wx → wx.cell? ⟨b, o, none⟩ = some (.slice (G.B j).a (G.B j).n (G.B j).c) := by
        obtain ⟨b, o, h1, h2⟩ := IG4.out.blk.at hlg
        exact ⟨b, o, h1, fun wx h => cell_on h h2⟩
      have hbj : Hid ((G.B j).n = (F.B j).n) := NE.out.B j hlt
      go_wp2_with fail
      go_loopw [4, 6] (fun l i wx => ∃ t : Nat, t ≤ (G.B j).n ∧ i = .int .i64 t ∧ l = .int .i64 ((L + giv (F.I j) t : Nat) : Int) ∧ Below W.heap.size W wx) (fun _ i _ => (G.B j).n - (intOf i).toNat)
      case atStart => exact ⟨0, Nat.zero_le _, rfl, by simp [giv], hb⟩
      case round =>
        clear hb
        obtain ⟨t, ht0, rfl, rfl, hb⟩ := hrel
        have g6 := giv_le (F.I j) t
        have g7 := hbj.out
        obtain ⟨L1, hL1⟩ : ∃ L1, L + giv (F.I j) t = L1 := ⟨_, rfl⟩
        rw [hL1]
        have hL1b : L1 ≤ 3000 := by omega
        have HL1 := hid hL1
        clear hL1 g7
        by_cases htl : t < (G.B j).n
        · have htf : t < (F.B j).n := by have := hbj.out; omega
          obtain ⟨ib, io, hiy, hin⟩ : ∃ b o, (∀ wx, (Instr.indexAt 44 (.slice (G.B j).a (G.B j).n (G.B j).c) (.int .i64 t)).run Try.prog wx = .ok (.pointer (some ⟨b, o, none⟩)) wx) ∧ InsAt wr b o (G.I j t) := by
            obtain ⟨b, o, h1, h2⟩ := (IG4.out.ins j hlg).at htl
            exact ⟨b, o, h1, h2.on hb⟩
          obtain ⟨c0, c1, c2, c3, c4, c5, c6⟩ := hin
          obtain ⟨fb, fo, fix, fck⟩ := (IF4.out.blk.on hb).at hlt
          obtain ⟨fb2, fo2, fiy, d0, d1, d2, d3, d4, d5, d6⟩ := ((IF4.out.ins j hlt).on hb).at htf
          have x1 := World.block_lt_of_cell? _ _ fck
          have x2 := World.block_lt_of_cell? _ _ d5
          have x3 := World.block_lt_of_cell? _ _ (a4 wr hb)
          have en := hid (NE.out.an j hlt t htf)
          have eto := hid (NE.out.to j hlt t htf)
          have ety := hid (NE.out.ty j hlt t htf)
          have hbn := new hb (.cells (G.I j t).cells 48)
          have lenq : (((G.I j t).args.n : Int) != ((F.I j t).args.n : Int)) = false := by rw [en.out]; simp
          by_cases hty : (G.I j t).ty = 0
          · have t1 : ((G.I j t).ty != 0) = false := by simp [hty]
            have t2 : ((G.I j t).ty == 0) = true := by simp [hty]
            have tv : (G.I j t).to = 0 := by rw [eto.out]; simp [newTo, ← ety.out, hty]
            have t3 : ((G.I j t).to != 0) = false := by simp [tv]
            have HTY := hid hty
            clear hty tv
            go_wp2_with fail
            go_quiet (fail)
            go_wp2_with fail
            obtain ⟨N7, hN7⟩ : ∃ N7, wr.heap.size = N7 := ⟨_, rfl⟩
            have q7 : (wr.alloc (.cells (G.I j t).cells 48)).cell? ⟨N7, 5, none⟩ = some (.slice (G.I j t).args.a (G.I j t).args.n (G.I j t).args.c) := by rw [← hN7]; simp
            rw [hN7]
            have HN7 := hid hN7
            have Q7 := hid q7
            clear hN7 q7 c0 c1 c2 c3 c4 c5 c6 d0 d1 d2 d3 d4 d5 d6 fck fix fiy x1 x2 x3 t1 t2 t3 lenq hiy hix hck
            go_loopw [8] (fun i wx => ∃ s : Nat, s ≤ (G.I j t).args.n ∧ i = .int .i64 s ∧ Below W.heap.size W wx ∧ wx.cell? ⟨N7, 5, none⟩ = some (.slice (G.I j t).args.a (G.I j t).args.n (G.I j t).args.c)) (fun i _ => (G.I j t).args.n - (intOf i).toNat)
            case atStart => exact ⟨0, Nat.zero_le _, rfl, below_drewN hbn _, Q7.out⟩
            case round =>
              clear hb hbn Q7 HN7
              obtain ⟨s, hs0, rfl, hb, hc7⟩ := hrel
              have g20 := LG.out.args j hlg t htl
              by_cases hsl : s < (G.I j t).args.n
              · obtain ⟨b4, o4, hiu, hd⟩ : ∃ b o, (∀ wx, (Instr.indexAt 33 (.slice (G.I j t).args.a (G.I j t).args.n (G.I j t).args.c) (.int .i64 s)).run Try.prog wx = .ok (.pointer (some ⟨b, o, none⟩)) wx) ∧ ∀ wx, Below W.heap.size W wx → wx.cell? ⟨b, o, none⟩ = some (.int .i64 (G.A j t s)) := by
                  obtain ⟨b, o, h1, h2⟩ := (IG4.out.args j hlg t htl).at hsl
                  exact ⟨b, o, h1, fun wx h => cell_on h h2⟩
                have rg : 0 ≤ G.A j t s ∧ G.A j t s ≤ ((F.par.n + cnt (fun j => giv (F.I j) (F.B j).n) F.blk.n : Nat) : Int) := by
                  obtain ⟨a', _, ha⟩ := NE.out.rows j hlt t htf
                  rw [ha s (by rw [← en.out]; exact hsl)]
                  exact nm_range F (a' s)
                have r1 : decide (G.A j t s < 0) = false := by simpa using rg.1
                have r2 : decide (((F.par.n : Int) + cnt (fun j => giv (F.I j) (F.B j).n) F.blk.n) < G.A j t s) = false := by simp; have := rg.2; omega
                have RG2 := hid rg
                clear rg
                go_wp2_with fail
                go_region_held3 (fun wx => Below W.heap.size W wx ∧ wx.cell? ⟨N7, 5, none⟩ = some (.slice (G.I j t).args.a (G.I j t).args.n (G.I j t).args.c)) (first | exact ⟨Below.drew hb, hc7⟩ | exact ⟨more hb.drew hbx, cell_on hbx (show wr.drew.cell? ⟨N7, 5, none⟩ = _ from hc7)⟩) (first | (go_at_call 18; refine (values_ref F _ (IF4.out.on hb.drew) HL.out).mono ?_; rintro e wv ⟨rfl, hbx⟩))
                have hb2 := hid (more hb.drew hbx)
                have hc2 := hid (cell_on hbx (show wr.drew.cell? ⟨N7, 5, none⟩ = _ from hc7))
                clear hbx
                go_wp2_with fail
                go_round
                case rel => exact ⟨s + 1, by omega, by go_num, hb2.out, hc2.out⟩
                case measure => simp [intOf]; omega
              · obtain rfl : s = (G.I j t).args.n := by omega
                go_wp2_with fail
                go_round
                case rel => exact ⟨t + 1, by omega, by go_num, by rw [← HL1.out]; simp [giv, ← ety.out, HTY.out], hb⟩
                case measure => simp [intOf]; omega
          · have t1 : ((G.I j t).ty != 0) = true := by simp [hty]
            have t2 : ((G.I j t).ty == 0) = false := by simp [hty]
            have eg : Hid (giv (F.I j) (t + 1) = giv (F.I j) t + 1) := by show _ = _; simp [giv, ← ety.out, hty]
            have tv : (G.I j t).to = (L1 : Int) + 1 := by rw [eto.out]; unfold newTo; rw [← ety.out, if_neg hty, eg.out, HLL.out]; have := HL1.out; omega
            have t3 : ((G.I j t).to != (L1 : Int) + 1) = false := by simp [tv]
            have HTY := hid hty
            clear hty tv
            go_wp2_with fail
            go_quiet (fail)
            go_wp2_with fail
            obtain ⟨N7, hN7⟩ : ∃ N7, wr.heap.size = N7 := ⟨_, rfl⟩
            have q7 : (wr.alloc (.cells (G.I j t).cells 48)).cell? ⟨N7, 5, none⟩ = some (.slice (G.I j t).args.a (G.I j t).args.n (G.I j t).args.c) := by rw [← hN7]; simp
            rw [hN7]
            have HN7 := hid hN7
            have Q7 := hid q7
            clear hN7 q7 c0 c1 c2 c3 c4 c5 c6 d0 d1 d2 d3 d4 d5 d6 fck fix fiy x1 x2 x3 t1 t2 t3 lenq hiy hix hck
            go_loopw [8] (fun i wx => ∃ s : Nat, s ≤ (G.I j t).args.n ∧ i = .int .i64 s ∧ Below W.heap.size W wx ∧ wx.cell? ⟨N7, 5, none⟩ = some (.slice (G.I j t).args.a (G.I j t).args.n (G.I j t).args.c)) (fun i _ => (G.I j t).args.n - (intOf i).toNat)
            case atStart => exact ⟨0, Nat.zero_le _, rfl, below_drewN hbn _, Q7.out⟩
            case round =>
              clear hb hbn Q7 HN7
              obtain ⟨s, hs0, rfl, hb, hc7⟩ := hrel
              have g20 := LG.out.args j hlg t htl
              by_cases hsl : s < (G.I j t).args.n
              · obtain ⟨b4, o4, hiu, hd⟩ : ∃ b o, (∀ wx, (Instr.indexAt 33 (.slice (G.I j t).args.a (G.I j t).args.n (G.I j t).args.c) (.int .i64 s)).run Try.prog wx = .ok (.pointer (some ⟨b, o, none⟩)) wx) ∧ ∀ wx, Below W.heap.size W wx → wx.cell? ⟨b, o, none⟩ = some (.int .i64 (G.A j t s)) := by
                  obtain ⟨b, o, h1, h2⟩ := (IG4.out.args j hlg t htl).at hsl
                  exact ⟨b, o, h1, fun wx h => cell_on h h2⟩
                have rg : 0 ≤ G.A j t s ∧ G.A j t s ≤ ((F.par.n + cnt (fun j => giv (F.I j) (F.B j).n) F.blk.n : Nat) : Int) := by
                  obtain ⟨a', _, ha⟩ := NE.out.rows j hlt t htf
                  rw [ha s (by rw [← en.out]; exact hsl)]
                  exact nm_range F (a' s)
                have r1 : decide (G.A j t s < 0) = false := by simpa using rg.1
                have r2 : decide (((F.par.n : Int) + cnt (fun j => giv (F.I j) (F.B j).n) F.blk.n) < G.A j t s) = false := by simp; have := rg.2; omega
                have RG2 := hid rg
                clear rg
                go_wp2_with fail
                go_region_held3 (fun wx => Below W.heap.size W wx ∧ wx.cell? ⟨N7, 5, none⟩ = some (.slice (G.I j t).args.a (G.I j t).args.n (G.I j t).args.c)) (first | exact ⟨Below.drew hb, hc7⟩ | exact ⟨more hb.drew hbx, cell_on hbx (show wr.drew.cell? ⟨N7, 5, none⟩ = _ from hc7)⟩) (first | (go_at_call 18; refine (values_ref F _ (IF4.out.on hb.drew) HL.out).mono ?_; rintro e wv ⟨rfl, hbx⟩))
                have hb2 := hid (more hb.drew hbx)
                have hc2 := hid (cell_on hbx (show wr.drew.cell? ⟨N7, 5, none⟩ = _ from hc7))
                clear hbx
                go_wp2_with fail
                go_round
                case rel => exact ⟨s + 1, by omega, by go_num, hb2.out, hc2.out⟩
                case measure => simp [intOf]; omega
              · obtain rfl : s = (G.I j t).args.n := by omega
                go_wp2_with fail
                go_round
                case rel => exact ⟨t + 1, by omega, by go_num, by rw [eg.out]; have := HL1.out; simp; omega, hb⟩
                case measure => simp [intOf]; omega
        · obtain rfl : t = (G.B j).n := by omega
          go_wp2_with fail
          go_round
          case rel => exact ⟨j + 1, by omega, by go_num, by rw [← HL1.out, ← HLL.out, hbj.out]; simp [lastOf, cnt, Nat.add_assoc], hb⟩
          case measure => simp [intOf]; omega
    · obtain rfl : j = F.blk.n := by omega
      have hle : (G.blk.n : Int) ≤ (F.blk.n : Int) := by have := NB.out; omega
      go_wp2_with fail
      refine (values_ir G _ (IG4.out.on hb) LG.out).mono ?_
      rintro e wz ⟨rfl, hbz⟩
      have hq : (((G.par.n : Int) + cnt (fun j => giv (G.I j) (G.B j).n) G.blk.n) == (L : Int)) = true := by
        have e := NE.out.last (Nat.le_refl F.blk.n)
        have h1 := HLL.out
        have h2 := NB.out
        simp only [lastOf] at e h1
        rw [h2]
        simp
        omega
      have BZ := hid (more BB.out (more hb hbz))
      clear hbz
      go_wp2_with fail
      go_ret
      exact ⟨by simp, BZ.out⟩

end Go.Proofs.Ythaedlnefikigaa.NeatLaw
