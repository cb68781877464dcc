/-
  WfSpoilt, walked.
-/
import Derived.Test.YtolipafcoolpgaaGreatJ21
import Derived.Test.YtolipafcoolpgaaGreatJ17
namespace Go.Proofs.YtolipafcoolpgaaGreat.Wf
open Go.RowKit View Rd Num Opn Copy Srt Own Go.Proofs.YtolipafcoolpgaaGreat.Mod Chk Flo CpM Trn

set_option linter.unusedVariables false

theorem bdn (w : World) (n : Nat) : Below w.heap.size w (w.drewN n) := below_drewN (Below.refl _ _) n

theorem kf {q a : Nat} (hz : q = a) (k : Int) (h : ((a : Int) == k) = false := by rfl) : ((q : Int) == k) = false := by rw [hz]; exact h

theorem box_on {w w' : World} {V : Nat} {a b c d : Value} (k : w'.heap[V]? = w.heap[V]?) (h : w.cell? ⟨V, 0, none⟩ = some a ∧ w.cell? ⟨V, 1, none⟩ = some b ∧ w.cell? ⟨V, 2, none⟩ = some c ∧ w.cell? ⟨V, 3, none⟩ = some d) : w'.cell? ⟨V, 0, none⟩ = some a ∧ w'.cell? ⟨V, 1, none⟩ = some b ∧ w'.cell? ⟨V, 2, none⟩ = some c ∧ w'.cell? ⟨V, 3, none⟩ = some d :=
 ⟨by rw [World.cell?_of_block k]; exact h.1, by rw [World.cell?_of_block k]; exact h.2.1, by rw [World.cell?_of_block k]; exact h.2.2.1, by rw [World.cell?_of_block k]; exact h.2.2.2⟩

theorem box_bel {w w' : World} {x0 x1 x2 x3 : Addr} {a b c d : Value} (k : Below w.heap.size w w') (h : w.cell? x0 = some a ∧ w.cell? x1 = some b ∧ w.cell? x2 = some c ∧ w.cell? x3 = some d) : w'.cell? x0 = some a ∧ w'.cell? x1 = some b ∧ w'.cell? x2 = some c ∧ w'.cell? x3 = some d :=
 ⟨cell_on k h.1, cell_on k h.2.1, cell_on k h.2.2.1, cell_on k h.2.2.2⟩

theorem fat_blk {w w' : World} {g o : Nat} {F : FV} (k : w'.heap[g]? = w.heap[g]?) (h : FAt w g o F) : FAt w' g o F :=
 ⟨by rw [World.cell?_of_block k]; exact h.c0, by rw [World.cell?_of_block k]; exact h.c1, by rw [World.cell?_of_block k]; exact h.c2, by rw [World.cell?_of_block k]; exact h.c3, by rw [World.cell?_of_block k]; exact h.c4⟩

theorem cop_of {M : MV} {w w7 W8 : World} {s1 s2 s3 s4 : Sl} {X1 X2 X3 X4 : Nat} {t1 t2 t3 : Nat → Sl} {t4 : Nat → FV} (hs : SmallM M) (hf : FitM M) (hx : SmallX M) (hj : ∀ i, i < M.fns.n → Jng (M.F i)) (gr : GrM M w7 s1 s2 s3 s4 X1 X2 X3 X4 t1 t2 t3 t4) (hb : Below w.heap.size w w7) (h8 : Below w7.heap.size w7 W8) :
  Cop X4 w7.heap.size W8 (growN M s1 s2 s3 s4 t1 t2 t3 t4) := by
 obtain ⟨sp, cp⟩ := sep_of_grm hs gr
 obtain ⟨c1, c2, c3⟩ := copied_growN hs gr.g1 gr.g2 gr.g3 gr.g4 hb
 refine ⟨Trn.Sep.on sp h8, c1.on h8, c3, fit_copy c2 hf, ⟨fun i hi => ?_, ?_⟩, fun i hi => caps_on h8 (cp i hi), fun i hi => ?_, fun i hi hV => ?_, fun g o hg h0 e => ?_⟩
 ·have hi' : i < M.fns.n := by rw [← c2.fns.1]; exact hi
  obtain ⟨l1, l2⟩ := hx.1 i hi'
  have q := c2.fns.2 i hi
  exact ⟨by rw [q.2.2.2.2.1]; exact l1, by have := fsize_eq q; unfold fsize at this; rw [this]; exact l2⟩
 ·have e : cnt (fun k => fsize ((growN M s1 s2 s3 s4 t1 t2 t3 t4).F k)) (growN M s1 s2 s3 s4 t1 t2 t3 t4).fns.n = cnt (fun k => fsize (M.F k)) M.fns.n := by
   rw [c2.fns.1]
   exact cnt_same fun i hi => fsize_eq (c2.fns.2 i (by rw [c2.fns.1]; exact hi))
  rw [e]; exact hx.2
 ·exact jng_eq (c2.fns.2 i hi) (hj i (by rw [← c2.fns.1]; exact hi))
 ·obtain ⟨at_, own⟩ := sp.own i hi
  have := (fpF_in own _ hV).2
  omega
 ·obtain ⟨g', a1, a2, a3, _⟩ := sp.fns h0
  have q : (some ⟨g', 0, none⟩ : Option Addr) = some ⟨g, o, none⟩ := a1.symm.trans hg
  have q2 : g' = g := congrArg Addr.block (Option.some.inj q)
  omega

set_option maxRecDepth 20000 in
set_option maxHeartbeats 16000000 in
theorem wfSpoilt_any (M : MV) (ka ba ia which : Int) (w : World) (hM : InM w M) (hf : FitsM M) : Calls Tryz.prog 3 #[M.val, .int .i64 ka, .int .i64 ba, .int .i64 ia, .int .i64 which] w fun e w' => e = .returned (.bool true) ∧ Below w.heap.size w w' := by
 obtain ⟨W, hW⟩ : ∃ W, w.alloc (.cells (mcells M) 27) = W := ⟨_, rfl⟩
 have LW := hid (show Below w.heap.size w W by rw [← hW]; exact new (same w) _)
 have MC := hid (show MCell M W w.heap.size by rw [← hW]; exact mcell_alloc M w _ rfl)
 have HM := hid (hM.on LW.out)
 have HJ := hid (jng_fits hf)
 obtain ⟨q, hq, a0, hk1, hk2⟩ := red9 which
 clear hM hf
 go_enter Tryz.func3, Tryz.ntmps3
 go_wp2_with fail
 clear hW
 refine (first_any W).mono ?_
 rintro e w1 ⟨rfl, hb⟩
 have B1 := hid hb
 have FIN := hid (fun (wx : World) (h : Below W.heap.size W wx) => View.more LW.out h)
 obtain ⟨m0, m1, m2, m3⟩ := MC.out.on hb
 clear hb
 go_wp2_with fail
 clear m0 m1 m2 m3
 refine (fit_anyX M w1 (HM.out.on B1.out)).mono ?_
 rintro e w2 ⟨r, rfl, hr, hb⟩
 have B2 := hid (View.more B1.out hb)
 have HR := hid hr
 clear hb hr
 cases r with
 | false =>
  go_wp2_with (go_at_call 7; refine (first_any _).mono ?_; rintro e w3 ⟨rfl, hb⟩; have B3 := hid (View.more B2.out hb); clear hb)
  go_ret
  exact ⟨rfl, FIN.out _ B3.out⟩
 | true =>
 have HS := hid (HR.out rfl).1
 have HF := hid (HR.out rfl).2.1
 have HX := hid (HR.out rfl).2.2
 clear HR
 obtain ⟨m0, m1, m2, m3⟩ := MC.out.on B2.out
 by_cases hf0 : M.fns.n = 0
 ·have t0 : ((M.fns.n : Int) == 0) = true := by simp; omega
  clear hf0
  go_wp2_with (go_at_call 7; refine (first_any _).mono ?_; rintro e w3 ⟨rfl, hb⟩; have B3 := hid (View.more B2.out hb); clear hb)
  go_ret
  exact ⟨rfl, FIN.out _ B3.out⟩
 have t0 : ((M.fns.n : Int) == 0) = false := by simp; omega
 by_cases h10 : 10 < M.glo.n
 ·have t1 : decide ((10 : Int) < M.glo.n) = true := by simp; omega
  clear h10 hf0
  go_wp2_with (go_at_call 7; refine (first_any _).mono ?_; rintro e w3 ⟨rfl, hb⟩; have B3 := hid (View.more B2.out hb); clear hb)
  go_ret
  exact ⟨rfl, FIN.out _ B3.out⟩
 have t1 : decide ((10 : Int) < M.glo.n) = false := by simp; omega
 by_cases h4 : 4 < M.tab.n
 ·have t2 : decide ((4 : Int) < M.tab.n) = true := by simp; omega
  clear h4 h10 hf0
  go_wp2_with (go_at_call 7; refine (first_any _).mono ?_; rintro e w3 ⟨rfl, hb⟩; have B3 := hid (View.more B2.out hb); clear hb)
  go_ret
  exact ⟨rfl, FIN.out _ B3.out⟩
 have t2 : decide ((4 : Int) < M.tab.n) = false := by simp; omega
 have G10 := hid (show M.glo.n ≤ 10 by omega)
 have G4 := hid (show M.tab.n ≤ 4 by omega)
 have G0 := hid (show 0 < M.fns.n by omega)
 clear h10 h4 hf0
 go_wp2_with fail
 clear m0 m1 m2 m3
 refine (named_any M ⟨#[122, 122]⟩ w2 (HM.out.on B2.out) HS.out).mono ?_
 rintro e w3 ⟨r, rfl, hnn, hb⟩
 have B3 := hid (View.more B2.out hb)
 clear hb
 cases r with
 | true =>
  clear hnn
  go_wp2_with (go_at_call 7; refine (first_any _).mono ?_; rintro e w4 ⟨rfl, hb⟩; have B4 := hid (View.more B3.out hb); clear hb)
  go_ret
  exact ⟨rfl, FIN.out _ B4.out⟩
 | false =>
 have NZ := hid (hnn rfl)
 clear hnn
 obtain ⟨m0, m1, m2, m3⟩ := MC.out.on B3.out
 go_wp2_with fail
 clear m0 m1 m2 m3
 refine (copy_both M w3 (HM.out.on B3.out) HS.out).mono ?_
 rintro e w7 ⟨_, s1, s2, s3, s4, X1, X2, X3, X4, t1', t2', t3', t4', rfl, gr, hb7, hx7⟩
 have GR := hid gr
 have B7 := hid hb7
 have X7 := hid hx7
 clear gr hb7 hx7 t0 t1 t2
 go_upto_region 6 with fail
 obtain ⟨V, hV⟩ : ∃ V, w7.heap.size = V := ⟨_, rfl⟩
 rw [hV]
 obtain ⟨W8, hW8⟩ : ∃ W8, w7.alloc (.cells #[.slice s1.a s1.n s1.c, .slice s2.a s2.n s2.c, .slice s3.a s3.n s3.c, .slice s4.a s4.n s4.c] 27) = W8 := ⟨_, rfl⟩
 rw [hW8]
 have b8 : Below w7.heap.size w7 W8 := by rw [← hW8]; exact new (same _) _
 have z8 : W8.heap.size = w7.heap.size + 1 := by rw [← hW8]; simp
 have MB := hid (show CpM.MBox W8 V (growN M s1 s2 s3 s4 t1' t2' t3' t4') from by
  subst hV hW8
  exact ⟨by simp, by simp, by simp, by simp⟩)
 have CO := hid (show Cop X4 V W8 (growN M s1 s2 s3 s4 t1' t2' t3' t4') by rw [← hV]; exact cop_of HS.out HF.out HX.out HJ.out GR.out B7.out b8)
 have OS := hid (show Ord w3 V W8 { M with ext := s1, glo := s2, tab := s3, fns := s4 } X1 X2 X3 X4 t1' t2' t3' t4' from by
  subst hV hW8
  have g1 := GR.out.g1; have g2 := GR.out.g2; have g3 := GR.out.g3; have g4 := GR.out.g4
  exact Ord.start GR.out ⟨own_len g1.own, own_len g2.own, own_len g3.own, own_len g4.own⟩ (new B7.out _) (new (same _) _) (Nat.le_refl _) (Nat.le_of_lt X7.out) (by simp) (fun i => World.frozen?_alloc_new _ _ _ i) _ rfl ⟨by simp, by simp, by simp, by simp⟩)
 have SN := hid (show s1.n = M.ext.n ∧ s2.n = M.glo.n ∧ s3.n = M.tab.n ∧ s4.n = M.fns.n from ⟨own_len GR.out.g1.own, own_len GR.out.g2.own, own_len GR.out.g3.own, own_len GR.out.g4.own⟩)
 have L8 := hid (show Below W.heap.size W W8 from View.more (View.more B3.out B7.out) b8)
 have VZ := hid (show V < W8.heap.size by omega)
 have X4Z := hid (show w3.heap.size ≤ X4 by have := GR.out.x12; have := GR.out.x23; have := GR.out.x34; have := X7.out; omega)
 clear hW8 hV b8 z8
 obtain ⟨N, hN⟩ : ∃ N, growN M s1 s2 s3 s4 t1' t2' t3' t4' = N := ⟨_, rfl⟩
 have NN := hid (show N.ext = s1 ∧ N.glo = s2 ∧ N.tab = s3 ∧ N.fns = s4 ∧ N.val = .agg #[.slice s1.a s1.n s1.c, .slice s2.a s2.n s2.c, .slice s3.a s3.n s3.c, .slice s4.a s4.n s4.c] by rw [← hN]; exact ⟨rfl, rfl, rfl, rfl, rfl⟩)
 rw [hN] at MB CO
 have HN := hid hN
 clear hN
 have ns4 : 0 < s4.n := by rw [SN.out.2.2.2]; exact G0.out
 obtain ⟨g, hg, _, _, _, _⟩ := CO.out.sp.fns (by rw [NN.out.2.2.2.1]; exact ns4)
 have hg4 : s4.a = some ⟨g, 0, none⟩ := by rw [← NN.out.2.2.2.1]; exact hg
 obtain ⟨x, hx, xa, hxa, hxb⟩ := Low.red16 ka ns4
 have hxN : x < N.fns.n := by rw [NN.out.2.2.2.1]; exact hx
 have hixF := index_row hg4 underlying25 size36 hx
 simp only [Nat.zero_add] at hixF
 have lf := CO.out.fit.lim.fnI x hxN
 obtain ⟨F, hF⟩ : ∃ F, N.F x = F := ⟨_, rfl⟩
 rw [hF] at lf
 have nb := lf.one
 obtain ⟨at_, own⟩ := CO.out.sp.own x hxN
 rw [hF] at own
 obtain ⟨hgB, _⟩ := mine_blk own.bm nb
 obtain ⟨gB, hgb⟩ : ∃ gB, blkOf F.blk = gB := ⟨_, rfl⟩
 rw [hgb] at hgB
 obtain ⟨y, hy, ya, hya, hyb⟩ := Low.red16 ba nb
 have hixB := index_row hgB underBk size40 hy
 simp only [Nat.zero_add, Nat.mul_one] at hixB
 have ni : 0 < (F.B y).n := by have := ((CO.out.fit.flow x hxN).1 y (by rw [hF]; exact hy)).1; rw [hF] at this; exact this
 obtain ⟨z, hz, za, hza, hzb⟩ := Low.red16 ia ni
 have hgI := own.adr (.row y) hy ni
 obtain ⟨gI, hgi⟩ : ∃ gI, at_ (.row y) = gI := ⟨_, rfl⟩
 rw [hgi] at hgI
 have hgI2 : (F.B y).a = some ⟨gI, 0, none⟩ := hgI
 have hixI := index_row hgI2 underIn size43 hz
 simp only [Nat.zero_add] at hixI
 have FA := hid (show FAt W8 g (x * 5) F by
  obtain ⟨b', off, e, hcc⟩ := CO.out.inn.fns.2.2.2 (by rw [NN.out.2.2.2.1]; exact ns4)
  have q := hg.symm.trans e
  simp at q
  obtain ⟨rfl, rfl⟩ := q
  have := hcc x hxN
  rwa [Nat.zero_add, hF] at this)
 have CB := hid (show W8.cell? ⟨gB, y, none⟩ = some (.slice (F.B y).a (F.B y).n (F.B y).c) by
  obtain ⟨b', off, e, hcc⟩ := own.inn.blk.2.2.2 nb
  have q := hgB.symm.trans e
  simp at q
  obtain ⟨rfl, rfl⟩ := q
  have := hcc y hy
  rwa [Nat.zero_add] at this)
 have CI := hid (show InsAt W8 gI (z * 7) (F.I y z) by have := (own.insAt hy hz).1; rw [hgi] at this; exact this)
 have XY := hid (show x < N.fns.n ∧ y < F.blk.n ∧ z < (F.B y).n ∧ N.F x = F ∧ N.fns.a = some ⟨g, 0, none⟩ ∧ F.blk.a = some ⟨gB, 0, none⟩ ∧ (F.B y).a = some ⟨gI, 0, none⟩ from ⟨hxN, hy, hz, hF, hg, hgB, hgI2⟩)
 have FIT := hid lf
 clear own hgI hgi hgb nb lf hF hxN hg hgB hgI2 hg4
 have mb3 := MB.out.c3
 rw [NN.out.2.2.2.1] at mb3
 go_quiet (fail)
 clear mb3 hixF hxa hxb
 obtain ⟨W9, hW9⟩ : ∃ W9, W8.drewN nq = W9 := ⟨_, rfl⟩
 have b9 : Below W8.heap.size W8 W9 := by rw [← hW9]; exact bdn _ _
 rw [hW9]
 clear hW9
 obtain ⟨f0, f1, f2, f3, f4⟩ := FA.out.on b9
 go_upto_region 7 with fail
 go_quiet (fail)
 clear f0 f1 f2 f3 f4 hixB hya hyb
 obtain ⟨W10, hW10⟩ : ∃ W10, W9.drewN nq = W10 := ⟨_, rfl⟩
 have b10 : Below W8.heap.size W8 W10 := View.more b9 (by rw [← hW10]; exact bdn _ _)
 rw [hW10]
 clear hW10 b9
 have cb := cell_on b10 CB.out
 go_upto_region 8 with fail
 go_quiet (fail)
 clear cb hixI hza hzb
 obtain ⟨Wz, hWz⟩ : ∃ Wz, W10.drewN nq = Wz := ⟨_, rfl⟩
 have bz : Below W8.heap.size W8 Wz := View.more b10 (by rw [← hWz]; exact bdn _ _)
 rw [hWz]
 clear hWz b10
 have CO := hid (CO.out.on bz)
 have OS := hid (OS.out.on bz)
 have MB := hid (MB.out.on bz)
 have FA := hid (FA.out.on bz)
 have CB := hid (cell_on bz CB.out)
 have CI := hid (CI.out.on bz)
 have LZ := hid (View.more L8.out bz)
 have VZ := hid (Nat.lt_of_lt_of_le VZ.out bz.size)
 clear bz
 have hq9 : q = 0 ∨ q = 1 ∨ q = 2 ∨ q = 3 ∨ q = 4 ∨ q = 5 ∨ q = 6 ∨ q = 7 ∨ q = 8 := by omega
 obtain ⟨hxN, hyF, hzI, hF, hgN, hgB, hgI⟩ := XY.out
 subst hF
 have wz3 : Wz.cell? ⟨V, 3, none⟩ = some (.slice s4.a s4.n s4.c) := by have := MB.out.c3; rw [NN.out.2.2.2.1] at this; exact this
 have wz2 : Wz.cell? ⟨V, 2, none⟩ = some (.slice s3.a s3.n s3.c) := by have := MB.out.c2; rw [NN.out.2.2.1] at this; exact this
 have wz1 : Wz.cell? ⟨V, 1, none⟩ = some (.slice s2.a s2.n s2.c) := by have := MB.out.c1; rw [NN.out.2.1] at this; exact this
 have wz0 : Wz.cell? ⟨V, 0, none⟩ = some (.slice s1.a s1.n s1.c) := by have := MB.out.c0; rw [NN.out.1] at this; exact this
 have WB := hid (And.intro wz0 (And.intro wz1 (And.intro wz2 wz3)))
 have HXY := hid (And.intro hxN (And.intro hyF (And.intro hzI (And.intro hgN (And.intro hgB hgI)))))
 clear wz0 wz1 wz2 wz3 hxN hyF hzI hgN hgB hgI XY
 rcases hq9 with hz | hz | hz | hz | hz | hz | hz | hz | hz
 ·have e0 : ((q : Int) == 0) = true := by rw [hz]; rfl
  have e1 := kf hz 1
  have e2 := kf hz 2
  have e3 := kf hz 3
  have e4 := kf hz 4
  have e5 := kf hz 5
  have e6 := kf hz 6
  have e7 := kf hz 7
  clear hz
  obtain ⟨at_, own⟩ := CO.out.sp.own x HXY.out.1
  have fzI : ∀ c, Wz.frozen? ⟨gI, c, none⟩ = false := by have e := own.adr (.row y) HXY.out.2.1 (by show 0 < ((N.F x).B y).n; have := HXY.out.2.2.1; omega); have := e.symm.trans HXY.out.2.2.2.2.2; simp at this; intro c; rw [← this]; exact own.fz (.row y) HXY.out.2.1 (by show 0 < ((N.F x).B y).n; have := HXY.out.2.2.1; omega) c
  have fz0 := fzI (z * 7)
  obtain ⟨hsay, hlow, hne⟩ := says_ins CO.out (c := 0) (val := .int .i64 31) (v := { (N.F x).I y z with op := 31 }) HXY.out.1 HXY.out.2.1 HXY.out.2.2.1 (by decide) HXY.out.2.2.2.2.2 (fun h => Trn.InsAt.set0 h 31) rfl rfl (form_op31 _)
  have ci := CI.out.c0
  obtain ⟨w5, hw5⟩ : ∃ w5, Wz.setCell ⟨gI, z * 7, none⟩ (.int .i64 31) = w5 := ⟨_, rfl⟩
  have kV : w5.heap[V]? = Wz.heap[V]? := by rw [← hw5]; exact Below.heap_setCell _ _ _ _ hne
  have hsay5 : Says N.val 1 w5 := by rw [← hw5]; exact hsay
  have hlow5 : Below X4 Wz w5 := by rw [← hw5]; exact hlow
  clear hsay hlow
  have hlow := hlow5
  rw [NN.out.2.2.2.2] at hsay5
  have SY := hid hsay5
  have b5 := hid (show Below W.heap.size W w5 from LZ.out.trans (hlow.mono (by have := X4Z.out; have := B3.out.size; omega)))
  have V0 := hid (box_on kV WB.out)
  clear own fzI hsay5 hlow5 hlow kV hne
  have SM := hid (says_of (HM.out.on b5.out) HS.out HJ.out (err_ok HF.out))
  obtain ⟨m0, m1, m2, m3⟩ := MC.out.on b5.out
  go_wp2_with fail
  clear m0 m1 m2 m3
  refine (SM.out _ (same _)).mono ?_
  rintro e w6 ⟨rfl, hb6⟩
  obtain ⟨v0, v1, v2, v3⟩ := box_bel hb6 V0.out
  have B6 := hid hb6
  clear hb6
  go_wp2_with fail
  clear v0 v1 v2 v3
  refine (SY.out _ B6.out).mono ?_
  rintro e w9 ⟨rfl, hb9⟩
  have B9 := hid hb9
  clear hb9
  go_wp2_with fail
  go_ret
  exact ⟨rfl, FIN.out _ (View.more (View.more b5.out B6.out) B9.out)⟩
 ·have e0 := kf hz 0
  have e1 : ((q : Int) == 1) = true := by rw [hz]; rfl
  have e2 := kf hz 2
  have e3 := kf hz 3
  have e4 := kf hz 4
  have e5 := kf hz 5
  have e6 := kf hz 6
  have e7 := kf hz 7
  clear hz
  obtain ⟨at_, own⟩ := CO.out.sp.own x HXY.out.1
  have fzI : ∀ c, Wz.frozen? ⟨gI, c, none⟩ = false := by have e := own.adr (.row y) HXY.out.2.1 (by show 0 < ((N.F x).B y).n; have := HXY.out.2.2.1; omega); have := e.symm.trans HXY.out.2.2.2.2.2; simp at this; intro c; rw [← this]; exact own.fz (.row y) HXY.out.2.1 (by show 0 < ((N.F x).B y).n; have := HXY.out.2.2.1; omega) c
  have fz0 := fzI (z * 7 + 1)
  obtain ⟨hsay, hlow, hne⟩ := says_ins CO.out (c := 1) (val := .int .i64 5) (v := { (N.F x).I y z with ty := 5 }) HXY.out.1 HXY.out.2.1 HXY.out.2.2.1 (by decide) HXY.out.2.2.2.2.2 (fun h => Trn.InsAt.set1 h 5) rfl rfl (form_ty5 _)
  have ci := CI.out.c1
  obtain ⟨w5, hw5⟩ : ∃ w5, Wz.setCell ⟨gI, z * 7 + 1, none⟩ (.int .i64 5) = w5 := ⟨_, rfl⟩
  have kV : w5.heap[V]? = Wz.heap[V]? := by rw [← hw5]; exact Below.heap_setCell _ _ _ _ hne
  have hsay5 : Says N.val 1 w5 := by rw [← hw5]; exact hsay
  have hlow5 : Below X4 Wz w5 := by rw [← hw5]; exact hlow
  clear hsay hlow
  have hlow := hlow5
  rw [NN.out.2.2.2.2] at hsay5
  have SY := hid hsay5
  have b5 := hid (show Below W.heap.size W w5 from LZ.out.trans (hlow.mono (by have := X4Z.out; have := B3.out.size; omega)))
  have V0 := hid (box_on kV WB.out)
  clear own fzI hsay5 hlow5 hlow kV hne
  have SM := hid (says_of (HM.out.on b5.out) HS.out HJ.out (err_ok HF.out))
  obtain ⟨m0, m1, m2, m3⟩ := MC.out.on b5.out
  go_wp2_with fail
  clear m0 m1 m2 m3
  refine (SM.out _ (same _)).mono ?_
  rintro e w6 ⟨rfl, hb6⟩
  obtain ⟨v0, v1, v2, v3⟩ := box_bel hb6 V0.out
  have B6 := hid hb6
  clear hb6
  go_wp2_with fail
  clear v0 v1 v2 v3
  refine (SY.out _ B6.out).mono ?_
  rintro e w9 ⟨rfl, hb9⟩
  have B9 := hid hb9
  clear hb9
  go_wp2_with fail
  go_ret
  exact ⟨rfl, FIN.out _ (View.more (View.more b5.out B6.out) B9.out)⟩
 ·have e0 := kf hz 0
  have e1 := kf hz 1
  have e2 : ((q : Int) == 2) = true := by rw [hz]; rfl
  have e3 := kf hz 3
  have e4 := kf hz 4
  have e5 := kf hz 5
  have e6 := kf hz 6
  have e7 := kf hz 7
  clear hz
  obtain ⟨g2, a1, _, _, a4, _⟩ := CO.out.sp.fns (by have := HXY.out.1; omega)
  have fz0 : Wz.frozen? ⟨g, x * 5, none⟩ = false := by have e := a1.symm.trans HXY.out.2.2.2.1; simp at e; rw [← e]; exact a4 _
  obtain ⟨hsay, hlow, hne⟩ := says_main CO.out HXY.out.1 HXY.out.2.2.2.1
  have ci := FA.out.c0
  obtain ⟨w5, hw5⟩ : ∃ w5, Wz.setCell ⟨g, x * 5, none⟩ (.string ⟨#[77, 97, 105, 110]⟩) = w5 := ⟨_, rfl⟩
  have kV : w5.heap[V]? = Wz.heap[V]? := by rw [← hw5]; exact Below.heap_setCell _ _ _ _ hne
  have hsay5 : Says N.val 3 w5 := by rw [← hw5]; exact hsay
  have hlow5 : Below X4 Wz w5 := by rw [← hw5]; exact hlow
  clear hsay hlow
  have hlow := hlow5
  rw [NN.out.2.2.2.2] at hsay5
  have SY := hid hsay5
  have b5 := hid (show Below W.heap.size W w5 from LZ.out.trans (hlow.mono (by have := X4Z.out; have := B3.out.size; omega)))
  have V0 := hid (box_on kV WB.out)
  clear a1 a4 hsay5 hlow5 hlow kV hne
  have SM := hid (says_of (HM.out.on b5.out) HS.out HJ.out (err_ok HF.out))
  obtain ⟨m0, m1, m2, m3⟩ := MC.out.on b5.out
  go_wp2_with fail
  clear m0 m1 m2 m3
  refine (SM.out _ (same _)).mono ?_
  rintro e w6 ⟨rfl, hb6⟩
  obtain ⟨v0, v1, v2, v3⟩ := box_bel hb6 V0.out
  have B6 := hid hb6
  clear hb6
  go_wp2_with fail
  clear v0 v1 v2 v3
  refine (SY.out _ B6.out).mono ?_
  rintro e w9 ⟨rfl, hb9⟩
  have B9 := hid hb9
  clear hb9
  go_wp2_with fail
  go_ret
  exact ⟨rfl, FIN.out _ (View.more (View.more b5.out B6.out) B9.out)⟩
 ·have e0 := kf hz 0
  have e1 := kf hz 1
  have e2 := kf hz 2
  have e3 : ((q : Int) == 3) = true := by rw [hz]; rfl
  have e4 := kf hz 4
  have e5 := kf hz 5
  have e6 := kf hz 6
  have e7 := kf hz 7
  clear hz
  have hor := OS.out
  have hcf : Wz.cell? ⟨V, 1, none⟩ = some (.slice s2.a s2.n s2.c) := hor.box.c1
  have zlim : s2.n ≤ 1000 := by rw [SN.out.2.1]; have := G10.out; omega
  have fa0 := FA.out.c0
  obtain ⟨w2, hw2⟩ : ∃ w2, (World.alloc Wz (.cells #[.int .i64 0] 2)).drew = w2 := ⟨_, rfl⟩
  have bw : Below Wz.heap.size Wz w2 := by rw [← hw2]; exact Below.drew (new (same _) _)
  have zw : w2.heap.size = Wz.heap.size + 1 := by rw [← hw2]; simp
  have ia : Ints w2 ⟨some ⟨Wz.heap.size, 0, none⟩, 1, 1⟩ (fun _ => 0) := by rw [← hw2]; exact (ints_new Wz 0 _).on (Below.drew (same _))
  have ma : Mine Wz.heap.size w2.heap.size w2 ⟨some ⟨Wz.heap.size, 0, none⟩, 1, 1⟩ := fun _ => ⟨Wz.heap.size, rfl, Nat.le_refl _, by omega, fun i => by rw [← hw2]; exact World.frozen?_alloc_new Wz _ _ i⟩
  have hY := hor.y.2.1
  obtain ⟨v5, w4, hrun, hown4, hgr4, hat4⟩ := app_gen (w2 := w2) underGl infoGl rfl (by decide) (by decide) (owns_on bw hor.g2.own) zlim (Nat.le_trans hY bw.size) #[.string (N.F x).name, .slice (some ⟨Wz.heap.size, 0, none⟩) 1 1] rfl (by intro u hu; simp at hu; rcases hu with rfl | rfl <;> rfl) 23
  obtain ⟨sv, rfl⟩ := owns_slv hown4
  have hn5 : sv.n = s2.n + 1 := own_len hown4
  have vne : ∀ b, Bl s2.n (slv s2) FpS t2' b → b ≠ V := hor.v2
  have hc2 : (World.alloc w2 (.cells #[.string (N.F x).name, .slice (some ⟨Wz.heap.size, 0, none⟩) 1 1] 47)).cell? ⟨V, 1, none⟩ = some (.slice s2.a s2.n s2.c) := cell_on (bw.alloc bw.size _) hcf
  have NV : some V ≠ (slv s2).ownBlock := fun e => vne V (.inl e.symm) rfl
  have hc4 : w4.cell? ⟨V, 1, none⟩ = some (.slice s2.a s2.n s2.c) := by rw [World.cell?_of_block (w := World.alloc w2 _) (hgr4.block V (World.block_lt_of_cell? _ _ hc2) NV)]; exact hc2
  have fz4 : w4.frozen? ⟨V, 1, none⟩ = false := by rw [World.frozen?_of_block (w := World.alloc w2 _) (hgr4.block V (World.block_lt_of_cell? _ _ hc2) NV), (bw.alloc bw.size _).frozen hor.vlt]; exact hor.fz 1
  have ON := hor.glo (N.F x).name ⟨some ⟨Wz.heap.size, 0, none⟩, 1, 1⟩ sv (fun _ => 0) bw ia ma hn5 hown4 hgr4 hat4
  have hsay := says_glo HS.out HN.out CO.out SN.out G10.out (CO.out.small.light x HXY.out.1).name (by show (1 : Nat) ≤ 20; decide) hn5 ON (err_twice CO.out.fit (by rw [NN.out.2.1, SN.out.2.1]; exact G10.out) HXY.out.1 (by rw [NN.out.2.1]; exact hn5) rfl)
  obtain ⟨g2, a1, a2, _, _, a5⟩ := CO.out.sp.fns (by have := HXY.out.1; omega)
  obtain rfl : g2 = g := by have e := a1.symm.trans HXY.out.2.2.2.1; simpa using e
  have gl : g2 < Wz.heap.size := World.block_lt_of_cell? _ _ fa0
  have S0 : Wz.drew.cell? ⟨g2, x * 5, none⟩ = some (.string (N.F x).name) := fa0
  have S2 : w2.cell? ⟨g2, x * 5, none⟩ = some (.string (N.F x).name) := cell_on bw fa0
  have S3 : (World.alloc w2 (.cells #[.string (N.F x).name, .slice (some ⟨Wz.heap.size, 0, none⟩) 1 1] 47)).cell? ⟨g2, x * 5, none⟩ = some (.string (N.F x).name) := cell_on (bw.alloc bw.size _) fa0
  have gne : some g2 ≠ (slv s2).ownBlock := fun e => hor.d24 g2 (.inl e.symm) (.inl (by show Value.ownBlock (.slice s4.a s4.n s4.c) = _; have := a1; rw [NN.out.2.2.2.1] at this; rw [this]; rfl))
  have S4 : w4.cell? ⟨g2, x * 5, none⟩ = some (.string (N.F x).name) := by rw [World.cell?_of_block (w := World.alloc w2 _) (hgr4.block g2 (World.block_lt_of_cell? _ _ S3) gne)]; exact S3
  have gV : V ≠ g2 := CO.out.nr _ _ a1 (by have := HXY.out.1; omega)
  obtain ⟨w5, hw5⟩ : ∃ w5, w4.setCell ⟨V, 1, none⟩ (.slice sv.a sv.n sv.c) = w5 := ⟨_, rfl⟩
  have S5 : w5.cell? ⟨g2, x * 5, none⟩ = some (.string (N.F x).name) := by rw [← hw5]; exact cell_other (fun e => gV (congrArg Addr.block e)) S4
  rw [show w4.setCell ⟨V, 1, none⟩ (slv sv) = w5 from hw5] at ON hsay
  have SY := hid hsay
  have V0 := hid (show w5.cell? ⟨V, 0, none⟩ = some (.slice s1.a s1.n s1.c) ∧ w5.cell? ⟨V, 1, none⟩ = some (.slice sv.a sv.n sv.c) ∧ w5.cell? ⟨V, 2, none⟩ = some (.slice s3.a s3.n s3.c) ∧ w5.cell? ⟨V, 3, none⟩ = some (.slice s4.a s4.n s4.c) from ⟨ON.box.c0, ON.box.c1, ON.box.c2, ON.box.c3⟩)
  have b5 := hid (show Below W.heap.size W w5 from View.more B3.out ON.low)
  have hcd : Wz.drew.cell? ⟨V, 1, none⟩ = some (.slice s2.a s2.n s2.c) := hcf
  have hcw : w2.cell? ⟨V, 1, none⟩ = some (.slice s2.a s2.n s2.c) := cell_on bw hcf
  clear ON hsay hor hown4 hgr4 hat4 bw ia ma hY vne zlim hn5 NV zw gne gl a1 a2 a5 gV fa0
  go_upto_region 21 with fail
  refine wp_region_noPanic ?_
  refine wp_region_held_drew (S := fun wx => wx.cell? ⟨g2, x * 5, none⟩ = some (.string (N.F x).name)) (by kernel_rfl) S0 (fun hS => ?_)
  refine Own.tk (i := 0) (d := some 138) (v := ?vt1_0) rfl (by rfl) ?yt1_0 hS ?_
  case yt1_0 => intro wx hSw; (go_simp) <;> with_reducible rfl
  simp only [Act.put, sP1, sP2, sP3]
  refine Own.tk (i := 2) (d := some 140) (v := ?vt2_2) rfl (by rfl) ?yt2_2 hS ?_
  case yt2_2 => intro wx hSw; (go_simp) <;> with_reducible rfl
  simp only [Act.put, sP1, sP2, sP3]
  refine Own.tk (i := 3) (d := some 141) (v := ?vt3_3) rfl (by rfl) ?yt3_3 hS ?_
  case yt3_3 => intro wx hSw; (go_simp) <;> with_reducible rfl
  simp only [Act.put, sP1, sP2, sP3]
  refine Own.tk (i := 4) (d := some 142) (v := ?vt4_4) rfl (by rfl) ?yt4_4 hS ?_
  case yt4_4 => intro wx hSw; (go_simp) <;> with_reducible rfl
  simp only [Act.put, sP1, sP2, sP3]
  refine Own.tk (i := 5) (d := some 143) (v := ?vt5_5) rfl (by rfl) ?yt5_5 hS ?_
  case yt5_5 => intro wx hSw; (have hSw2 : wx.cell? ⟨g2, x * 5, none⟩ = some (.string (N.F x).name) := hSw); (go_simp) <;> with_reducible rfl
  simp only [Act.put, sP1, sP2, sP3]
  refine wpAnyH_ready (rs := [1, 6]) (by kernel_rfl) (by simp) ?_
  refine AllReadyH.cons rfl (fun K hK => ?_) (AllReadyH.cons rfl (fun K hK => ?_) AllReadyH.nil)
  ·go_simp
   refine hK.out _ _ S0 (fun _ => ?_)
   clear hK K
   replace hS := S0
   try simp only [Act.put, sP1, sP2, sP3]
   refine wpAnyH_ready (rs := [6]) (by kernel_rfl) (by simp) ?_
   refine AllReadyH.cons rfl (fun K hK => ?_) AllReadyH.nil
   go_simp
   try rw [hw2]
   refine hK.out _ _ S2 (fun _ => ?_)
   clear hK K
   replace hS := S2
   try simp only [Act.put, sP1, sP2, sP3]
   refine Own.tk (i := 7) (d := some 145) (v := ?vt6_7) rfl (by rfl) ?yt6_7 hS ?_
   case yt6_7 => intro wx hSw; (go_simp) <;> with_reducible rfl
   simp only [Act.put, sP1, sP2, sP3]
   refine wpAnyH_ready (rs := [8]) (by kernel_rfl) (by simp) ?_
   refine AllReadyH.cons rfl (fun K hK => ?_) AllReadyH.nil
   go_simp
   refine hK.out _ _ S3 (fun _ => ?_)
   clear hK K
   replace hS := S3
   try simp only [Act.put, sP1, sP2, sP3]
   refine wpAnyH_ready (rs := [9]) (by kernel_rfl) (by simp) ?_
   refine AllReadyH.cons rfl (fun K hK => ?_) AllReadyH.nil
   rw [if_pos (by rfl)]
   refine Own.wp_app (s := .tmp 139) (x := .tmp 146) (t := 23) (d := some 147) rfl rfl rfl rfl rfl hrun ?_
   try simp only [Act.put, sP1, sP2, sP3]
   refine hK.out _ _ S4 (fun _ => ?_)
   clear hK K
   replace hS := S4
   try simp only [Act.put, sP1, sP2, sP3]
   refine Own.tk (i := 10) (d := some 148) (v := ?vt7_10) rfl (by rfl) ?yt7_10 hS ?_
   case yt7_10 => intro wx hSw; (go_simp) <;> with_reducible rfl
   simp only [Act.put, sP1, sP2, sP3]
   refine wpAnyH_ready (rs := [11]) (by kernel_rfl) (by simp) ?_
   refine AllReadyH.cons rfl (fun K hK => ?_) AllReadyH.nil
   go_simp
   try rw [hw5]
   refine hK.out _ _ S5 (fun _ => ?_)
   clear hK K
   replace hS := S5
   try simp only [Act.put, sP1, sP2, sP3]
   refine Own.tk (i := 12) (d := some 15) (v := ?vt8_12) rfl (by rfl) ?yt8_12 hS ?_
   case yt8_12 => intro wx hSw; (go_simp) <;> with_reducible rfl
   simp only [Act.put, sP1, sP2, sP3]
   refine wpAnyH_done (by kernel_rfl) ?_ _
   refine NoPanic.normal ?_
   have SM := hid (says_of (HM.out.on b5.out) HS.out HJ.out (err_ok HF.out))
   obtain ⟨m0, m1, m2, m3⟩ := MC.out.on b5.out
   go_wp2_with fail
   clear m0 m1 m2 m3
   refine (SM.out _ (same _)).mono ?_
   rintro e w6 ⟨rfl, hb6⟩
   obtain ⟨v0, v1, v2, v3⟩ := box_bel hb6 V0.out
   have B6 := hid hb6
   clear hb6
   go_wp2_with fail
   clear v0 v1 v2 v3
   refine (SY.out _ B6.out).mono ?_
   rintro e w9 ⟨rfl, hb9⟩
   have B9 := hid hb9
   clear hb9
   go_wp2_with fail
   go_ret
   exact ⟨rfl, FIN.out _ (View.more (View.more b5.out B6.out) B9.out)⟩
  ·go_simp
   try rw [hw2]
   refine hK.out _ _ S2 (fun _ => ?_)
   clear hK K
   replace hS := S2
   try simp only [Act.put, sP1, sP2, sP3]
   refine Own.tk (i := 7) (d := some 145) (v := ?vt9_7) rfl (by rfl) ?yt9_7 hS ?_
   case yt9_7 => intro wx hSw; (go_simp) <;> with_reducible rfl
   simp only [Act.put, sP1, sP2, sP3]
   refine wpAnyH_ready (rs := [1, 8]) (by kernel_rfl) (by simp) ?_
   refine AllReadyH.cons rfl (fun K hK => ?_) (AllReadyH.cons rfl (fun K hK => ?_) AllReadyH.nil)
   ·go_simp
    refine hK.out _ _ S2 (fun _ => ?_)
    clear hK K
    replace hS := S2
    try simp only [Act.put, sP1, sP2, sP3]
    refine wpAnyH_ready (rs := [8]) (by kernel_rfl) (by simp) ?_
    refine AllReadyH.cons rfl (fun K hK => ?_) AllReadyH.nil
    go_simp
    refine hK.out _ _ S3 (fun _ => ?_)
    clear hK K
    replace hS := S3
    try simp only [Act.put, sP1, sP2, sP3]
    refine wpAnyH_ready (rs := [9]) (by kernel_rfl) (by simp) ?_
    refine AllReadyH.cons rfl (fun K hK => ?_) AllReadyH.nil
    rw [if_pos (by rfl)]
    refine Own.wp_app (s := .tmp 139) (x := .tmp 146) (t := 23) (d := some 147) rfl rfl rfl rfl rfl hrun ?_
    try simp only [Act.put, sP1, sP2, sP3]
    refine hK.out _ _ S4 (fun _ => ?_)
    clear hK K
    replace hS := S4
    try simp only [Act.put, sP1, sP2, sP3]
    refine Own.tk (i := 10) (d := some 148) (v := ?vt10_10) rfl (by rfl) ?yt10_10 hS ?_
    case yt10_10 => intro wx hSw; (go_simp) <;> with_reducible rfl
    simp only [Act.put, sP1, sP2, sP3]
    refine wpAnyH_ready (rs := [11]) (by kernel_rfl) (by simp) ?_
    refine AllReadyH.cons rfl (fun K hK => ?_) AllReadyH.nil
    go_simp
    try rw [hw5]
    refine hK.out _ _ S5 (fun _ => ?_)
    clear hK K
    replace hS := S5
    try simp only [Act.put, sP1, sP2, sP3]
    refine Own.tk (i := 12) (d := some 15) (v := ?vt11_12) rfl (by rfl) ?yt11_12 hS ?_
    case yt11_12 => intro wx hSw; (go_simp) <;> with_reducible rfl
    simp only [Act.put, sP1, sP2, sP3]
    refine wpAnyH_done (by kernel_rfl) ?_ _
    refine NoPanic.normal ?_
    have SM := hid (says_of (HM.out.on b5.out) HS.out HJ.out (err_ok HF.out))
    obtain ⟨m0, m1, m2, m3⟩ := MC.out.on b5.out
    go_wp2_with fail
    clear m0 m1 m2 m3
    refine (SM.out _ (same _)).mono ?_
    rintro e w6 ⟨rfl, hb6⟩
    obtain ⟨v0, v1, v2, v3⟩ := box_bel hb6 V0.out
    have B6 := hid hb6
    clear hb6
    go_wp2_with fail
    clear v0 v1 v2 v3
    refine (SY.out _ B6.out).mono ?_
    rintro e w9 ⟨rfl, hb9⟩
    have B9 := hid hb9
    clear hb9
    go_wp2_with fail
    go_ret
    exact ⟨rfl, FIN.out _ (View.more (View.more b5.out B6.out) B9.out)⟩
   ·go_simp
    refine hK.out _ _ S3 (fun _ => ?_)
    clear hK K
    replace hS := S3
    try simp only [Act.put, sP1, sP2, sP3]
    refine wpAnyH_ready (rs := [1]) (by kernel_rfl) (by simp) ?_
    refine AllReadyH.cons rfl (fun K hK => ?_) AllReadyH.nil
    go_simp
    refine hK.out _ _ S3 (fun _ => ?_)
    clear hK K
    replace hS := S3
    try simp only [Act.put, sP1, sP2, sP3]
    refine wpAnyH_ready (rs := [9]) (by kernel_rfl) (by simp) ?_
    refine AllReadyH.cons rfl (fun K hK => ?_) AllReadyH.nil
    rw [if_pos (by rfl)]
    refine Own.wp_app (s := .tmp 139) (x := .tmp 146) (t := 23) (d := some 147) rfl rfl rfl rfl rfl hrun ?_
    try simp only [Act.put, sP1, sP2, sP3]
    refine hK.out _ _ S4 (fun _ => ?_)
    clear hK K
    replace hS := S4
    try simp only [Act.put, sP1, sP2, sP3]
    refine Own.tk (i := 10) (d := some 148) (v := ?vt12_10) rfl (by rfl) ?yt12_10 hS ?_
    case yt12_10 => intro wx hSw; (go_simp) <;> with_reducible rfl
    simp only [Act.put, sP1, sP2, sP3]
    refine wpAnyH_ready (rs := [11]) (by kernel_rfl) (by simp) ?_
    refine AllReadyH.cons rfl (fun K hK => ?_) AllReadyH.nil
    go_simp
    try rw [hw5]
    refine hK.out _ _ S5 (fun _ => ?_)
    clear hK K
    replace hS := S5
    try simp only [Act.put, sP1, sP2, sP3]
    refine Own.tk (i := 12) (d := some 15) (v := ?vt13_12) rfl (by rfl) ?yt13_12 hS ?_
    case yt13_12 => intro wx hSw; (go_simp) <;> with_reducible rfl
    simp only [Act.put, sP1, sP2, sP3]
    refine wpAnyH_done (by kernel_rfl) ?_ _
    refine NoPanic.normal ?_
    have SM := hid (says_of (HM.out.on b5.out) HS.out HJ.out (err_ok HF.out))
    obtain ⟨m0, m1, m2, m3⟩ := MC.out.on b5.out
    go_wp2_with fail
    clear m0 m1 m2 m3
    refine (SM.out _ (same _)).mono ?_
    rintro e w6 ⟨rfl, hb6⟩
    obtain ⟨v0, v1, v2, v3⟩ := box_bel hb6 V0.out
    have B6 := hid hb6
    clear hb6
    go_wp2_with fail
    clear v0 v1 v2 v3
    refine (SY.out _ B6.out).mono ?_
    rintro e w9 ⟨rfl, hb9⟩
    have B9 := hid hb9
    clear hb9
    go_wp2_with fail
    go_ret
    exact ⟨rfl, FIN.out _ (View.more (View.more b5.out B6.out) B9.out)⟩
 ·have e0 := kf hz 0
  have e1 := kf hz 1
  have e2 := kf hz 2
  have e3 := kf hz 3
  have e4 : ((q : Int) == 4) = true := by rw [hz]; rfl
  have e5 := kf hz 5
  have e6 := kf hz 6
  have e7 := kf hz 7
  clear hz
  have hor := OS.out
  have hcf : Wz.cell? ⟨V, 1, none⟩ = some (.slice s2.a s2.n s2.c) := hor.box.c1
  have zlim : s2.n ≤ 1000 := by rw [SN.out.2.1]; have := G10.out; omega
  have bw : Below Wz.heap.size Wz Wz := same _
  have ia : Ints Wz ⟨none, 0, 0⟩ (fun _ => 0) := litN _ _
  have ma : Mine Wz.heap.size Wz.heap.size Wz ⟨none, 0, 0⟩ := fun h => absurd h (by simp)
  have hY := hor.y.2.1
  obtain ⟨v5, w4, hrun, hown4, hgr4, hat4⟩ := app_gen (w2 := Wz) underGl infoGl rfl (by decide) (by decide) (owns_on bw hor.g2.own) zlim (Nat.le_trans hY bw.size) #[.string ⟨#[122, 122]⟩, .slice none 0 0] rfl (by intro u hu; simp at hu; rcases hu with rfl | rfl <;> rfl) 23
  obtain ⟨sv, rfl⟩ := owns_slv hown4
  have hn5 : sv.n = s2.n + 1 := own_len hown4
  have vne : ∀ b, Bl s2.n (slv s2) FpS t2' b → b ≠ V := hor.v2
  have hc2 : (World.alloc Wz (.cells #[.string ⟨#[122, 122]⟩, .slice none 0 0] 47)).cell? ⟨V, 1, none⟩ = some (.slice s2.a s2.n s2.c) := cell_on (bw.alloc bw.size _) hcf
  have NV : some V ≠ (slv s2).ownBlock := fun e => vne V (.inl e.symm) rfl
  have hc4 : w4.cell? ⟨V, 1, none⟩ = some (.slice s2.a s2.n s2.c) := by rw [World.cell?_of_block (w := World.alloc Wz _) (hgr4.block V (World.block_lt_of_cell? _ _ hc2) NV)]; exact hc2
  have fz4 : w4.frozen? ⟨V, 1, none⟩ = false := by rw [World.frozen?_of_block (w := World.alloc Wz _) (hgr4.block V (World.block_lt_of_cell? _ _ hc2) NV), (bw.alloc bw.size _).frozen hor.vlt]; exact hor.fz 1
  have ON := hor.glo ⟨#[122, 122]⟩ ⟨none, 0, 0⟩ sv (fun _ => 0) bw ia ma hn5 hown4 hgr4 hat4
  have hsay := says_glo HS.out HN.out CO.out SN.out G10.out (by show (2 : Nat) ≤ 40; decide) (Nat.zero_le _) hn5 ON (err_bare (by rw [NN.out.2.1]; exact hn5) rfl)
  obtain ⟨w5, hw5⟩ : ∃ w5, w4.setCell ⟨V, 1, none⟩ (.slice sv.a sv.n sv.c) = w5 := ⟨_, rfl⟩
  rw [show w4.setCell ⟨V, 1, none⟩ (slv sv) = w5 from hw5] at ON hsay
  have SY := hid hsay
  have V0 := hid (show w5.cell? ⟨V, 0, none⟩ = some (.slice s1.a s1.n s1.c) ∧ w5.cell? ⟨V, 1, none⟩ = some (.slice sv.a sv.n sv.c) ∧ w5.cell? ⟨V, 2, none⟩ = some (.slice s3.a s3.n s3.c) ∧ w5.cell? ⟨V, 3, none⟩ = some (.slice s4.a s4.n s4.c) from ⟨ON.box.c0, ON.box.c1, ON.box.c2, ON.box.c3⟩)
  have b5 := hid (show Below W.heap.size W w5 from View.more B3.out ON.low)
  clear ON hsay hor hown4 hgr4 hat4 bw ia ma hY vne zlim hn5 hc2 NV
  have SM := hid (says_of (HM.out.on b5.out) HS.out HJ.out (err_ok HF.out))
  obtain ⟨m0, m1, m2, m3⟩ := MC.out.on b5.out
  go_wp2_with (at_builtin; refine wpList_app (.tmp 152) (.tmp 154) (by rfl) (by rfl) (by rfl) (by rfl) (by rfl) hrun ?_)
  clear m0 m1 m2 m3
  refine (SM.out _ (same _)).mono ?_
  rintro e w6 ⟨rfl, hb6⟩
  obtain ⟨v0, v1, v2, v3⟩ := box_bel hb6 V0.out
  have B6 := hid hb6
  clear hb6
  go_wp2_with fail
  clear v0 v1 v2 v3
  refine (SY.out _ B6.out).mono ?_
  rintro e w9 ⟨rfl, hb9⟩
  have B9 := hid hb9
  clear hb9
  go_wp2_with fail
  go_ret
  exact ⟨rfl, FIN.out _ (View.more (View.more b5.out B6.out) B9.out)⟩
 ·have e0 := kf hz 0
  have e1 := kf hz 1
  have e2 := kf hz 2
  have e3 := kf hz 3
  have e4 := kf hz 4
  have e5 : ((q : Int) == 5) = true := by rw [hz]; rfl
  have e6 := kf hz 6
  have e7 := kf hz 7
  clear hz
  have hor := OS.out
  have hcf : Wz.cell? ⟨V, 2, none⟩ = some (.slice s3.a s3.n s3.c) := hor.box.c2
  have zlim : s3.n ≤ 1000 := by rw [SN.out.2.2.1]; have := G4.out; omega
  have wz3 := WB.out.2.2.2
  obtain ⟨w2, hw2⟩ : ∃ w2, World.alloc Wz (.cells #[.int .i64 (s4.n : Int)] 3) = w2 := ⟨_, rfl⟩
  have bw : Below Wz.heap.size Wz w2 := by rw [← hw2]; exact new (same _) _
  have zw : w2.heap.size = Wz.heap.size + 1 := by rw [← hw2]; simp
  have ia : Ints w2 ⟨some ⟨Wz.heap.size, 0, none⟩, 1, 1⟩ (fun _ => (s4.n : Int)) := by rw [← hw2]; exact ints_new Wz (s4.n : Int) _
  have ma : Mine Wz.heap.size w2.heap.size w2 ⟨some ⟨Wz.heap.size, 0, none⟩, 1, 1⟩ := fun _ => ⟨Wz.heap.size, rfl, Nat.le_refl _, by omega, fun i => by rw [← hw2]; exact World.frozen?_alloc_new _ _ _ i⟩
  have hY := hor.y.2.2.1
  obtain ⟨v5, w4, hrun, hown4, hgr4, hat4⟩ := app_gen (w2 := w2) underTb infoTb rfl (by decide) (by decide) (owns_on bw hor.g3.own) zlim (Nat.le_trans hY bw.size) #[.string ⟨#[122, 122]⟩, .slice (some ⟨Wz.heap.size, 0, none⟩) 1 1] rfl (by intro u hu; simp at hu; rcases hu with rfl | rfl <;> rfl) 24
  obtain ⟨sv, rfl⟩ := owns_slv hown4
  have hn5 : sv.n = s3.n + 1 := own_len hown4
  have vne : ∀ b, Bl s3.n (slv s3) FpS t3' b → b ≠ V := hor.v3
  have hc2 : (World.alloc w2 (.cells #[.string ⟨#[122, 122]⟩, .slice (some ⟨Wz.heap.size, 0, none⟩) 1 1] 49)).cell? ⟨V, 2, none⟩ = some (.slice s3.a s3.n s3.c) := cell_on (bw.alloc bw.size _) hcf
  have NV : some V ≠ (slv s3).ownBlock := fun e => vne V (.inl e.symm) rfl
  have hc4 : w4.cell? ⟨V, 2, none⟩ = some (.slice s3.a s3.n s3.c) := by rw [World.cell?_of_block (w := World.alloc w2 _) (hgr4.block V (World.block_lt_of_cell? _ _ hc2) NV)]; exact hc2
  have fz4 : w4.frozen? ⟨V, 2, none⟩ = false := by rw [World.frozen?_of_block (w := World.alloc w2 _) (hgr4.block V (World.block_lt_of_cell? _ _ hc2) NV), (bw.alloc bw.size _).frozen hor.vlt]; exact hor.fz 2
  have ON := hor.tab ⟨#[122, 122]⟩ ⟨some ⟨Wz.heap.size, 0, none⟩, 1, 1⟩ sv (fun _ => (s4.n : Int)) bw ia ma hn5 hown4 hgr4 hat4
  have nz : NotN N ⟨#[122, 122]⟩ := by rw [← HN.out]; exact ⟨fun i hi => NZ.out.ext i (by rw [← SN.out.1]; exact hi), fun i hi => NZ.out.glo i (by rw [← SN.out.2.1]; exact hi), fun i hi => NZ.out.tab i (by rw [← SN.out.2.2.1]; exact hi), fun i hi => by have hi2 : i < s4.n := hi; obtain ⟨_, _, _, h3⟩ := (GR.out.g4.el i (by rw [← SN.out.2.2.2]; exact hi2)).1; have := (eqF_twins h3).1; rw [show ((growN M s1 s2 s3 s4 t1' t2' t3' t4').F i).name.toList = (t4' i).name.toList from rfl, this]; exact NZ.out.fns i (by rw [← SN.out.2.2.2]; exact hi2)⟩
  have hsay := says_tab HS.out HN.out CO.out SN.out G4.out (by show (2 : Nat) ≤ 40; decide) (by show (1 : Nat) ≤ 16; decide) hn5 ON (err_tabs CO.out.fit (by rw [NN.out.2.2.1, SN.out.2.2.1]; exact G4.out) (by rw [NN.out.2.2.1]; exact hn5) rfl (by rw [NN.out.2.2.2.1]) nz)
  clear nz
  obtain ⟨w5, hw5⟩ : ∃ w5, w4.setCell ⟨V, 2, none⟩ (.slice sv.a sv.n sv.c) = w5 := ⟨_, rfl⟩
  rw [show w4.setCell ⟨V, 2, none⟩ (slv sv) = w5 from hw5] at ON hsay
  have SY := hid hsay
  have V0 := hid (show w5.cell? ⟨V, 0, none⟩ = some (.slice s1.a s1.n s1.c) ∧ w5.cell? ⟨V, 1, none⟩ = some (.slice s2.a s2.n s2.c) ∧ w5.cell? ⟨V, 2, none⟩ = some (.slice sv.a sv.n sv.c) ∧ w5.cell? ⟨V, 3, none⟩ = some (.slice s4.a s4.n s4.c) from ⟨ON.box.c0, ON.box.c1, ON.box.c2, ON.box.c3⟩)
  have b5 := hid (show Below W.heap.size W w5 from View.more B3.out ON.low)
  clear ON hsay hor hown4 hgr4 hat4 bw ia ma hY vne zlim hn5 hc2 NV zw
  have SM := hid (says_of (HM.out.on b5.out) HS.out HJ.out (err_ok HF.out))
  obtain ⟨m0, m1, m2, m3⟩ := MC.out.on b5.out
  go_wp2_with (at_builtin; refine wpList_app (.tmp 160) (.tmp 166) (by rfl) (by rfl) (by rfl) (by rfl) (by rfl) hrun ?_)
  clear m0 m1 m2 m3
  refine (SM.out _ (same _)).mono ?_
  rintro e w6 ⟨rfl, hb6⟩
  obtain ⟨v0, v1, v2, v3⟩ := box_bel hb6 V0.out
  have B6 := hid hb6
  clear hb6
  go_wp2_with fail
  clear v0 v1 v2 v3
  refine (SY.out _ B6.out).mono ?_
  rintro e w9 ⟨rfl, hb9⟩
  have B9 := hid hb9
  clear hb9
  go_wp2_with fail
  go_ret
  exact ⟨rfl, FIN.out _ (View.more (View.more b5.out B6.out) B9.out)⟩
 ·have e0 := kf hz 0
  have e1 := kf hz 1
  have e2 := kf hz 2
  have e3 := kf hz 3
  have e4 := kf hz 4
  have e5 := kf hz 5
  have e6 : ((q : Int) == 6) = true := by rw [hz]; rfl
  have e7 := kf hz 7
  clear hz
  obtain ⟨s5, w4, gB2, p1, hrun, hc4, fz4, hsay, hlow, hbox⟩ := says_behind CO.out HXY.out.1 HXY.out.2.1 (by have := HXY.out.2.2.1; omega)
  obtain rfl : gB2 = gB := by have := p1.symm.trans HXY.out.2.2.2.2.1; simpa using this
  have cb := CB.out
  obtain ⟨w5, hw5⟩ : ∃ w5, w4.setCell ⟨gB2, y, none⟩ (.slice s5.a s5.n s5.c) = w5 := ⟨_, rfl⟩
  rw [show w4.setCell ⟨gB2, y, none⟩ (slv s5) = w5 from hw5] at hsay hlow hbox
  have kV := hbox VZ.out
  rw [NN.out.2.2.2.2] at hsay
  have SY := hid hsay
  have b5 := hid (show Below W.heap.size W w5 from LZ.out.trans (hlow.mono (by have := X4Z.out; have := B3.out.size; omega)))
  have V0 := hid (box_on kV WB.out)
  clear hsay hlow kV hbox p1
  have SM := hid (says_of (HM.out.on b5.out) HS.out HJ.out (err_ok HF.out))
  obtain ⟨m0, m1, m2, m3⟩ := MC.out.on b5.out
  go_wp2_with (at_builtin; refine wpList_app (.tmp 175) (.tmp 177) (by rfl) (by rfl) (by rfl) (by rfl) (by rfl) hrun ?_)
  clear m0 m1 m2 m3
  refine (SM.out _ (same _)).mono ?_
  rintro e w6 ⟨rfl, hb6⟩
  obtain ⟨v0, v1, v2, v3⟩ := box_bel hb6 V0.out
  have B6 := hid hb6
  clear hb6
  go_wp2_with fail
  clear v0 v1 v2 v3
  refine (SY.out _ B6.out).mono ?_
  rintro e w9 ⟨rfl, hb9⟩
  have B9 := hid hb9
  clear hb9
  go_wp2_with fail
  go_ret
  exact ⟨rfl, FIN.out _ (View.more (View.more b5.out B6.out) B9.out)⟩
 ·have e0 := kf hz 0
  have e1 := kf hz 1
  have e2 := kf hz 2
  have e3 := kf hz 3
  have e4 := kf hz 4
  have e5 := kf hz 5
  have e6 := kf hz 6
  have e7 : ((q : Int) == 7) = true := by rw [hz]; rfl
  clear hz
  obtain ⟨s5, w4, hrun, hc4, fz4, hsay, hlow, hbox⟩ := says_alone CO.out HXY.out.1 HXY.out.2.2.2.1
  rw [show (Wz.alloc (.cells stopI.cells 43)).heap.size = Wz.heap.size + 1 from by simp] at hrun
  have cb := FA.out.c4
  obtain ⟨w5, hw5⟩ : ∃ w5, w4.setCell ⟨g, x * 5 + 4, none⟩ (.slice s5.a s5.n s5.c) = w5 := ⟨_, rfl⟩
  rw [show w4.setCell ⟨g, x * 5 + 4, none⟩ (slv s5) = w5 from hw5] at hsay hlow hbox
  have kV := hbox VZ.out
  rw [NN.out.2.2.2.2] at hsay
  have SY := hid hsay
  have b5 := hid (show Below W.heap.size W w5 from LZ.out.trans (hlow.mono (by have := X4Z.out; have := B3.out.size; omega)))
  have V0 := hid (box_on kV WB.out)
  clear hsay hlow kV hbox
  have SM := hid (says_of (HM.out.on b5.out) HS.out HJ.out (err_ok HF.out))
  obtain ⟨m0, m1, m2, m3⟩ := MC.out.on b5.out
  go_wp2_with (at_builtin; refine wpList_app (.tmp 187) (.tmp 191) (by rfl) (by rfl) (by rfl) (by rfl) (by rfl) hrun ?_)
  clear m0 m1 m2 m3
  refine (SM.out _ (same _)).mono ?_
  rintro e w6 ⟨rfl, hb6⟩
  obtain ⟨v0, v1, v2, v3⟩ := box_bel hb6 V0.out
  have B6 := hid hb6
  clear hb6
  go_wp2_with fail
  clear v0 v1 v2 v3
  refine (SY.out _ B6.out).mono ?_
  rintro e w9 ⟨rfl, hb9⟩
  have B9 := hid hb9
  clear hb9
  go_wp2_with fail
  go_ret
  exact ⟨rfl, FIN.out _ (View.more (View.more b5.out B6.out) B9.out)⟩
 ·have e0 := kf hz 0
  have e1 := kf hz 1
  have e2 := kf hz 2
  have e3 := kf hz 3
  have e4 := kf hz 4
  have e5 := kf hz 5
  have e6 := kf hz 6
  have e7 := kf hz 7
  clear hz
  obtain ⟨vv, hvv⟩ : ∃ vv : Nat, (N.F x).par.n + cnt (fun j => giv ((N.F x).I j) ((N.F x).B j).n) (N.F x).blk.n = vv := ⟨_, rfl⟩
  have hvl : vv ≤ 500 := by have h1 := (CO.out.small.light x HXY.out.1).par; have h2 := giv_all (CO.out.small.light x HXY.out.1); omega
  have VAL := hid (show ∀ wx, Below Wz.heap.size Wz wx → Calls Tryz.prog 11 #[(N.F x).val] wx fun e w' => e = .returned (.int .i64 (vv : Int)) ∧ Below wx.heap.size wx w' from fun wx hb => by
   have := Ty.values_ref (N.F x) wx ((CO.out.inn.on hb).fnI x HXY.out.1) (CO.out.small.light x HXY.out.1)
   rw [← hvv]
   simpa using this)
  obtain ⟨gp, a1, a2, _, _, a5⟩ := CO.out.sp.fns (by have := HXY.out.1; omega)
  obtain rfl : gp = g := by have e := a1.symm.trans HXY.out.2.2.2.1; simpa using e
  have S0 : FAt Wz.drew gp (x * 5) (N.F x) := FA.out.on (Below.drew (same _))
  have b0 : Below Wz.heap.size Wz Wz.drew := Below.drew (same _)
  have cbz := CB.out
  have gBl : gB < Wz.heap.size := World.block_lt_of_cell? _ _ cbz
  have gneB : gp ≠ gB := fun e => a5 x HXY.out.1 (.inr (.inr ⟨by have := HXY.out.2.1; omega, by rw [blkOf_eq HXY.out.2.2.2.2.1]; exact e⟩))
  have hwp : IntKind.i64.wrap ((vv : Int) + 1) = (vv : Int) + 1 := by simp [IntKind.wrap, IntKind.bits, IntKind.signed]; omega
  clear hvv a1 a2 a5
  go_upto_region 11 with fail
  refine wp_region_noPanic ?_
  refine wp_region_held_drew (S := fun wx => FAt wx gp (x * 5) (N.F x)) (by kernel_rfl) S0 (fun hS => ?_)
  refine Own.tk (i := 0) (d := some 84) (v := ?vk1_0) rfl (by rfl) ?yk1_0 hS ?_
  case yk1_0 => intro wx hSw; (go_simp) <;> with_reducible rfl
  simp only [Act.put, sP1, sP2, sP3]
  refine Own.tk (i := 1) (d := some 85) (v := ?vk2_1) rfl (by rfl) ?yk2_1 hS ?_
  case yk2_1 => intro wx hSw; (go_simp) <;> with_reducible rfl
  simp only [Act.put, sP1, sP2, sP3]
  refine Own.tk (i := 2) (d := some 86) (v := ?vk3_2) rfl (by rfl) ?yk3_2 hS ?_
  case yk3_2 => intro wx hSw; (go_simp) <;> with_reducible rfl
  simp only [Act.put, sP1, sP2, sP3]
  refine Own.tk (i := 3) (d := some 87) (v := ?vk4_3) rfl (by rfl) ?yk4_3 hS ?_
  case yk4_3 => intro wx hSw; obtain ⟨y0, y1, y2, y3, y4⟩ := hSw; (go_simp) <;> with_reducible rfl
  simp only [Act.put, sP1, sP2, sP3]
  refine Own.tk (i := 6) (d := some 90) (v := ?vk5_6) rfl (by rfl) ?yk5_6 hS ?_
  case yk5_6 => intro wx hSw; (go_simp) <;> with_reducible rfl
  simp only [Act.put, sP1, sP2, sP3]
  refine Own.tk (i := 7) (d := some 91) (v := ?vk6_7) rfl (by rfl) ?yk6_7 hS ?_
  case yk6_7 => intro wx hSw; (go_simp) <;> with_reducible rfl
  simp only [Act.put, sP1, sP2, sP3]
  refine Own.tk (i := 8) (d := some 92) (v := ?vk7_8) rfl (by rfl) ?yk7_8 hS ?_
  case yk7_8 => intro wx hSw; obtain ⟨y0, y1, y2, y3, y4⟩ := hSw; (go_simp) <;> with_reducible rfl
  simp only [Act.put, sP1, sP2, sP3]
  refine Own.tk (i := 14) (d := some 98) (v := ?vk8_14) rfl (by rfl) ?yk8_14 hS ?_
  case yk8_14 => intro wx hSw; (go_simp) <;> with_reducible rfl
  simp only [Act.put, sP1, sP2, sP3]
  refine Own.tk (i := 15) (d := some 99) (v := ?vk9_15) rfl (by rfl) ?yk9_15 hS ?_
  case yk9_15 => intro wx hSw; (go_simp) <;> with_reducible rfl
  simp only [Act.put, sP1, sP2, sP3]
  refine Own.tk (i := 16) (d := some 100) (v := ?vk10_16) rfl (by rfl) ?yk10_16 hS ?_
  case yk10_16 => intro wx hSw; (go_simp) <;> with_reducible rfl
  simp only [Act.put, sP1, sP2, sP3]
  refine wpAnyH_ready (rs := [4, 17]) (by kernel_rfl) (by simp) ?_
  refine AllReadyH.cons rfl (fun K hK => ?_) (AllReadyH.cons rfl (fun K hK => ?_) AllReadyH.nil)
  ·go_simp
   refine (VAL.out _ b0).mono ?_
   rintro e u1 ⟨rfl, hb1⟩
   have bu1 := View.more b0 hb1
   have Su1 := FA.out.on bu1
   clear hb1
   go_wp2_with fail
   refine hK.out _ _ Su1 (fun _ => ?_)
   clear hK K
   replace hS := Su1
   try simp only [Act.put, sP1, sP2, sP3]
   refine Own.tk (i := 5) (d := some 89) (v := ?vk11_5) rfl (by rfl) ?yk11_5 hS ?_
   case yk11_5 => intro wx hSw; (go_simp) <;> with_reducible rfl
   simp only [Act.put, sP1, sP2, sP3]
   refine wpAnyH_ready (rs := [9, 17]) (by kernel_rfl) (by simp) ?_
   refine AllReadyH.cons rfl (fun K hK => ?_) (AllReadyH.cons rfl (fun K hK => ?_) AllReadyH.nil)
   ·go_simp
    refine (VAL.out _ bu1).mono ?_
    rintro e u2 ⟨rfl, hb2⟩
    have bu2 := View.more bu1 hb2
    have Su2 := FA.out.on bu2
    clear hb2
    go_wp2_with fail
    refine hK.out _ _ Su2 (fun _ => ?_)
    clear hK K
    replace hS := Su2
    try simp only [Act.put, sP1, sP2, sP3]
    refine Own.tk (i := 10) (d := some 94) (v := ?vk12_10) rfl (by rfl) ?yk12_10 hS ?_
    case yk12_10 => intro wx hSw; (go_simp) <;> with_reducible rfl
    simp only [Act.put, sP1, sP2, sP3]
    refine wpAnyH_ready (rs := [11, 17]) (by kernel_rfl) (by simp) ?_
    refine AllReadyH.cons rfl (fun K hK => ?_) (AllReadyH.cons rfl (fun K hK => ?_) AllReadyH.nil)
    ·go_simp
     obtain ⟨w2, hw2⟩ : ∃ w2, World.alloc u2 (.cells #[.int .i64 ((vv : Int) + 1)] 3) = w2 := ⟨_, rfl⟩
     rw [hw2]
     have b2 : Below Wz.heap.size Wz w2 := by rw [← hw2]; exact new bu2 _
     have hga : w2.cell? ⟨u2.heap.size, 0, none⟩ = some (.int .i64 ((vv : Int) + 1)) := by rw [← hw2]; simp
     have z2 : w2.heap.size = u2.heap.size + 1 := by rw [← hw2]; simp
     have Sw2 := FA.out.on b2
     clear hw2
     refine hK.out _ _ Sw2 (fun _ => ?_)
     clear hK K
     replace hS := Sw2
     try simp only [Act.put, sP1, sP2, sP3]
     refine Own.tk (i := 12) (d := some 96) (v := ?vk13_12) rfl (by rfl) ?yk13_12 hS ?_
     case yk13_12 => intro wx hSw; (go_simp) <;> with_reducible rfl
     simp only [Act.put, sP1, sP2, sP3]
     refine wpAnyH_ready (rs := [13, 17]) (by kernel_rfl) (by simp) ?_
     refine AllReadyH.cons rfl (fun K hK => ?_) (AllReadyH.cons rfl (fun K hK => ?_) AllReadyH.nil)
     ·go_simp
      obtain ⟨w3x, hw3x⟩ : ∃ w3x, World.alloc w2 (.cells (loadI ((vv : Int) + 1) ⟨some ⟨u2.heap.size, 0, none⟩, 1, 1⟩).cells 43) = w3x := ⟨_, rfl⟩
      rw [hw3x]
      have b3x : Below Wz.heap.size Wz w3x := by rw [← hw3x]; exact new b2 _
      have hRR : w3x.heap[w2.heap.size]? = some (.cells (loadI ((vv : Int) + 1) ⟨some ⟨u2.heap.size, 0, none⟩, 1, 1⟩).cells 43 (0, 0)) := by rw [← hw3x]; show (w2.heap.push _)[w2.heap.size]? = _; simp
      have hga3 : w3x.cell? ⟨u2.heap.size, 0, none⟩ = some (.int .i64 ((vv : Int) + 1)) := by rw [← hw3x]; exact cell_on (new (same _) _) hga
      have Sw3 := FA.out.on b3x
      rw [z2] at hRR
      clear hw3x
      refine hK.out _ _ Sw3 (fun _ => ?_)
      clear hK K
      replace hS := Sw3
      try simp only [Act.put, sP1, sP2, sP3]
      refine wpAnyH_ready (rs := [17]) (by kernel_rfl) (by simp) ?_
      refine AllReadyH.cons rfl (fun K hK => ?_) AllReadyH.nil
      have cb := cell_on b3x cbz
      go_simp
      clear cb
      refine hK.out _ _ Sw3 (fun _ => ?_)
      clear hK K
      replace hS := Sw3
      try simp only [Act.put, sP1, sP2, sP3]
      refine wpAnyH_ready (rs := [18]) (by kernel_rfl) (by simp) ?_
      refine AllReadyH.cons rfl (fun K hK => ?_) AllReadyH.nil
      obtain ⟨s5, w4, gB2, p1, hrun, hc4, fz4, hn5, hix1, hrow, hsay, hlow, hbox⟩ := says_front CO.out HXY.out.1 HXY.out.2.1 (by have := HXY.out.2.2.1; omega) b3x (t := (vv : Int) + 1) (by omega) (ga := u2.heap.size) (R := u2.heap.size + 1) (by have := b2.size; omega) hRR hga3 bu2.size (by omega)
      have HN5 := hid hn5
      clear hn5
      obtain rfl : gB2 = gB := by have := p1.symm.trans HXY.out.2.2.2.2.1; simpa using this
      have gw4 : ∀ q, w4.cell? ⟨gp, q, none⟩ = (w4.setCell ⟨gB2, y, none⟩ (slv s5)).cell? ⟨gp, q, none⟩ := fun q => (by rw [World.cell?_setCell_other (h := fun e => gneB (congrArg Addr.block e).symm)])
      obtain ⟨w5, hw5⟩ : ∃ w5, w4.setCell ⟨gB2, y, none⟩ (.slice s5.a s5.n s5.c) = w5 := ⟨_, rfl⟩
      rw [show w4.setCell ⟨gB2, y, none⟩ (slv s5) = w5 from hw5] at hsay hlow hbox gw4 hix1 hrow
      have kg := hrow gp HXY.out.2.2.2.1
      have S5 : FAt w5 gp (x * 5) (N.F x) := fat_blk kg FA.out
      have S4 : FAt w4 gp (x * 5) (N.F x) := ⟨by rw [gw4]; exact S5.c0, by rw [gw4]; exact S5.c1, by rw [gw4]; exact S5.c2, by rw [gw4]; exact S5.c3, by rw [gw4]; exact S5.c4⟩
      have kV := hbox VZ.out
      rw [NN.out.2.2.2.2] at hsay
      have SY0 := hid hsay
      have b5 := hid (show Below W.heap.size W w5 from LZ.out.trans (hlow.mono (by have := X4Z.out; have := B3.out.size; omega)))
      have V0 := hid (box_on kV WB.out)
      clear hsay hlow kV hbox p1 gw4 hrow kg
      rw [if_pos (by rfl)]
      refine Own.wp_app (s := .tmp 97) (x := .tmp 101) (t := 38) (d := some 102) rfl rfl rfl rfl rfl hrun ?_
      try simp only [Act.put, sP1, sP2, sP3]
      refine hK.out _ _ S4 (fun _ => ?_)
      clear hK K
      replace hS := S4
      try simp only [Act.put, sP1, sP2, sP3]
      refine Own.tk (i := 19) (d := some 103) (v := ?vk14_19) rfl (by rfl) ?yk14_19 hS ?_
      case yk14_19 => intro wx hSw; (go_simp) <;> with_reducible rfl
      simp only [Act.put, sP1, sP2, sP3]
      refine Own.tk (i := 20) (d := some 104) (v := ?vk15_20) rfl (by rfl) ?yk15_20 hS ?_
      case yk15_20 => intro wx hSw; (go_simp) <;> with_reducible rfl
      simp only [Act.put, sP1, sP2, sP3]
      refine wpAnyH_ready (rs := [21]) (by kernel_rfl) (by simp) ?_
      refine AllReadyH.cons rfl (fun K hK => ?_) AllReadyH.nil
      go_simp
      try rw [hw5]
      refine hK.out _ _ S5 (fun _ => ?_)
      clear hK K
      replace hS := S5
      try simp only [Act.put, sP1, sP2, sP3]
      refine Own.tk (i := 22) (d := some 15) (v := ?vk16_22) rfl (by rfl) ?yk16_22 hS ?_
      case yk16_22 => intro wx hSw; (go_simp) <;> with_reducible rfl
      simp only [Act.put, sP1, sP2, sP3]
      refine wpAnyH_done (by kernel_rfl) ?_ _
      refine NoPanic.normal ?_
      obtain ⟨g1, o1, hq1, hq2⟩ := hix1
      have c5 : w5.cell? ⟨gB2, y, none⟩ = some (.slice s5.a s5.n s5.c) := by rw [← hw5]; exact cell_same hc4
      have tn : decide ((1 : Int) < (s5.n : Int)) = true := by have q5 := HN5.out; simp; have := HXY.out.2.2.1; omega
      clear hw5
      by_cases e26 : ((N.F x).I y 0).op = 26
      ·rw [if_pos e26] at SY0
       have SY := SY0
       have t26 : (((N.F x).I y 0).op == 26) = true := by simpa using e26
       clear e26
       have SM := hid (says_of (HM.out.on b5.out) HS.out HJ.out (err_ok HF.out))
       obtain ⟨m0, m1, m2, m3⟩ := MC.out.on b5.out
       go_wp2_with fail
       clear m0 m1 m2 m3
       refine (SM.out _ (same _)).mono ?_
       rintro e w6 ⟨rfl, hb6⟩
       obtain ⟨v0, v1, v2, v3⟩ := box_bel hb6 V0.out
       have B6 := hid hb6
       clear hb6
       go_wp2_with fail
       clear v0 v1 v2 v3
       refine (SY.out _ B6.out).mono ?_
       rintro e w9 ⟨rfl, hb9⟩
       have B9 := hid hb9
       clear hb9
       go_wp2_with fail
       go_ret
       exact ⟨rfl, FIN.out _ (View.more (View.more b5.out B6.out) B9.out)⟩
      ·rw [if_neg e26] at SY0
       have SY := SY0
       have t26 : (((N.F x).I y 0).op == 26) = false := by simpa using e26
       clear e26
       have SM := hid (says_of (HM.out.on b5.out) HS.out HJ.out (err_ok HF.out))
       obtain ⟨m0, m1, m2, m3⟩ := MC.out.on b5.out
       go_wp2_with fail
       clear m0 m1 m2 m3
       refine (SM.out _ (same _)).mono ?_
       rintro e w6 ⟨rfl, hb6⟩
       obtain ⟨v0, v1, v2, v3⟩ := box_bel hb6 V0.out
       have B6 := hid hb6
       clear hb6
       go_wp2_with fail
       clear v0 v1 v2 v3
       refine (SY.out _ B6.out).mono ?_
       rintro e w9 ⟨rfl, hb9⟩
       have B9 := hid hb9
       clear hb9
       go_wp2_with fail
       go_ret
       exact ⟨rfl, FIN.out _ (View.more (View.more b5.out B6.out) B9.out)⟩
     ·have cb := cell_on b2 cbz
      go_simp
      clear cb
      refine hK.out _ _ Sw2 (fun _ => ?_)
      clear hK K
      replace hS := Sw2
      try simp only [Act.put, sP1, sP2, sP3]
      refine wpAnyH_ready (rs := [13]) (by kernel_rfl) (by simp) ?_
      refine AllReadyH.cons rfl (fun K hK => ?_) AllReadyH.nil
      go_simp
      obtain ⟨w3x, hw3x⟩ : ∃ w3x, World.alloc w2 (.cells (loadI ((vv : Int) + 1) ⟨some ⟨u2.heap.size, 0, none⟩, 1, 1⟩).cells 43) = w3x := ⟨_, rfl⟩
      rw [hw3x]
      have b3x : Below Wz.heap.size Wz w3x := by rw [← hw3x]; exact new b2 _
      have hRR : w3x.heap[w2.heap.size]? = some (.cells (loadI ((vv : Int) + 1) ⟨some ⟨u2.heap.size, 0, none⟩, 1, 1⟩).cells 43 (0, 0)) := by rw [← hw3x]; show (w2.heap.push _)[w2.heap.size]? = _; simp
      have hga3 : w3x.cell? ⟨u2.heap.size, 0, none⟩ = some (.int .i64 ((vv : Int) + 1)) := by rw [← hw3x]; exact cell_on (new (same _) _) hga
      have Sw3 := FA.out.on b3x
      rw [z2] at hRR
      clear hw3x
      refine hK.out _ _ Sw3 (fun _ => ?_)
      clear hK K
      replace hS := Sw3
      try simp only [Act.put, sP1, sP2, sP3]
      refine wpAnyH_ready (rs := [18]) (by kernel_rfl) (by simp) ?_
      refine AllReadyH.cons rfl (fun K hK => ?_) AllReadyH.nil
      obtain ⟨s5, w4, gB2, p1, hrun, hc4, fz4, hn5, hix1, hrow, hsay, hlow, hbox⟩ := says_front CO.out HXY.out.1 HXY.out.2.1 (by have := HXY.out.2.2.1; omega) b3x (t := (vv : Int) + 1) (by omega) (ga := u2.heap.size) (R := u2.heap.size + 1) (by have := b2.size; omega) hRR hga3 bu2.size (by omega)
      have HN5 := hid hn5
      clear hn5
      obtain rfl : gB2 = gB := by have := p1.symm.trans HXY.out.2.2.2.2.1; simpa using this
      have gw4 : ∀ q, w4.cell? ⟨gp, q, none⟩ = (w4.setCell ⟨gB2, y, none⟩ (slv s5)).cell? ⟨gp, q, none⟩ := fun q => (by rw [World.cell?_setCell_other (h := fun e => gneB (congrArg Addr.block e).symm)])
      obtain ⟨w5, hw5⟩ : ∃ w5, w4.setCell ⟨gB2, y, none⟩ (.slice s5.a s5.n s5.c) = w5 := ⟨_, rfl⟩
      rw [show w4.setCell ⟨gB2, y, none⟩ (slv s5) = w5 from hw5] at hsay hlow hbox gw4 hix1 hrow
      have kg := hrow gp HXY.out.2.2.2.1
      have S5 : FAt w5 gp (x * 5) (N.F x) := fat_blk kg FA.out
      have S4 : FAt w4 gp (x * 5) (N.F x) := ⟨by rw [gw4]; exact S5.c0, by rw [gw4]; exact S5.c1, by rw [gw4]; exact S5.c2, by rw [gw4]; exact S5.c3, by rw [gw4]; exact S5.c4⟩
      have kV := hbox VZ.out
      rw [NN.out.2.2.2.2] at hsay
      have SY0 := hid hsay
      have b5 := hid (show Below W.heap.size W w5 from LZ.out.trans (hlow.mono (by have := X4Z.out; have := B3.out.size; omega)))
      have V0 := hid (box_on kV WB.out)
      clear hsay hlow kV hbox p1 gw4 hrow kg
      rw [if_pos (by rfl)]
      refine Own.wp_app (s := .tmp 97) (x := .tmp 101) (t := 38) (d := some 102) rfl rfl rfl rfl rfl hrun ?_
      try simp only [Act.put, sP1, sP2, sP3]
      refine hK.out _ _ S4 (fun _ => ?_)
      clear hK K
      replace hS := S4
      try simp only [Act.put, sP1, sP2, sP3]
      refine Own.tk (i := 19) (d := some 103) (v := ?vk17_19) rfl (by rfl) ?yk17_19 hS ?_
      case yk17_19 => intro wx hSw; (go_simp) <;> with_reducible rfl
      simp only [Act.put, sP1, sP2, sP3]
      refine Own.tk (i := 20) (d := some 104) (v := ?vk18_20) rfl (by rfl) ?yk18_20 hS ?_
      case yk18_20 => intro wx hSw; (go_simp) <;> with_reducible rfl
      simp only [Act.put, sP1, sP2, sP3]
      refine wpAnyH_ready (rs := [21]) (by kernel_rfl) (by simp) ?_
      refine AllReadyH.cons rfl (fun K hK => ?_) AllReadyH.nil
      go_simp
      try rw [hw5]
      refine hK.out _ _ S5 (fun _ => ?_)
      clear hK K
      replace hS := S5
      try simp only [Act.put, sP1, sP2, sP3]
      refine Own.tk (i := 22) (d := some 15) (v := ?vk19_22) rfl (by rfl) ?yk19_22 hS ?_
      case yk19_22 => intro wx hSw; (go_simp) <;> with_reducible rfl
      simp only [Act.put, sP1, sP2, sP3]
      refine wpAnyH_done (by kernel_rfl) ?_ _
      refine NoPanic.normal ?_
      obtain ⟨g1, o1, hq1, hq2⟩ := hix1
      have c5 : w5.cell? ⟨gB2, y, none⟩ = some (.slice s5.a s5.n s5.c) := by rw [← hw5]; exact cell_same hc4
      have tn : decide ((1 : Int) < (s5.n : Int)) = true := by have q5 := HN5.out; simp; have := HXY.out.2.2.1; omega
      clear hw5
      by_cases e26 : ((N.F x).I y 0).op = 26
      ·rw [if_pos e26] at SY0
       have SY := SY0
       have t26 : (((N.F x).I y 0).op == 26) = true := by simpa using e26
       clear e26
       have SM := hid (says_of (HM.out.on b5.out) HS.out HJ.out (err_ok HF.out))
       obtain ⟨m0, m1, m2, m3⟩ := MC.out.on b5.out
       go_wp2_with fail
       clear m0 m1 m2 m3
       refine (SM.out _ (same _)).mono ?_
       rintro e w6 ⟨rfl, hb6⟩
       obtain ⟨v0, v1, v2, v3⟩ := box_bel hb6 V0.out
       have B6 := hid hb6
       clear hb6
       go_wp2_with fail
       clear v0 v1 v2 v3
       refine (SY.out _ B6.out).mono ?_
       rintro e w9 ⟨rfl, hb9⟩
       have B9 := hid hb9
       clear hb9
       go_wp2_with fail
       go_ret
       exact ⟨rfl, FIN.out _ (View.more (View.more b5.out B6.out) B9.out)⟩
      ·rw [if_neg e26] at SY0
       have SY := SY0
       have t26 : (((N.F x).I y 0).op == 26) = false := by simpa using e26
       clear e26
       have SM := hid (says_of (HM.out.on b5.out) HS.out HJ.out (err_ok HF.out))
       obtain ⟨m0, m1, m2, m3⟩ := MC.out.on b5.out
       go_wp2_with fail
       clear m0 m1 m2 m3
       refine (SM.out _ (same _)).mono ?_
       rintro e w6 ⟨rfl, hb6⟩
       obtain ⟨v0, v1, v2, v3⟩ := box_bel hb6 V0.out
       have B6 := hid hb6
       clear hb6
       go_wp2_with fail
       clear v0 v1 v2 v3
       refine (SY.out _ B6.out).mono ?_
       rintro e w9 ⟨rfl, hb9⟩
       have B9 := hid hb9
       clear hb9
       go_wp2_with fail
       go_ret
       exact ⟨rfl, FIN.out _ (View.more (View.more b5.out B6.out) B9.out)⟩
    ·have cb := cell_on bu2 cbz
     go_simp
     clear cb
     refine hK.out _ _ Su2 (fun _ => ?_)
     clear hK K
     replace hS := Su2
     try simp only [Act.put, sP1, sP2, sP3]
     refine wpAnyH_ready (rs := [11]) (by kernel_rfl) (by simp) ?_
     refine AllReadyH.cons rfl (fun K hK => ?_) AllReadyH.nil
     go_simp
     obtain ⟨w2, hw2⟩ : ∃ w2, World.alloc u2 (.cells #[.int .i64 ((vv : Int) + 1)] 3) = w2 := ⟨_, rfl⟩
     rw [hw2]
     have b2 : Below Wz.heap.size Wz w2 := by rw [← hw2]; exact new bu2 _
     have hga : w2.cell? ⟨u2.heap.size, 0, none⟩ = some (.int .i64 ((vv : Int) + 1)) := by rw [← hw2]; simp
     have z2 : w2.heap.size = u2.heap.size + 1 := by rw [← hw2]; simp
     have Sw2 := FA.out.on b2
     clear hw2
     refine hK.out _ _ Sw2 (fun _ => ?_)
     clear hK K
     replace hS := Sw2
     try simp only [Act.put, sP1, sP2, sP3]
     refine Own.tk (i := 12) (d := some 96) (v := ?vk20_12) rfl (by rfl) ?yk20_12 hS ?_
     case yk20_12 => intro wx hSw; (go_simp) <;> with_reducible rfl
     simp only [Act.put, sP1, sP2, sP3]
     refine wpAnyH_ready (rs := [13]) (by kernel_rfl) (by simp) ?_
     refine AllReadyH.cons rfl (fun K hK => ?_) AllReadyH.nil
     go_simp
     obtain ⟨w3x, hw3x⟩ : ∃ w3x, World.alloc w2 (.cells (loadI ((vv : Int) + 1) ⟨some ⟨u2.heap.size, 0, none⟩, 1, 1⟩).cells 43) = w3x := ⟨_, rfl⟩
     rw [hw3x]
     have b3x : Below Wz.heap.size Wz w3x := by rw [← hw3x]; exact new b2 _
     have hRR : w3x.heap[w2.heap.size]? = some (.cells (loadI ((vv : Int) + 1) ⟨some ⟨u2.heap.size, 0, none⟩, 1, 1⟩).cells 43 (0, 0)) := by rw [← hw3x]; show (w2.heap.push _)[w2.heap.size]? = _; simp
     have hga3 : w3x.cell? ⟨u2.heap.size, 0, none⟩ = some (.int .i64 ((vv : Int) + 1)) := by rw [← hw3x]; exact cell_on (new (same _) _) hga
     have Sw3 := FA.out.on b3x
     rw [z2] at hRR
     clear hw3x
     refine hK.out _ _ Sw3 (fun _ => ?_)
     clear hK K
     replace hS := Sw3
     try simp only [Act.put, sP1, sP2, sP3]
     refine wpAnyH_ready (rs := [18]) (by kernel_rfl) (by simp) ?_
     refine AllReadyH.cons rfl (fun K hK => ?_) AllReadyH.nil
     obtain ⟨s5, w4, gB2, p1, hrun, hc4, fz4, hn5, hix1, hrow, hsay, hlow, hbox⟩ := says_front CO.out HXY.out.1 HXY.out.2.1 (by have := HXY.out.2.2.1; omega) b3x (t := (vv : Int) + 1) (by omega) (ga := u2.heap.size) (R := u2.heap.size + 1) (by have := b2.size; omega) hRR hga3 bu2.size (by omega)
     have HN5 := hid hn5
     clear hn5
     obtain rfl : gB2 = gB := by have := p1.symm.trans HXY.out.2.2.2.2.1; simpa using this
     have gw4 : ∀ q, w4.cell? ⟨gp, q, none⟩ = (w4.setCell ⟨gB2, y, none⟩ (slv s5)).cell? ⟨gp, q, none⟩ := fun q => (by rw [World.cell?_setCell_other (h := fun e => gneB (congrArg Addr.block e).symm)])
     obtain ⟨w5, hw5⟩ : ∃ w5, w4.setCell ⟨gB2, y, none⟩ (.slice s5.a s5.n s5.c) = w5 := ⟨_, rfl⟩
     rw [show w4.setCell ⟨gB2, y, none⟩ (slv s5) = w5 from hw5] at hsay hlow hbox gw4 hix1 hrow
     have kg := hrow gp HXY.out.2.2.2.1
     have S5 : FAt w5 gp (x * 5) (N.F x) := fat_blk kg FA.out
     have S4 : FAt w4 gp (x * 5) (N.F x) := ⟨by rw [gw4]; exact S5.c0, by rw [gw4]; exact S5.c1, by rw [gw4]; exact S5.c2, by rw [gw4]; exact S5.c3, by rw [gw4]; exact S5.c4⟩
     have kV := hbox VZ.out
     rw [NN.out.2.2.2.2] at hsay
     have SY0 := hid hsay
     have b5 := hid (show Below W.heap.size W w5 from LZ.out.trans (hlow.mono (by have := X4Z.out; have := B3.out.size; omega)))
     have V0 := hid (box_on kV WB.out)
     clear hsay hlow kV hbox p1 gw4 hrow kg
     rw [if_pos (by rfl)]
     refine Own.wp_app (s := .tmp 97) (x := .tmp 101) (t := 38) (d := some 102) rfl rfl rfl rfl rfl hrun ?_
     try simp only [Act.put, sP1, sP2, sP3]
     refine hK.out _ _ S4 (fun _ => ?_)
     clear hK K
     replace hS := S4
     try simp only [Act.put, sP1, sP2, sP3]
     refine Own.tk (i := 19) (d := some 103) (v := ?vk21_19) rfl (by rfl) ?yk21_19 hS ?_
     case yk21_19 => intro wx hSw; (go_simp) <;> with_reducible rfl
     simp only [Act.put, sP1, sP2, sP3]
     refine Own.tk (i := 20) (d := some 104) (v := ?vk22_20) rfl (by rfl) ?yk22_20 hS ?_
     case yk22_20 => intro wx hSw; (go_simp) <;> with_reducible rfl
     simp only [Act.put, sP1, sP2, sP3]
     refine wpAnyH_ready (rs := [21]) (by kernel_rfl) (by simp) ?_
     refine AllReadyH.cons rfl (fun K hK => ?_) AllReadyH.nil
     go_simp
     try rw [hw5]
     refine hK.out _ _ S5 (fun _ => ?_)
     clear hK K
     replace hS := S5
     try simp only [Act.put, sP1, sP2, sP3]
     refine Own.tk (i := 22) (d := some 15) (v := ?vk23_22) rfl (by rfl) ?yk23_22 hS ?_
     case yk23_22 => intro wx hSw; (go_simp) <;> with_reducible rfl
     simp only [Act.put, sP1, sP2, sP3]
     refine wpAnyH_done (by kernel_rfl) ?_ _
     refine NoPanic.normal ?_
     obtain ⟨g1, o1, hq1, hq2⟩ := hix1
     have c5 : w5.cell? ⟨gB2, y, none⟩ = some (.slice s5.a s5.n s5.c) := by rw [← hw5]; exact cell_same hc4
     have tn : decide ((1 : Int) < (s5.n : Int)) = true := by have q5 := HN5.out; simp; have := HXY.out.2.2.1; omega
     clear hw5
     by_cases e26 : ((N.F x).I y 0).op = 26
     ·rw [if_pos e26] at SY0
      have SY := SY0
      have t26 : (((N.F x).I y 0).op == 26) = true := by simpa using e26
      clear e26
      have SM := hid (says_of (HM.out.on b5.out) HS.out HJ.out (err_ok HF.out))
      obtain ⟨m0, m1, m2, m3⟩ := MC.out.on b5.out
      go_wp2_with fail
      clear m0 m1 m2 m3
      refine (SM.out _ (same _)).mono ?_
      rintro e w6 ⟨rfl, hb6⟩
      obtain ⟨v0, v1, v2, v3⟩ := box_bel hb6 V0.out
      have B6 := hid hb6
      clear hb6
      go_wp2_with fail
      clear v0 v1 v2 v3
      refine (SY.out _ B6.out).mono ?_
      rintro e w9 ⟨rfl, hb9⟩
      have B9 := hid hb9
      clear hb9
      go_wp2_with fail
      go_ret
      exact ⟨rfl, FIN.out _ (View.more (View.more b5.out B6.out) B9.out)⟩
     ·rw [if_neg e26] at SY0
      have SY := SY0
      have t26 : (((N.F x).I y 0).op == 26) = false := by simpa using e26
      clear e26
      have SM := hid (says_of (HM.out.on b5.out) HS.out HJ.out (err_ok HF.out))
      obtain ⟨m0, m1, m2, m3⟩ := MC.out.on b5.out
      go_wp2_with fail
      clear m0 m1 m2 m3
      refine (SM.out _ (same _)).mono ?_
      rintro e w6 ⟨rfl, hb6⟩
      obtain ⟨v0, v1, v2, v3⟩ := box_bel hb6 V0.out
      have B6 := hid hb6
      clear hb6
      go_wp2_with fail
      clear v0 v1 v2 v3
      refine (SY.out _ B6.out).mono ?_
      rintro e w9 ⟨rfl, hb9⟩
      have B9 := hid hb9
      clear hb9
      go_wp2_with fail
      go_ret
      exact ⟨rfl, FIN.out _ (View.more (View.more b5.out B6.out) B9.out)⟩
   ·have cb := cell_on bu1 cbz
    go_simp
    clear cb
    refine hK.out _ _ Su1 (fun _ => ?_)
    clear hK K
    replace hS := Su1
    try simp only [Act.put, sP1, sP2, sP3]
    refine wpAnyH_ready (rs := [9]) (by kernel_rfl) (by simp) ?_
    refine AllReadyH.cons rfl (fun K hK => ?_) AllReadyH.nil
    go_simp
    refine (VAL.out _ bu1).mono ?_
    rintro e u2 ⟨rfl, hb2⟩
    have bu2 := View.more bu1 hb2
    have Su2 := FA.out.on bu2
    clear hb2
    go_wp2_with fail
    refine hK.out _ _ Su2 (fun _ => ?_)
    clear hK K
    replace hS := Su2
    try simp only [Act.put, sP1, sP2, sP3]
    refine Own.tk (i := 10) (d := some 94) (v := ?vk24_10) rfl (by rfl) ?yk24_10 hS ?_
    case yk24_10 => intro wx hSw; (go_simp) <;> with_reducible rfl
    simp only [Act.put, sP1, sP2, sP3]
    refine wpAnyH_ready (rs := [11]) (by kernel_rfl) (by simp) ?_
    refine AllReadyH.cons rfl (fun K hK => ?_) AllReadyH.nil
    go_simp
    obtain ⟨w2, hw2⟩ : ∃ w2, World.alloc u2 (.cells #[.int .i64 ((vv : Int) + 1)] 3) = w2 := ⟨_, rfl⟩
    rw [hw2]
    have b2 : Below Wz.heap.size Wz w2 := by rw [← hw2]; exact new bu2 _
    have hga : w2.cell? ⟨u2.heap.size, 0, none⟩ = some (.int .i64 ((vv : Int) + 1)) := by rw [← hw2]; simp
    have z2 : w2.heap.size = u2.heap.size + 1 := by rw [← hw2]; simp
    have Sw2 := FA.out.on b2
    clear hw2
    refine hK.out _ _ Sw2 (fun _ => ?_)
    clear hK K
    replace hS := Sw2
    try simp only [Act.put, sP1, sP2, sP3]
    refine Own.tk (i := 12) (d := some 96) (v := ?vk25_12) rfl (by rfl) ?yk25_12 hS ?_
    case yk25_12 => intro wx hSw; (go_simp) <;> with_reducible rfl
    simp only [Act.put, sP1, sP2, sP3]
    refine wpAnyH_ready (rs := [13]) (by kernel_rfl) (by simp) ?_
    refine AllReadyH.cons rfl (fun K hK => ?_) AllReadyH.nil
    go_simp
    obtain ⟨w3x, hw3x⟩ : ∃ w3x, World.alloc w2 (.cells (loadI ((vv : Int) + 1) ⟨some ⟨u2.heap.size, 0, none⟩, 1, 1⟩).cells 43) = w3x := ⟨_, rfl⟩
    rw [hw3x]
    have b3x : Below Wz.heap.size Wz w3x := by rw [← hw3x]; exact new b2 _
    have hRR : w3x.heap[w2.heap.size]? = some (.cells (loadI ((vv : Int) + 1) ⟨some ⟨u2.heap.size, 0, none⟩, 1, 1⟩).cells 43 (0, 0)) := by rw [← hw3x]; show (w2.heap.push _)[w2.heap.size]? = _; simp
    have hga3 : w3x.cell? ⟨u2.heap.size, 0, none⟩ = some (.int .i64 ((vv : Int) + 1)) := by rw [← hw3x]; exact cell_on (new (same _) _) hga
    have Sw3 := FA.out.on b3x
    rw [z2] at hRR
    clear hw3x
    refine hK.out _ _ Sw3 (fun _ => ?_)
    clear hK K
    replace hS := Sw3
    try simp only [Act.put, sP1, sP2, sP3]
    refine wpAnyH_ready (rs := [18]) (by kernel_rfl) (by simp) ?_
    refine AllReadyH.cons rfl (fun K hK => ?_) AllReadyH.nil
    obtain ⟨s5, w4, gB2, p1, hrun, hc4, fz4, hn5, hix1, hrow, hsay, hlow, hbox⟩ := says_front CO.out HXY.out.1 HXY.out.2.1 (by have := HXY.out.2.2.1; omega) b3x (t := (vv : Int) + 1) (by omega) (ga := u2.heap.size) (R := u2.heap.size + 1) (by have := b2.size; omega) hRR hga3 bu2.size (by omega)
    have HN5 := hid hn5
    clear hn5
    obtain rfl : gB2 = gB := by have := p1.symm.trans HXY.out.2.2.2.2.1; simpa using this
    have gw4 : ∀ q, w4.cell? ⟨gp, q, none⟩ = (w4.setCell ⟨gB2, y, none⟩ (slv s5)).cell? ⟨gp, q, none⟩ := fun q => (by rw [World.cell?_setCell_other (h := fun e => gneB (congrArg Addr.block e).symm)])
    obtain ⟨w5, hw5⟩ : ∃ w5, w4.setCell ⟨gB2, y, none⟩ (.slice s5.a s5.n s5.c) = w5 := ⟨_, rfl⟩
    rw [show w4.setCell ⟨gB2, y, none⟩ (slv s5) = w5 from hw5] at hsay hlow hbox gw4 hix1 hrow
    have kg := hrow gp HXY.out.2.2.2.1
    have S5 : FAt w5 gp (x * 5) (N.F x) := fat_blk kg FA.out
    have S4 : FAt w4 gp (x * 5) (N.F x) := ⟨by rw [gw4]; exact S5.c0, by rw [gw4]; exact S5.c1, by rw [gw4]; exact S5.c2, by rw [gw4]; exact S5.c3, by rw [gw4]; exact S5.c4⟩
    have kV := hbox VZ.out
    rw [NN.out.2.2.2.2] at hsay
    have SY0 := hid hsay
    have b5 := hid (show Below W.heap.size W w5 from LZ.out.trans (hlow.mono (by have := X4Z.out; have := B3.out.size; omega)))
    have V0 := hid (box_on kV WB.out)
    clear hsay hlow kV hbox p1 gw4 hrow kg
    rw [if_pos (by rfl)]
    refine Own.wp_app (s := .tmp 97) (x := .tmp 101) (t := 38) (d := some 102) rfl rfl rfl rfl rfl hrun ?_
    try simp only [Act.put, sP1, sP2, sP3]
    refine hK.out _ _ S4 (fun _ => ?_)
    clear hK K
    replace hS := S4
    try simp only [Act.put, sP1, sP2, sP3]
    refine Own.tk (i := 19) (d := some 103) (v := ?vk26_19) rfl (by rfl) ?yk26_19 hS ?_
    case yk26_19 => intro wx hSw; (go_simp) <;> with_reducible rfl
    simp only [Act.put, sP1, sP2, sP3]
    refine Own.tk (i := 20) (d := some 104) (v := ?vk27_20) rfl (by rfl) ?yk27_20 hS ?_
    case yk27_20 => intro wx hSw; (go_simp) <;> with_reducible rfl
    simp only [Act.put, sP1, sP2, sP3]
    refine wpAnyH_ready (rs := [21]) (by kernel_rfl) (by simp) ?_
    refine AllReadyH.cons rfl (fun K hK => ?_) AllReadyH.nil
    go_simp
    try rw [hw5]
    refine hK.out _ _ S5 (fun _ => ?_)
    clear hK K
    replace hS := S5
    try simp only [Act.put, sP1, sP2, sP3]
    refine Own.tk (i := 22) (d := some 15) (v := ?vk28_22) rfl (by rfl) ?yk28_22 hS ?_
    case yk28_22 => intro wx hSw; (go_simp) <;> with_reducible rfl
    simp only [Act.put, sP1, sP2, sP3]
    refine wpAnyH_done (by kernel_rfl) ?_ _
    refine NoPanic.normal ?_
    obtain ⟨g1, o1, hq1, hq2⟩ := hix1
    have c5 : w5.cell? ⟨gB2, y, none⟩ = some (.slice s5.a s5.n s5.c) := by rw [← hw5]; exact cell_same hc4
    have tn : decide ((1 : Int) < (s5.n : Int)) = true := by have q5 := HN5.out; simp; have := HXY.out.2.2.1; omega
    clear hw5
    by_cases e26 : ((N.F x).I y 0).op = 26
    ·rw [if_pos e26] at SY0
     have SY := SY0
     have t26 : (((N.F x).I y 0).op == 26) = true := by simpa using e26
     clear e26
     have SM := hid (says_of (HM.out.on b5.out) HS.out HJ.out (err_ok HF.out))
     obtain ⟨m0, m1, m2, m3⟩ := MC.out.on b5.out
     go_wp2_with fail
     clear m0 m1 m2 m3
     refine (SM.out _ (same _)).mono ?_
     rintro e w6 ⟨rfl, hb6⟩
     obtain ⟨v0, v1, v2, v3⟩ := box_bel hb6 V0.out
     have B6 := hid hb6
     clear hb6
     go_wp2_with fail
     clear v0 v1 v2 v3
     refine (SY.out _ B6.out).mono ?_
     rintro e w9 ⟨rfl, hb9⟩
     have B9 := hid hb9
     clear hb9
     go_wp2_with fail
     go_ret
     exact ⟨rfl, FIN.out _ (View.more (View.more b5.out B6.out) B9.out)⟩
    ·rw [if_neg e26] at SY0
     have SY := SY0
     have t26 : (((N.F x).I y 0).op == 26) = false := by simpa using e26
     clear e26
     have SM := hid (says_of (HM.out.on b5.out) HS.out HJ.out (err_ok HF.out))
     obtain ⟨m0, m1, m2, m3⟩ := MC.out.on b5.out
     go_wp2_with fail
     clear m0 m1 m2 m3
     refine (SM.out _ (same _)).mono ?_
     rintro e w6 ⟨rfl, hb6⟩
     obtain ⟨v0, v1, v2, v3⟩ := box_bel hb6 V0.out
     have B6 := hid hb6
     clear hb6
     go_wp2_with fail
     clear v0 v1 v2 v3
     refine (SY.out _ B6.out).mono ?_
     rintro e w9 ⟨rfl, hb9⟩
     have B9 := hid hb9
     clear hb9
     go_wp2_with fail
     go_ret
     exact ⟨rfl, FIN.out _ (View.more (View.more b5.out B6.out) B9.out)⟩
  ·have cb := cell_on b0 cbz
   go_simp
   clear cb
   refine hK.out _ _ S0 (fun _ => ?_)
   clear hK K
   replace hS := S0
   try simp only [Act.put, sP1, sP2, sP3]
   refine wpAnyH_ready (rs := [4]) (by kernel_rfl) (by simp) ?_
   refine AllReadyH.cons rfl (fun K hK => ?_) AllReadyH.nil
   go_simp
   refine (VAL.out _ b0).mono ?_
   rintro e u1 ⟨rfl, hb1⟩
   have bu1 := View.more b0 hb1
   have Su1 := FA.out.on bu1
   clear hb1
   go_wp2_with fail
   refine hK.out _ _ Su1 (fun _ => ?_)
   clear hK K
   replace hS := Su1
   try simp only [Act.put, sP1, sP2, sP3]
   refine Own.tk (i := 5) (d := some 89) (v := ?vk29_5) rfl (by rfl) ?yk29_5 hS ?_
   case yk29_5 => intro wx hSw; (go_simp) <;> with_reducible rfl
   simp only [Act.put, sP1, sP2, sP3]
   refine wpAnyH_ready (rs := [9]) (by kernel_rfl) (by simp) ?_
   refine AllReadyH.cons rfl (fun K hK => ?_) AllReadyH.nil
   go_simp
   refine (VAL.out _ bu1).mono ?_
   rintro e u2 ⟨rfl, hb2⟩
   have bu2 := View.more bu1 hb2
   have Su2 := FA.out.on bu2
   clear hb2
   go_wp2_with fail
   refine hK.out _ _ Su2 (fun _ => ?_)
   clear hK K
   replace hS := Su2
   try simp only [Act.put, sP1, sP2, sP3]
   refine Own.tk (i := 10) (d := some 94) (v := ?vk30_10) rfl (by rfl) ?yk30_10 hS ?_
   case yk30_10 => intro wx hSw; (go_simp) <;> with_reducible rfl
   simp only [Act.put, sP1, sP2, sP3]
   refine wpAnyH_ready (rs := [11]) (by kernel_rfl) (by simp) ?_
   refine AllReadyH.cons rfl (fun K hK => ?_) AllReadyH.nil
   go_simp
   obtain ⟨w2, hw2⟩ : ∃ w2, World.alloc u2 (.cells #[.int .i64 ((vv : Int) + 1)] 3) = w2 := ⟨_, rfl⟩
   rw [hw2]
   have b2 : Below Wz.heap.size Wz w2 := by rw [← hw2]; exact new bu2 _
   have hga : w2.cell? ⟨u2.heap.size, 0, none⟩ = some (.int .i64 ((vv : Int) + 1)) := by rw [← hw2]; simp
   have z2 : w2.heap.size = u2.heap.size + 1 := by rw [← hw2]; simp
   have Sw2 := FA.out.on b2
   clear hw2
   refine hK.out _ _ Sw2 (fun _ => ?_)
   clear hK K
   replace hS := Sw2
   try simp only [Act.put, sP1, sP2, sP3]
   refine Own.tk (i := 12) (d := some 96) (v := ?vk31_12) rfl (by rfl) ?yk31_12 hS ?_
   case yk31_12 => intro wx hSw; (go_simp) <;> with_reducible rfl
   simp only [Act.put, sP1, sP2, sP3]
   refine wpAnyH_ready (rs := [13]) (by kernel_rfl) (by simp) ?_
   refine AllReadyH.cons rfl (fun K hK => ?_) AllReadyH.nil
   go_simp
   obtain ⟨w3x, hw3x⟩ : ∃ w3x, World.alloc w2 (.cells (loadI ((vv : Int) + 1) ⟨some ⟨u2.heap.size, 0, none⟩, 1, 1⟩).cells 43) = w3x := ⟨_, rfl⟩
   rw [hw3x]
   have b3x : Below Wz.heap.size Wz w3x := by rw [← hw3x]; exact new b2 _
   have hRR : w3x.heap[w2.heap.size]? = some (.cells (loadI ((vv : Int) + 1) ⟨some ⟨u2.heap.size, 0, none⟩, 1, 1⟩).cells 43 (0, 0)) := by rw [← hw3x]; show (w2.heap.push _)[w2.heap.size]? = _; simp
   have hga3 : w3x.cell? ⟨u2.heap.size, 0, none⟩ = some (.int .i64 ((vv : Int) + 1)) := by rw [← hw3x]; exact cell_on (new (same _) _) hga
   have Sw3 := FA.out.on b3x
   rw [z2] at hRR
   clear hw3x
   refine hK.out _ _ Sw3 (fun _ => ?_)
   clear hK K
   replace hS := Sw3
   try simp only [Act.put, sP1, sP2, sP3]
   refine wpAnyH_ready (rs := [18]) (by kernel_rfl) (by simp) ?_
   refine AllReadyH.cons rfl (fun K hK => ?_) AllReadyH.nil
   obtain ⟨s5, w4, gB2, p1, hrun, hc4, fz4, hn5, hix1, hrow, hsay, hlow, hbox⟩ := says_front CO.out HXY.out.1 HXY.out.2.1 (by have := HXY.out.2.2.1; omega) b3x (t := (vv : Int) + 1) (by omega) (ga := u2.heap.size) (R := u2.heap.size + 1) (by have := b2.size; omega) hRR hga3 bu2.size (by omega)
   have HN5 := hid hn5
   clear hn5
   obtain rfl : gB2 = gB := by have := p1.symm.trans HXY.out.2.2.2.2.1; simpa using this
   have gw4 : ∀ q, w4.cell? ⟨gp, q, none⟩ = (w4.setCell ⟨gB2, y, none⟩ (slv s5)).cell? ⟨gp, q, none⟩ := fun q => (by rw [World.cell?_setCell_other (h := fun e => gneB (congrArg Addr.block e).symm)])
   obtain ⟨w5, hw5⟩ : ∃ w5, w4.setCell ⟨gB2, y, none⟩ (.slice s5.a s5.n s5.c) = w5 := ⟨_, rfl⟩
   rw [show w4.setCell ⟨gB2, y, none⟩ (slv s5) = w5 from hw5] at hsay hlow hbox gw4 hix1 hrow
   have kg := hrow gp HXY.out.2.2.2.1
   have S5 : FAt w5 gp (x * 5) (N.F x) := fat_blk kg FA.out
   have S4 : FAt w4 gp (x * 5) (N.F x) := ⟨by rw [gw4]; exact S5.c0, by rw [gw4]; exact S5.c1, by rw [gw4]; exact S5.c2, by rw [gw4]; exact S5.c3, by rw [gw4]; exact S5.c4⟩
   have kV := hbox VZ.out
   rw [NN.out.2.2.2.2] at hsay
   have SY0 := hid hsay
   have b5 := hid (show Below W.heap.size W w5 from LZ.out.trans (hlow.mono (by have := X4Z.out; have := B3.out.size; omega)))
   have V0 := hid (box_on kV WB.out)
   clear hsay hlow kV hbox p1 gw4 hrow kg
   rw [if_pos (by rfl)]
   refine Own.wp_app (s := .tmp 97) (x := .tmp 101) (t := 38) (d := some 102) rfl rfl rfl rfl rfl hrun ?_
   try simp only [Act.put, sP1, sP2, sP3]
   refine hK.out _ _ S4 (fun _ => ?_)
   clear hK K
   replace hS := S4
   try simp only [Act.put, sP1, sP2, sP3]
   refine Own.tk (i := 19) (d := some 103) (v := ?vk32_19) rfl (by rfl) ?yk32_19 hS ?_
   case yk32_19 => intro wx hSw; (go_simp) <;> with_reducible rfl
   simp only [Act.put, sP1, sP2, sP3]
   refine Own.tk (i := 20) (d := some 104) (v := ?vk33_20) rfl (by rfl) ?yk33_20 hS ?_
   case yk33_20 => intro wx hSw; (go_simp) <;> with_reducible rfl
   simp only [Act.put, sP1, sP2, sP3]
   refine wpAnyH_ready (rs := [21]) (by kernel_rfl) (by simp) ?_
   refine AllReadyH.cons rfl (fun K hK => ?_) AllReadyH.nil
   go_simp
   try rw [hw5]
   refine hK.out _ _ S5 (fun _ => ?_)
   clear hK K
   replace hS := S5
   try simp only [Act.put, sP1, sP2, sP3]
   refine Own.tk (i := 22) (d := some 15) (v := ?vk34_22) rfl (by rfl) ?yk34_22 hS ?_
   case yk34_22 => intro wx hSw; (go_simp) <;> with_reducible rfl
   simp only [Act.put, sP1, sP2, sP3]
   refine wpAnyH_done (by kernel_rfl) ?_ _
   refine NoPanic.normal ?_
   obtain ⟨g1, o1, hq1, hq2⟩ := hix1
   have c5 : w5.cell? ⟨gB2, y, none⟩ = some (.slice s5.a s5.n s5.c) := by rw [← hw5]; exact cell_same hc4
   have tn : decide ((1 : Int) < (s5.n : Int)) = true := by have q5 := HN5.out; simp; have := HXY.out.2.2.1; omega
   clear hw5
   by_cases e26 : ((N.F x).I y 0).op = 26
   ·rw [if_pos e26] at SY0
    have SY := SY0
    have t26 : (((N.F x).I y 0).op == 26) = true := by simpa using e26
    clear e26
    have SM := hid (says_of (HM.out.on b5.out) HS.out HJ.out (err_ok HF.out))
    obtain ⟨m0, m1, m2, m3⟩ := MC.out.on b5.out
    go_wp2_with fail
    clear m0 m1 m2 m3
    refine (SM.out _ (same _)).mono ?_
    rintro e w6 ⟨rfl, hb6⟩
    obtain ⟨v0, v1, v2, v3⟩ := box_bel hb6 V0.out
    have B6 := hid hb6
    clear hb6
    go_wp2_with fail
    clear v0 v1 v2 v3
    refine (SY.out _ B6.out).mono ?_
    rintro e w9 ⟨rfl, hb9⟩
    have B9 := hid hb9
    clear hb9
    go_wp2_with fail
    go_ret
    exact ⟨rfl, FIN.out _ (View.more (View.more b5.out B6.out) B9.out)⟩
   ·rw [if_neg e26] at SY0
    have SY := SY0
    have t26 : (((N.F x).I y 0).op == 26) = false := by simpa using e26
    clear e26
    have SM := hid (says_of (HM.out.on b5.out) HS.out HJ.out (err_ok HF.out))
    obtain ⟨m0, m1, m2, m3⟩ := MC.out.on b5.out
    go_wp2_with fail
    clear m0 m1 m2 m3
    refine (SM.out _ (same _)).mono ?_
    rintro e w6 ⟨rfl, hb6⟩
    obtain ⟨v0, v1, v2, v3⟩ := box_bel hb6 V0.out
    have B6 := hid hb6
    clear hb6
    go_wp2_with fail
    clear v0 v1 v2 v3
    refine (SY.out _ B6.out).mono ?_
    rintro e w9 ⟨rfl, hb9⟩
    have B9 := hid hb9
    clear hb9
    go_wp2_with fail
    go_ret
    exact ⟨rfl, FIN.out _ (View.more (View.more b5.out B6.out) B9.out)⟩

end Go.Proofs.YtolipafcoolpgaaGreat.Wf
