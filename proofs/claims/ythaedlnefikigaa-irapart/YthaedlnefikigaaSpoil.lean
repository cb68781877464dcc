/-
  What is written over: plnkeep.Spoil writes numbers alone, into rows that may be written.
-/
import Derived.Test.YthaedlnefikigaaMod
import Derived.Test.YthaedlnefikigaaSmall
import Derived.Test.YthaedlnefikigaaSortF
namespace Go.Proofs.Ythaedlnefikigaa.Mod
open Go.RowKit View Rd Num Opn Copy Srt

set_option linter.unusedVariables false

/-- Numbers alone have changed, in the blocks that p names. -/
structure Ch (p : Nat → Prop) (w w' : World) : Prop where
  turn : Turn p w w'
  keep : ∀ (a : Addr) (v : Value), w.cell? a = some v → (∀ k n, v ≠ .int k n) → w'.cell? a = some v
  num : ∀ (a : Addr) (k : IntKind) (n : Int), w.cell? a = some (.int k n) → ∃ n', w'.cell? a = some (.int k n')

theorem Ch.refl (p : Nat → Prop) (w : World) : Ch p w w := ⟨Turn.refl _ _, fun _ _ h _ => h, fun _ _ n h => ⟨n, h⟩⟩

theorem Ch.sl {p : Nat → Prop} {w w' : World} (h : Ch p w w') {a : Addr} {x : Option Addr} {n c : Nat} (hc : w.cell? a = some (.slice x n c)) : w'.cell? a = some (.slice x n c) := h.keep a _ hc (fun k m e => by cases e)

theorem Ch.set {p : Nat → Prop} {w w' : World} (h : Ch p w w') {b o : Nat} {k : IntKind} {n : Int} (hc : w.cell? ⟨b, o, none⟩ = some (.int k n)) (hp : p b) (m : Int) : Ch p w (w'.setCell ⟨b, o, none⟩ (.int k m)) := by
  obtain ⟨n1, h1⟩ := h.num _ _ _ hc
  refine ⟨h.turn.setCell (.inl hp) _, fun a v ha hn => ?_, fun a k' n' ha => ?_⟩
  · by_cases e : a = ⟨b, o, none⟩
    · subst e; rw [ha] at hc; exact absurd (Option.some.inj hc) (hn k n)
    · rw [World.cell?_setCell_other (h := fun h => e h.symm)]; exact h.keep a v ha hn
  · by_cases e : a = ⟨b, o, none⟩
    · subst e
      rw [ha] at hc
      have := Option.some.inj hc
      simp at this
      obtain ⟨rfl, rfl⟩ := this
      exact ⟨m, cell_same h1⟩
    · rw [World.cell?_setCell_other (h := fun h => e h.symm)]; exact h.num a k' n' ha

/-- A row that may be written. -/
def Wrt (p : Nat → Prop) (w : World) (s : Sl) : Prop := ∀ b o, s.a = some ⟨b, o, none⟩ → 0 < s.n → p b ∧ ∀ i, w.frozen? ⟨b, i, none⟩ = false

structure WrF (p : Nat → Prop) (w : World) (F : FV) : Prop where
  par : Wrt p w F.par
  ins : ∀ j, j < F.blk.n → Wrt p w (F.B j)
  args : ∀ j, j < F.blk.n → ∀ k, k < (F.B j).n → Wrt p w (F.I j k).args
  into : ∀ j, j < F.blk.n → ∀ k, k < (F.B j).n → Wrt p w (F.I j k).into

structure WrM (p : Nat → Prop) (w : World) (M : MV) : Prop where
  ext : ∀ i, i < M.ext.n → Wrt p w (M.E i).par
  glo : ∀ i, i < M.glo.n → Wrt p w (M.G i).cel
  tab : ∀ i, i < M.tab.n → Wrt p w (M.T i).cel
  fns : ∀ k, k < M.fns.n → WrF p w (M.F k)

theorem Wrt.on {p : Nat → Prop} {w w' : World} {s : Sl} (hb : Below w.heap.size w w') (h : Wrt p w s) (hl : ∀ b o, s.a = some ⟨b, o, none⟩ → 0 < s.n → b < w.heap.size) : Wrt p w' s := fun b o e h0 =>
  ⟨(h b o e h0).1, fun i => by rw [hb.frozen (by exact hl b o e h0)]; exact (h b o e h0).2 i⟩

theorem ints_wr {p : Nat → Prop} {w : World} {s : Sl} {f : Nat → Int} (h : Ints w s f) (hw : Wrt p w s) {T e : Nat} (hT : Try.prog.underlying T = some (.slice e)) (hz : (Try.prog.info? e).map (fun i => i.size) = some 1) {k : Nat} (hk : k < s.n) :
    ∃ b o, (∀ wx, (Instr.indexAt T (.slice s.a s.n s.c) (.int .i64 k)).run Try.prog wx = .ok (.pointer (some ⟨b, o, none⟩)) wx) ∧ w.cell? ⟨b, o, none⟩ = some (.int .i64 (f k)) ∧ p b ∧ w.frozen? ⟨b, o, none⟩ = false ∧ b < w.heap.size := by
  obtain ⟨b, off, ha, hc⟩ := h.2.2.2 (by omega)
  have q := hw b off ha (by omega)
  have c := hc k hk
  exact ⟨b, off + k * 1, index_row ha hT hz hk, by rw [Nat.mul_one]; exact c, q.1, q.2 _, World.block_lt_of_cell? _ _ c⟩

theorem inss_wr {p : Nat → Prop} {w : World} {s : Sl} {f : Nat → IV} (h : Inss w s f) (hw : Wrt p w s) {k : Nat} (hk : k < s.n) :
    ∃ b o, (∀ wx, (Instr.indexAt 44 (.slice s.a s.n s.c) (.int .i64 k)).run Try.prog wx = .ok (.pointer (some ⟨b, o, none⟩)) wx) ∧ InsAt w b o (f k) ∧ p b ∧ (∀ i, w.frozen? ⟨b, i, none⟩ = false) ∧ b < w.heap.size := by
  obtain ⟨b, off, ha, hc⟩ := h.2.2.2 (by omega)
  have q := hw b off ha (by omega)
  have c := hc k hk
  exact ⟨b, off + k * 7, index_row ha underlying44 size48 hk, c, q.1, q.2, World.block_lt_of_cell? _ _ c.c0⟩

theorem ints_far {w : World} {s : Sl} {f : Nat → Int} (h : Ints w s f) : ∀ b o, s.a = some ⟨b, o, none⟩ → 0 < s.n → b < w.heap.size := fun b o e h0 => by
  obtain ⟨b', o', e', hc⟩ := h.2.2.2 h0
  rw [e] at e'
  simp at e'
  rw [e'.1]; exact World.block_lt_of_cell? _ _ (hc 0 h0)
theorem inss_far {w : World} {s : Sl} {f : Nat → IV} (h : Inss w s f) : ∀ b o, s.a = some ⟨b, o, none⟩ → 0 < s.n → b < w.heap.size := fun b o e h0 => by
  obtain ⟨b', o', e', hc⟩ := h.2.2.2 h0
  rw [e] at e'
  simp at e'
  rw [e'.1]; exact World.block_lt_of_cell? _ _ (hc 0 h0).c0

theorem WrM.on {p : Nat → Prop} {w w' : World} {M : MV} (hM : InM w M) (hb : Below w.heap.size w w') (h : WrM p w M) : WrM p w' M :=
  ⟨fun i hi => (h.ext i hi).on hb (ints_far (hM.extP i hi)), fun i hi => (h.glo i hi).on hb (ints_far (hM.gloC i hi)), fun i hi => (h.tab i hi).on hb (ints_far (hM.tabF i hi)), fun k hk =>
    ⟨(h.fns k hk).par.on hb (ints_far (hM.fnI k hk).par), fun j hj => ((h.fns k hk).ins j hj).on hb (inss_far ((hM.fnI k hk).ins j hj)), fun j hj t ht => ((h.fns k hk).args j hj t ht).on hb (ints_far ((hM.fnI k hk).args j hj t ht)), fun j hj t ht => ((h.fns k hk).into j hj t ht).on hb (ints_far ((hM.fnI k hk).into j hj t ht))⟩⟩

set_option maxRecDepth 10000 in
set_option maxHeartbeats 4000000 in
theorem spoil_any (p : Nat → Prop) (M : MV) (w : World) (hM : InM w M) (hs : SmallM M) (hw : WrM p w M) :
    Calls Try.prog 29 #[M.val] w fun e w' => e = .returned (.tuple #[]) ∧ Ch p (w.alloc (.cells (mcells M) 27)) w' := by
  have x1 := hs.ext
  have x2 := hs.glo
  have x3 := hs.tab
  have x4 := hs.fns
  obtain ⟨W, hW⟩ : ∃ W, w.alloc (.cells (mcells M) 27) = W := ⟨_, rfl⟩
  have B0 : W.cell? ⟨w.heap.size, 0, none⟩ = some (.slice M.ext.a M.ext.n M.ext.c) := by rw [← hW]; simp
  have B1 : W.cell? ⟨w.heap.size, 1, none⟩ = some (.slice M.glo.a M.glo.n M.glo.c) := by rw [← hW]; simp
  have B2 : W.cell? ⟨w.heap.size, 2, none⟩ = some (.slice M.tab.a M.tab.n M.tab.c) := by rw [← hW]; simp
  have B3 : W.cell? ⟨w.heap.size, 3, none⟩ = some (.slice M.fns.a M.fns.n M.fns.c) := by rw [← hW]; simp
  have BX := hid (And.intro B0 (And.intro B1 (And.intro B2 B3)))
  have HM := hid (show InM W M by rw [← hW]; exact hM.on (new (same w) _))
  have HW := hid (show WrM p W M by rw [← hW]; exact hw.on hM (new (same w) _))
  have HS := hid hs
  have C0 := hid (Ch.refl p W)
  have HWW := hid hW
  clear hM hs hw B0 B1 B2 B3 hW
  go_enter Try.func29, Try.ntmps29
  go_wp2_with fail
  simp only [HWW.out]
  go_loopw [2] (fun iv wr => ∃ k : Nat, k ≤ M.fns.n ∧ iv = .int .i64 k ∧ Ch p W wr) (fun iv _ => M.fns.n - (intOf iv).toNat)
  case atStart => exact ⟨0, Nat.zero_le _, rfl, C0.out⟩
  case round =>
    clear C0
    obtain ⟨k, hk, rfl, hch⟩ := hrel
    have b0 := hch.sl BX.out.1
    have b1 := hch.sl BX.out.2.1
    have b2 := hch.sl BX.out.2.2.1
    have b3 := hch.sl BX.out.2.2.2
    by_cases lk : k < M.fns.n
    · obtain ⟨fb, fo, hfx, f0, f1, f2, f3, f4⟩ := HM.out.fns.at underlying25 size36 lk
      have FF := hid (And.intro f2 f4)
      clear f0 f1 f2 f3 f4
      have g2 := hch.sl FF.out.1
      have g4 := hch.sl FF.out.2
      have gb := (HS.out.light k lk).blk
      have Ck := hid hch
      clear hch
      go_wp2_with fail
      clear b0 b1 b2 b3 g2 g4
      go_loopw [3] (fun iv wr => ∃ b : Nat, b ≤ (M.F k).blk.n ∧ iv = .int .i64 b ∧ Ch p W wr) (fun iv _ => (M.F k).blk.n - (intOf iv).toNat)
      case atStart => exact ⟨0, Nat.zero_le _, rfl, Ck.out⟩
      case round =>
        clear Ck
        obtain ⟨b, hb, rfl, hch⟩ := hrel
        have b0 := hch.sl BX.out.1
        have b1 := hch.sl BX.out.2.1
        have b2 := hch.sl BX.out.2.2.1
        have b3 := hch.sl BX.out.2.2.2
        by_cases lb : b < (M.F k).blk.n
        · have g2 := hch.sl FF.out.1
          have g4 := hch.sl FF.out.2
          obtain ⟨rb, ro, hrx, hrc⟩ := (HM.out.fnI k lk).blk.at lb
          have hrc2 := hch.sl hrc
          have gi := (HS.out.light k lk).ins b lb
          have Cb := hid hch
          clear hch
          go_wp2_with fail
          clear b0 b1 b2 b3 g2 g4 hrc2
          go_loopw [5] (fun iv wr => ∃ i : Nat, i ≤ ((M.F k).B b).n ∧ iv = .int .i64 i ∧ Ch p W wr) (fun iv _ => ((M.F k).B b).n - (intOf iv).toNat)
          case atStart => exact ⟨0, Nat.zero_le _, rfl, Cb.out⟩
          case round =>
            clear Cb
            obtain ⟨i, hi, rfl, hch⟩ := hrel
            have b0 := hch.sl BX.out.1
            have b1 := hch.sl BX.out.2.1
            have b2 := hch.sl BX.out.2.2.1
            have b3 := hch.sl BX.out.2.2.2
            by_cases li : i < ((M.F k).B b).n
            · obtain ⟨ib, io, hiy, hI, hip, hif, hil⟩ := inss_wr ((HM.out.fnI k lk).ins b lb) ((HW.out.fns k lk).ins b lb) li
              have i5 := hch.sl hI.c5
              have i6 := hch.sl hI.c6
              have ga := (HS.out.light k lk).args b lb i li
              have gj := (HS.out.light k lk).into b lb i li
              have Ci := hid hch
              clear hch
              go_wp2_with fail
              clear b0 b1 b2 b3 i5 i6
              go_loopw [6] (fun iv wr => ∃ j : Nat, j ≤ ((M.F k).I b i).args.n ∧ iv = .int .i64 j ∧ Ch p W wr) (fun iv _ => ((M.F k).I b i).args.n - (intOf iv).toNat)
              case atStart => exact ⟨0, Nat.zero_le _, rfl, Ci.out⟩
              case round =>
                clear Ci
                obtain ⟨j, hj, rfl, hch⟩ := hrel
                have b0 := hch.sl BX.out.1
                have b1 := hch.sl BX.out.2.1
                have b2 := hch.sl BX.out.2.2.1
                have b3 := hch.sl BX.out.2.2.2
                by_cases lj : j < ((M.F k).I b i).args.n
                · have i5 := hch.sl hI.c5
                  obtain ⟨nb, no, hnx, hnc, hnp, hnf, hnl⟩ := ints_wr ((HM.out.fnI k lk).args b lb i li) ((HW.out.fns k lk).args b lb i li) underlying33 size3 lj
                  obtain ⟨n0, hn0⟩ := hch.num _ _ _ hnc
                  have hnz : wr.frozen? ⟨nb, no, none⟩ = false := by rw [hch.turn.froz _ hnl]; exact hnf
                  have CN := hid (fun m => hch.set hnc hnp m)
                  clear hch hnc hnf
                  go_wp2_with fail
                  go_round
                  case rel =>
                    first
                      | exact ⟨j + 1, by omega, by go_num, CN.out _⟩
                      | ((repeat apply Exists.intro); exact ⟨⟨j + 1, by omega, by go_num, CN.out _⟩, rfl⟩)
                  case measure => simp [intOf]; omega
                · obtain rfl : j = ((M.F k).I b i).args.n := by omega
                  have i5 := hch.sl hI.c5
                  have Cj := hid hch
                  clear hch
                  go_wp2_with fail
                  clear b0 b1 b2 b3 i5
                  go_loopw [7] (fun iv wr => ∃ s : Nat, s ≤ ((M.F k).I b i).into.n ∧ iv = .int .i64 s ∧ Ch p W wr) (fun iv _ => ((M.F k).I b i).into.n - (intOf iv).toNat)
                  case atStart => exact ⟨0, Nat.zero_le _, rfl, Cj.out⟩
                  case round =>
                    clear Cj
                    obtain ⟨s, hs, rfl, hch⟩ := hrel
                    have b0 := hch.sl BX.out.1
                    have b1 := hch.sl BX.out.2.1
                    have b2 := hch.sl BX.out.2.2.1
                    have b3 := hch.sl BX.out.2.2.2
                    by_cases ls : s < ((M.F k).I b i).into.n
                    · have i6 := hch.sl hI.c6
                      obtain ⟨nb, no, hnx, hnc, hnp, hnf, hnl⟩ := ints_wr ((HM.out.fnI k lk).into b lb i li) ((HW.out.fns k lk).into b lb i li) underlying33 size3 ls
                      obtain ⟨n0, hn0⟩ := hch.num _ _ _ hnc
                      have hnz : wr.frozen? ⟨nb, no, none⟩ = false := by rw [hch.turn.froz _ hnl]; exact hnf
                      have CN := hid (fun m => hch.set hnc hnp m)
                      clear hch hnc hnf
                      go_wp2_with fail
                      go_round
                      case rel =>
                        first
                          | exact ⟨s + 1, by omega, by go_num, CN.out _⟩
                          | ((repeat apply Exists.intro); exact ⟨⟨s + 1, by omega, by go_num, CN.out _⟩, rfl⟩)
                      case measure => simp [intOf]; omega
                    · obtain rfl : s = ((M.F k).I b i).into.n := by omega
                      have i6 := hch.sl hI.c6
                      obtain ⟨n0, hn0⟩ := hch.num _ _ _ hI.c0
                      have hnz : wr.frozen? ⟨ib, io, none⟩ = false := by rw [hch.turn.froz _ hil]; exact hif _
                      have CN := hid (hch.set hI.c0 hip 99)
                      clear hch
                      go_wp2_with fail
                      go_round
                      case rel =>
                        first
                          | exact ⟨i + 1, by omega, by go_num, CN.out⟩
                          | ((repeat apply Exists.intro); exact ⟨⟨i + 1, by omega, by go_num, CN.out⟩, rfl⟩)
                      case measure => simp [intOf]; omega
            · obtain rfl : i = ((M.F k).B b).n := by omega
              have CE := hid hch
              clear hch
              go_wp2_with fail
              go_round
              case rel =>
                first
                  | exact ⟨b + 1, by omega, by go_num, CE.out⟩
                  | ((repeat apply Exists.intro); exact ⟨⟨b + 1, by omega, by go_num, CE.out⟩, rfl⟩)
              case measure => simp [intOf]; omega
        · obtain rfl : b = (M.F k).blk.n := by omega
          have g2 := hch.sl FF.out.1
          have g4 := hch.sl FF.out.2
          have gp := (HS.out.light k lk).par
          have Cp := hid hch
          clear hch
          go_wp2_with fail
          clear b0 b1 b2 b3 g2 g4
          go_loopw [8] (fun iv wr => ∃ q : Nat, q ≤ (M.F k).par.n ∧ iv = .int .i64 q ∧ Ch p W wr) (fun iv _ => (M.F k).par.n - (intOf iv).toNat)
          case atStart => exact ⟨0, Nat.zero_le _, rfl, Cp.out⟩
          case round =>
            clear Cp
            obtain ⟨q, hq, rfl, hch⟩ := hrel
            have b0 := hch.sl BX.out.1
            have b1 := hch.sl BX.out.2.1
            have b2 := hch.sl BX.out.2.2.1
            have b3 := hch.sl BX.out.2.2.2
            by_cases lq : q < (M.F k).par.n
            · have g2 := hch.sl FF.out.1
              have g4 := hch.sl FF.out.2
              obtain ⟨nb, no, hnx, hnc, hnp, hnf, hnl⟩ := ints_wr ((HM.out.fnI k lk).par) ((HW.out.fns k lk).par) underlying33 size3 lq
              obtain ⟨n0, hn0⟩ := hch.num _ _ _ hnc
              have hnz : wr.frozen? ⟨nb, no, none⟩ = false := by rw [hch.turn.froz _ hnl]; exact hnf
              have CN := hid (fun m => hch.set hnc hnp m)
              clear hch hnc hnf
              go_wp2_with fail
              go_round
              case rel =>
                first
                  | exact ⟨q + 1, by omega, by go_num, CN.out _⟩
                  | ((repeat apply Exists.intro); exact ⟨⟨q + 1, by omega, by go_num, CN.out _⟩, rfl⟩)
              case measure => simp [intOf]; omega
            · obtain rfl : q = (M.F k).par.n := by omega
              have g2 := hch.sl FF.out.1
              have g4 := hch.sl FF.out.2
              have CE := hid hch
              clear hch
              go_wp2_with fail
              go_round
              case rel =>
                first
                  | exact ⟨k + 1, by omega, by go_num, CE.out⟩
                  | ((repeat apply Exists.intro); exact ⟨⟨k + 1, by omega, by go_num, CE.out⟩, rfl⟩)
              case measure => simp [intOf]; omega
    · obtain rfl : k = M.fns.n := by omega
      have Ct := hid hch
      clear hch
      go_wp2_with fail
      clear b0 b1 b2 b3
      go_loopw [9] (fun iv wr => ∃ t : Nat, t ≤ M.tab.n ∧ iv = .int .i64 t ∧ Ch p W wr) (fun iv _ => M.tab.n - (intOf iv).toNat)
      case atStart => exact ⟨0, Nat.zero_le _, rfl, Ct.out⟩
      case round =>
        clear Ct
        obtain ⟨t, ht, rfl, hch⟩ := hrel
        have b0 := hch.sl BX.out.1
        have b1 := hch.sl BX.out.2.1
        have b2 := hch.sl BX.out.2.2.1
        have b3 := hch.sl BX.out.2.2.2
        by_cases lt : t < M.tab.n
        · obtain ⟨rb, ro, hrx, hrA⟩ := HM.out.tab.at underlying24 size60 lt
          have RR := hid hrA.c1
          clear hrA
          have r1 := hch.sl RR.out
          have gr := (HS.out.tabI t lt).2
          have Cte0 := hid hch
          clear hch
          go_wp2_with fail
          clear b0 b1 b2 b3 r1
          go_loopw [10] (fun iv wr => ∃ te : Nat, te ≤ (M.T t).cel.n ∧ iv = .int .i64 te ∧ Ch p W wr) (fun iv _ => (M.T t).cel.n - (intOf iv).toNat)
          case atStart => exact ⟨0, Nat.zero_le _, rfl, Cte0.out⟩
          case round =>
            clear Cte0
            obtain ⟨te, hte, rfl, hch⟩ := hrel
            have b0 := hch.sl BX.out.1
            have b1 := hch.sl BX.out.2.1
            have b2 := hch.sl BX.out.2.2.1
            have b3 := hch.sl BX.out.2.2.2
            by_cases lte : te < (M.T t).cel.n
            · have r1 := hch.sl RR.out
              obtain ⟨nb, no, hnx, hnc, hnp, hnf, hnl⟩ := ints_wr (HM.out.tabF t lt) (HW.out.tab t lt) underlying33 size3 lte
              obtain ⟨n0, hn0⟩ := hch.num _ _ _ hnc
              have hnz : wr.frozen? ⟨nb, no, none⟩ = false := by rw [hch.turn.froz _ hnl]; exact hnf
              have CN := hid (fun m => hch.set hnc hnp m)
              clear hch hnc hnf
              go_wp2_with fail
              go_round
              case rel =>
                first
                  | exact ⟨te + 1, by omega, by go_num, CN.out _⟩
                  | ((repeat apply Exists.intro); exact ⟨⟨te + 1, by omega, by go_num, CN.out _⟩, rfl⟩)
              case measure => simp [intOf]; omega
            · obtain rfl : te = (M.T t).cel.n := by omega
              have r1 := hch.sl RR.out
              have CE := hid hch
              clear hch
              go_wp2_with fail
              go_round
              case rel =>
                first
                  | exact ⟨t + 1, by omega, by go_num, CE.out⟩
                  | ((repeat apply Exists.intro); exact ⟨⟨t + 1, by omega, by go_num, CE.out⟩, rfl⟩)
              case measure => simp [intOf]; omega
        · obtain rfl : t = M.tab.n := by omega
          have Cg := hid hch
          clear hch
          go_wp2_with fail
          clear b0 b1 b2 b3
          go_loopw [11] (fun iv wr => ∃ g : Nat, g ≤ M.glo.n ∧ iv = .int .i64 g ∧ Ch p W wr) (fun iv _ => M.glo.n - (intOf iv).toNat)
          case atStart => exact ⟨0, Nat.zero_le _, rfl, Cg.out⟩
          case round =>
            clear Cg
            obtain ⟨g, hg, rfl, hch⟩ := hrel
            have b0 := hch.sl BX.out.1
            have b1 := hch.sl BX.out.2.1
            have b2 := hch.sl BX.out.2.2.1
            have b3 := hch.sl BX.out.2.2.2
            by_cases lg : g < M.glo.n
            · obtain ⟨rb, ro, hrx, hrA⟩ := HM.out.glo.at underlying23 size58 lg
              have RR := hid hrA.c1
              clear hrA
              have r1 := hch.sl RR.out
              have gr := (HS.out.gloI g lg).2
              have Cge0 := hid hch
              clear hch
              go_wp2_with fail
              clear b0 b1 b2 b3 r1
              go_loopw [12] (fun iv wr => ∃ ge : Nat, ge ≤ (M.G g).cel.n ∧ iv = .int .i64 ge ∧ Ch p W wr) (fun iv _ => (M.G g).cel.n - (intOf iv).toNat)
              case atStart => exact ⟨0, Nat.zero_le _, rfl, Cge0.out⟩
              case round =>
                clear Cge0
                obtain ⟨ge, hge, rfl, hch⟩ := hrel
                have b0 := hch.sl BX.out.1
                have b1 := hch.sl BX.out.2.1
                have b2 := hch.sl BX.out.2.2.1
                have b3 := hch.sl BX.out.2.2.2
                by_cases lge : ge < (M.G g).cel.n
                · have r1 := hch.sl RR.out
                  obtain ⟨nb, no, hnx, hnc, hnp, hnf, hnl⟩ := ints_wr (HM.out.gloC g lg) (HW.out.glo g lg) underlying56 size2 lge
                  obtain ⟨n0, hn0⟩ := hch.num _ _ _ hnc
                  have hnz : wr.frozen? ⟨nb, no, none⟩ = false := by rw [hch.turn.froz _ hnl]; exact hnf
                  have CN := hid (fun m => hch.set hnc hnp m)
                  clear hch hnc hnf
                  go_wp2_with fail
                  go_round
                  case rel =>
                    first
                      | exact ⟨ge + 1, by omega, by go_num, CN.out _⟩
                      | ((repeat apply Exists.intro); exact ⟨⟨ge + 1, by omega, by go_num, CN.out _⟩, rfl⟩)
                  case measure => simp [intOf]; omega
                · obtain rfl : ge = (M.G g).cel.n := by omega
                  have r1 := hch.sl RR.out
                  have CE := hid hch
                  clear hch
                  go_wp2_with fail
                  go_round
                  case rel =>
                    first
                      | exact ⟨g + 1, by omega, by go_num, CE.out⟩
                      | ((repeat apply Exists.intro); exact ⟨⟨g + 1, by omega, by go_num, CE.out⟩, rfl⟩)
                  case measure => simp [intOf]; omega
            · obtain rfl : g = M.glo.n := by omega
              have Cx := hid hch
              clear hch
              go_wp2_with fail
              clear b0 b1 b2 b3
              go_loopw [13] (fun iv wr => ∃ x : Nat, x ≤ M.ext.n ∧ iv = .int .i64 x ∧ Ch p W wr) (fun iv _ => M.ext.n - (intOf iv).toNat)
              case atStart => exact ⟨0, Nat.zero_le _, rfl, Cx.out⟩
              case round =>
                clear Cx
                obtain ⟨x, hx, rfl, hch⟩ := hrel
                have b0 := hch.sl BX.out.1
                have b1 := hch.sl BX.out.2.1
                have b2 := hch.sl BX.out.2.2.1
                have b3 := hch.sl BX.out.2.2.2
                by_cases lx : x < M.ext.n
                · obtain ⟨rb, ro, hrx, hrA⟩ := HM.out.ext.at underlying22 size55 lx
                  have RR := hid hrA.c1
                  clear hrA
                  have r1 := hch.sl RR.out
                  have gr := (HS.out.extI x lx).2
                  have Cxe0 := hid hch
                  clear hch
                  go_wp2_with fail
                  clear b0 b1 b2 b3 r1
                  go_loopw [14] (fun iv wr => ∃ xe : Nat, xe ≤ (M.E x).par.n ∧ iv = .int .i64 xe ∧ Ch p W wr) (fun iv _ => (M.E x).par.n - (intOf iv).toNat)
                  case atStart => exact ⟨0, Nat.zero_le _, rfl, Cxe0.out⟩
                  case round =>
                    clear Cxe0
                    obtain ⟨xe, hxe, rfl, hch⟩ := hrel
                    have b0 := hch.sl BX.out.1
                    have b1 := hch.sl BX.out.2.1
                    have b2 := hch.sl BX.out.2.2.1
                    have b3 := hch.sl BX.out.2.2.2
                    by_cases lxe : xe < (M.E x).par.n
                    · have r1 := hch.sl RR.out
                      obtain ⟨nb, no, hnx, hnc, hnp, hnf, hnl⟩ := ints_wr (HM.out.extP x lx) (HW.out.ext x lx) underlying33 size3 lxe
                      obtain ⟨n0, hn0⟩ := hch.num _ _ _ hnc
                      have hnz : wr.frozen? ⟨nb, no, none⟩ = false := by rw [hch.turn.froz _ hnl]; exact hnf
                      have CN := hid (fun m => hch.set hnc hnp m)
                      clear hch hnc hnf
                      go_wp2_with fail
                      go_round
                      case rel =>
                        first
                          | exact ⟨xe + 1, by omega, by go_num, CN.out _⟩
                          | ((repeat apply Exists.intro); exact ⟨⟨xe + 1, by omega, by go_num, CN.out _⟩, rfl⟩)
                      case measure => simp [intOf]; omega
                    · obtain rfl : xe = (M.E x).par.n := by omega
                      have r1 := hch.sl RR.out
                      have CE := hid hch
                      clear hch
                      go_wp2_with fail
                      go_round
                      case rel =>
                        first
                          | exact ⟨x + 1, by omega, by go_num, CE.out⟩
                          | ((repeat apply Exists.intro); exact ⟨⟨x + 1, by omega, by go_num, CE.out⟩, rfl⟩)
                      case measure => simp [intOf]; omega
                · obtain rfl : x = M.ext.n := by omega
                  have CE := hid hch
                  clear hch
                  go_wp2_with fail
                  go_end0
                  exact ⟨rfl, by rw [HWW.out]; exact CE.out⟩

end Go.Proofs.Ythaedlnefikigaa.Mod
