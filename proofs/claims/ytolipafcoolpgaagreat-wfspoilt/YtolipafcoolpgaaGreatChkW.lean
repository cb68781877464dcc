/-
  Blocks that fit together, by the document: plnref3.flows.
-/
import Derived.Test.YtolipafcoolpgaaGreatChkM
import Derived.Test.YtolipafcoolpgaaGreatJ3
import Derived.Test.YtolipafcoolpgaaGreatSameR
import Derived.BigQuiet
import Derived.Deep.QuietTactic
import Derived.BigRegion
namespace Go.Proofs.YtolipafcoolpgaaGreat.Chk
open Go.RowKit View Rd Num Opn Copy Go.Proofs.YtolipafcoolpgaaGreat.Mod Flo

set_option linter.unusedVariables false

def FlowI (F : FV) (b k : Nat) : Prop := endB (F.I b k).op = decide (k = (F.B b).n - 1) ∧ ¬ (0 < k ∧ (F.I b k).op = 26 ∧ (F.I b (k - 1)).op ≠ 26)

def FlowE (F : FV) (b : Nat) : Prop := (∀ i, i < (F.I b ((F.B b).n - 1)).into.n → 1 ≤ F.J b ((F.B b).n - 1) i ∧ F.J b ((F.B b).n - 1) i < F.blk.n) ∧ ((F.I b ((F.B b).n - 1)).op = 28 → F.J b ((F.B b).n - 1) 0 ≠ F.J b ((F.B b).n - 1) 1)

def FlowB (F : FV) (b : Nat) : Prop := 1 ≤ (F.B b).n ∧ (∀ k, k < (F.B b).n → FlowI F b k) ∧ FlowE F b

def FlowP (F : FV) (b k : Nat) : Prop := (F.I b k).op = 26 → b ≠ 0 ∧ (F.I b k).into.n = (pvL F F.blk.n b).length ∧ ∀ i, i < (F.I b k).into.n → F.J b k i = ((pvL F F.blk.n b).getD i 0 : Nat)

def FlowR (F : FV) (b : Nat) : Prop := Flo.Way (su F) 0 b ∧ ∀ k, k < (F.B b).n → FlowP F b k

def FlowF (F : FV) : Prop := (∀ b, b < F.blk.n → FlowB F b) ∧ ∀ b, b < F.blk.n → FlowR F b

theorem prevs_at {g n x : Nat} (hx : x < n) : ∀ wx, (Instr.indexAt 153 (.slice (some ⟨g, 0, none⟩) n n) (.int .i64 x)).run Tryz.prog wx = .ok (.pointer (some ⟨g, x, none⟩)) wx := by
 have := index_row (s := ⟨some ⟨g, 0, none⟩, n, n⟩) rfl underlying153 size33 hx
 simpa using this

theorem br_two {v : IV} (h : formB v = true) (ho : v.op = 28) : v.into.n = 2 := by
 unfold formB at h
 rw [ho] at h
 simp [mk] at h
 omega

set_option maxRecDepth 10000 in
set_option maxHeartbeats 8000000 in
theorem flows_any (F : FV) (w : World) (hF : In w F) (hl : Light F) (hf : FormF F) : Calls Tryz.prog 58 #[F.val] w fun e w' => Ans (fun r => r = true ↔ FlowF F) w e w' := by
 have gb := hl.blk
 obtain ⟨W, hW⟩ : ∃ W, w.alloc (.cells (fcells F) 36) = W := ⟨_, rfl⟩
 have FW := hid (show FuncAt W w.heap.size F by rw [← hW]; exact FuncAt.alloc w F)
 have HF := hid (show In W F by rw [← hW]; exact hF.on (new (same w) _))
 have LW := hid (show Below w.heap.size w W by rw [← hW]; exact new (same w) _)
 have HL := hid hl
 have HFO := hid hf
 have HWW := hid hW
 have NO := hid (show ∀ wx, Below W.heap.size W wx → ¬ FlowF F → Ans (fun r => r = true ↔ FlowF F) w (.returned (.bool false)) wx from fun wx h hn => ⟨false, rfl, by simp [hn], View.more LW.out h⟩)
 clear hF hl hf hW
 go_enter Tryz.func58, Tryz.ntmps58
 go_wp2_with fail
 simp only [HWW.out]
 clear HWW
 go_loopw [3] (fun iv wr => ∃ b : Nat, b ≤ F.blk.n ∧ iv = .int .i64 b ∧ (∀ t, t < b → FlowB F t) ∧ Below W.heap.size W wr) (fun iv _ => F.blk.n - (intOf iv).toNat)
 case atStart => exact ⟨0, Nat.zero_le _, rfl, fun t ht => by omega, same _⟩
 case round =>
  obtain ⟨b, hb0, rfl, hall, hb⟩ := hrel
  have HA := hid (And.intro hall hb)
  obtain ⟨c0, c1, c2, c3, c4⟩ := FW.out.on hb
  by_cases lb : b < F.blk.n
  ·obtain ⟨rb, ro, hrx, hrc0⟩ := HF.out.blk.at lb
   have hrc := cell_on hb hrc0
   have gi := HL.out.ins b lb
   clear hall hb hrc0
   by_cases hn0 : (F.B b).n = 0
   ·have t0 : (((F.B b).n : Int) == 0) = true := by simp [hn0]
    have HN := hid (show ¬ FlowF F from fun h => by have := (h.1 b lb).1; omega)
    clear hn0
    go_wp2_with fail
    go_ret
    exact NO.out _ HA.out.2 HN.out
   have t0 : (((F.B b).n : Int) == 0) = false := by simp; omega
   have hn1 : 1 ≤ (F.B b).n := by omega
   clear hn0
   go_wp2_with fail
   clear c0 c1 c2 c3 c4 hrc t0
   obtain ⟨l, hlq⟩ : ∃ l, (F.B b).n - 1 = l := ⟨_, rfl⟩
   have hl1 : (F.B b).n = l + 1 := by omega
   have HLQ := hid hlq
   have HL1 := hid hl1
   clear hlq hl1
   go_loopw [5] (fun iv wx => ∃ k : Nat, k ≤ (F.B b).n ∧ iv = .int .i64 k ∧ (∀ t, t < k → FlowI F b t) ∧ Below W.heap.size W wx) (fun iv _ => (F.B b).n - (intOf iv).toNat)
   case atStart => exact ⟨0, Nat.zero_le _, rfl, fun t ht => by omega, HA.out.2⟩
   case round =>
    obtain ⟨k, hk0, rfl, hall, hb⟩ := hrel
    have HK := hid (And.intro hall hb)
    by_cases lk : k < (F.B b).n
    ·obtain ⟨ib, io, hiy, c0, c1, c2, c3, c4, c5, c6⟩ := ((HF.out.ins b lb).on hb).at lk
     clear hall hb
     obtain ⟨op, hop⟩ : ∃ op, (F.I b k).op = op := ⟨_, rfl⟩
     rw [hop] at c0
     have HOP := hid hop
     clear hop
     have ENDS := hid (ends_any op wr)
     have wr1 : IntKind.i64.wrap (((F.B b).n : Int) - 1) = ((F.B b).n : Int) - 1 := by simp only [IntKind.wrap_i64]; omega
     have wr2 : wrap64 (((F.B b).n : Int) - 1) = ((F.B b).n : Int) - 1 := by unfold wrap64; omega
     by_cases hkl : k = (F.B b).n - 1
     ·have qk : ((k : Int) == ((F.B b).n : Int) - 1) = true := by simp; omega
      cases hE : endB op with
      | false =>
       have HN := hid (show ¬ FlowF F from fun h => by have := ((h.1 b lb).2.1 k lk).1; rw [HOP.out, hE] at this; simp [hkl] at this)
       clear hkl
       go_wp2_with fail
       refine ENDS.out.mono ?_
       rintro e w9 ⟨rfl, rfl⟩
       rw [hE]
       go_wp2_with fail
       go_ret
       exact NO.out _ HK.out.2 HN.out
      | true =>
       have HEQ := hid (show endB (F.I b k).op = decide (k = (F.B b).n - 1) by rw [HOP.out, hE]; simp [hkl])
       clear hkl
       rcases Nat.eq_zero_or_pos k with hkz | hk1
       ·have d0 : decide ((0 : Int) < (k : Int)) = false := by simp; omega
        have d1 : decide (0 < k) = false := by simp; omega
        have p0 : (k : Int) ≤ 0 := by omega
        have HI := hid (show FlowI F b k from ⟨HEQ.out, fun h => absurd h.1 (by omega)⟩)
        clear hkz
        go_wp2_with fail
        refine ENDS.out.mono ?_
        rintro e w9 ⟨rfl, rfl⟩
        rw [hE]
        go_wp2_with fail
        go_round
        case rel => exact ⟨k + 1, by omega, by go_num, upto1 HK.out.1 HI.out, HK.out.2⟩
        case measure => simp [intOf]; omega
       ·have d0 : decide ((0 : Int) < (k : Int)) = true := by simp; omega
        by_cases h26 : op = 26
        ·have t26 : (op == 26) = true := by simp [h26]
         obtain ⟨i, hi⟩ : ∃ i, k = i + 1 := ⟨k - 1, by omega⟩
         obtain ⟨jb, jo, hjy, j0, _⟩ := ((HF.out.ins b lb).on HK.out.2).at (show i < (F.B b).n by omega)
         have b5 : IntKind.i64.wrap ((k : Int) - 1) = (i : Int) := by simp only [IntKind.wrap_i64]; omega
         have b6 : wrap64 ((k : Int) - 1) = (i : Int) := by unfold wrap64; omega
         have b7 : (k : Int) - 1 = (i : Int) := by omega
         have HIK := hid hi
         have HOP2 := hid (show (F.I b k).op = 26 by rw [HOP.out]; exact h26)
         clear hi h26
         by_cases hp : (F.I b i).op = 26
         ·have t5 : ((F.I b i).op != 26) = false := by simp [hp]
          have HI := hid (show FlowI F b k from ⟨HEQ.out, fun h => h.2.2 (by rw [HIK.out, Nat.add_sub_cancel]; exact hp)⟩)
          clear hp
          go_wp2_with fail
          refine ENDS.out.mono ?_
          rintro e w9 ⟨rfl, rfl⟩
          rw [hE]
          go_wp2_with fail
          go_round
          case rel => exact ⟨k + 1, by omega, by go_num, upto1 HK.out.1 HI.out, HK.out.2⟩
          case measure => simp [intOf]; omega
         ·have t5 : ((F.I b i).op != 26) = true := by simp [hp]
          have HN := hid (show ¬ FlowF F from fun h => ((h.1 b lb).2.1 k lk).2 ⟨hk1, HOP2.out, by rw [HIK.out, Nat.add_sub_cancel]; exact hp⟩)
          clear hp
          go_wp2_with fail
          refine ENDS.out.mono ?_
          rintro e w9 ⟨rfl, rfl⟩
          rw [hE]
          go_wp2_with fail
          go_ret
          exact NO.out _ HK.out.2 HN.out
        ·have t26 : (op == 26) = false := by simp [h26]
         have HI := hid (show FlowI F b k from ⟨HEQ.out, fun h => h26 (by rw [← HOP.out]; exact h.2.1)⟩)
         clear h26
         go_wp2_with fail
         refine ENDS.out.mono ?_
         rintro e w9 ⟨rfl, rfl⟩
         rw [hE]
         go_wp2_with fail
         go_round
         case rel => exact ⟨k + 1, by omega, by go_num, upto1 HK.out.1 HI.out, HK.out.2⟩
         case measure => simp [intOf]; omega
     ·have qk : ((k : Int) == ((F.B b).n : Int) - 1) = false := by simp; omega
      cases hE : endB op with
      | true =>
       have HN := hid (show ¬ FlowF F from fun h => by have := ((h.1 b lb).2.1 k lk).1; rw [HOP.out, hE] at this; simp [hkl] at this)
       clear hkl
       go_wp2_with fail
       refine ENDS.out.mono ?_
       rintro e w9 ⟨rfl, rfl⟩
       rw [hE]
       go_wp2_with fail
       go_ret
       exact NO.out _ HK.out.2 HN.out
      | false =>
       have HEQ := hid (show endB (F.I b k).op = decide (k = (F.B b).n - 1) by rw [HOP.out, hE]; simp [hkl])
       clear hkl
       rcases Nat.eq_zero_or_pos k with hkz | hk1
       ·have d0 : decide ((0 : Int) < (k : Int)) = false := by simp; omega
        have d1 : decide (0 < k) = false := by simp; omega
        have p0 : (k : Int) ≤ 0 := by omega
        have HI := hid (show FlowI F b k from ⟨HEQ.out, fun h => absurd h.1 (by omega)⟩)
        clear hkz
        go_wp2_with fail
        refine ENDS.out.mono ?_
        rintro e w9 ⟨rfl, rfl⟩
        rw [hE]
        go_wp2_with fail
        go_round
        case rel => exact ⟨k + 1, by omega, by go_num, upto1 HK.out.1 HI.out, HK.out.2⟩
        case measure => simp [intOf]; omega
       ·have d0 : decide ((0 : Int) < (k : Int)) = true := by simp; omega
        by_cases h26 : op = 26
        ·have t26 : (op == 26) = true := by simp [h26]
         obtain ⟨i, hi⟩ : ∃ i, k = i + 1 := ⟨k - 1, by omega⟩
         obtain ⟨jb, jo, hjy, j0, _⟩ := ((HF.out.ins b lb).on HK.out.2).at (show i < (F.B b).n by omega)
         have b5 : IntKind.i64.wrap ((k : Int) - 1) = (i : Int) := by simp only [IntKind.wrap_i64]; omega
         have b6 : wrap64 ((k : Int) - 1) = (i : Int) := by unfold wrap64; omega
         have b7 : (k : Int) - 1 = (i : Int) := by omega
         have HIK := hid hi
         have HOP2 := hid (show (F.I b k).op = 26 by rw [HOP.out]; exact h26)
         clear hi h26
         by_cases hp : (F.I b i).op = 26
         ·have t5 : ((F.I b i).op != 26) = false := by simp [hp]
          have HI := hid (show FlowI F b k from ⟨HEQ.out, fun h => h.2.2 (by rw [HIK.out, Nat.add_sub_cancel]; exact hp)⟩)
          clear hp
          go_wp2_with fail
          refine ENDS.out.mono ?_
          rintro e w9 ⟨rfl, rfl⟩
          rw [hE]
          go_wp2_with fail
          go_round
          case rel => exact ⟨k + 1, by omega, by go_num, upto1 HK.out.1 HI.out, HK.out.2⟩
          case measure => simp [intOf]; omega
         ·have t5 : ((F.I b i).op != 26) = true := by simp [hp]
          have HN := hid (show ¬ FlowF F from fun h => ((h.1 b lb).2.1 k lk).2 ⟨hk1, HOP2.out, by rw [HIK.out, Nat.add_sub_cancel]; exact hp⟩)
          clear hp
          go_wp2_with fail
          refine ENDS.out.mono ?_
          rintro e w9 ⟨rfl, rfl⟩
          rw [hE]
          go_wp2_with fail
          go_ret
          exact NO.out _ HK.out.2 HN.out
        ·have t26 : (op == 26) = false := by simp [h26]
         have HI := hid (show FlowI F b k from ⟨HEQ.out, fun h => h26 (by rw [← HOP.out]; exact h.2.1)⟩)
         clear h26
         go_wp2_with fail
         refine ENDS.out.mono ?_
         rintro e w9 ⟨rfl, rfl⟩
         rw [hE]
         go_wp2_with fail
         go_round
         case rel => exact ⟨k + 1, by omega, by go_num, upto1 HK.out.1 HI.out, HK.out.2⟩
         case measure => simp [intOf]; omega
    ·obtain rfl : k = (F.B b).n := by omega
     clear hall hb
     have hl2 : l < (F.B b).n := by have := HL1.out; omega
     obtain ⟨ib, io, hiy, c0, c1, c2, c3, c4, c5, c6⟩ := ((HF.out.ins b lb).on HK.out.2).at hl2
     have b5 : IntKind.i64.wrap (((F.B b).n : Int) - 1) = (l : Int) := by simp only [IntKind.wrap_i64]; have := HL1.out; omega
     have b6 : wrap64 (((F.B b).n : Int) - 1) = (l : Int) := by unfold wrap64; have := HL1.out; omega
     have b7 : ((F.B b).n : Int) - 1 = (l : Int) := by have := HL1.out; omega
     have gx := HL.out.into b lb l hl2
     go_wp2_with fail
     obtain ⟨N6, hN6⟩ : ∃ N6, wr.heap.size = N6 := ⟨_, rfl⟩
     obtain ⟨W6, hW6⟩ : ∃ W6, wr.alloc (.cells (F.I b l).cells 43) = W6 := ⟨_, rfl⟩
     have X6 := hid (show W6.cell? ⟨N6, 0, none⟩ = some (.int .i64 (F.I b l).op) ∧ W6.cell? ⟨N6, 6, none⟩ = some (.slice (F.I b l).into.a (F.I b l).into.n (F.I b l).into.c) by rw [← hW6, ← hN6]; exact ⟨by simp, by simp⟩)
     have L6 := hid (show Below W.heap.size W W6 by rw [← hW6]; exact new HK.out.2 _)
     have FI := hid HK.out.1
     rw [hW6, hN6]
     clear hW6 hN6 c0 c1 c2 c3 c4 c5 c6 b5 b6 b7 hiy HK
     go_loopw [7] (fun iv wx => ∃ k : Nat, k ≤ (F.I b l).into.n ∧ iv = .int .i64 k ∧ (∀ t, t < k → 1 ≤ F.J b l t ∧ F.J b l t < F.blk.n) ∧ Below W6.heap.size W6 wx) (fun iv _ => (F.I b l).into.n - (intOf iv).toNat)
     case atStart => exact ⟨0, Nat.zero_le _, rfl, fun t ht => by omega, same _⟩
     case round =>
      obtain ⟨k, hk0, rfl, hall, hb⟩ := hrel
      have HK := hid (And.intro hall hb)
      have x0 := cell_on hb X6.out.1
      have x6 := cell_on hb X6.out.2
      obtain ⟨f0, f1, f2, f3, f4⟩ := FW.out.on (View.more L6.out hb)
      have II := ((HF.out.into b lb l hl2).on (View.more L6.out hb))
      by_cases lk : k < (F.I b l).into.n
      ·obtain ⟨pb, po, hpx, hpc⟩ := II.at lk
       clear hall hb II
       by_cases h1 : F.J b l k < 1
       ·have t1 : decide (F.J b l k < 1) = true := by simpa using h1
        have HN := hid (show ¬ FlowF F from fun h => by have := ((h.1 b lb).2.2.1 k (by rw [HLQ.out]; exact lk)).1; rw [HLQ.out] at this; omega)
        clear h1
        go_wp2_with fail
        go_quiet (fail)
        go_wp2_with fail
        go_ret
        exact NO.out _ (View.more L6.out (View.more HK.out.2 (below_drewN' _ _))) HN.out
       have t1 : decide (F.J b l k < 1) = false := by simpa using h1
       by_cases h2 : (F.blk.n : Int) ≤ F.J b l k
       ·have t2 : decide ((F.blk.n : Int) ≤ F.J b l k) = true := by simpa using h2
        have HN := hid (show ¬ FlowF F from fun h => by have := ((h.1 b lb).2.2.1 k (by rw [HLQ.out]; exact lk)).2; rw [HLQ.out] at this; omega)
        clear h1 h2
        go_wp2_with fail
        go_quiet (fail)
        go_wp2_with fail
        go_ret
        exact NO.out _ (View.more L6.out (View.more HK.out.2 (below_drewN' _ _))) HN.out
       have t2 : decide ((F.blk.n : Int) ≤ F.J b l k) = false := by simpa using h2
       have HP := hid (show 1 ≤ F.J b l k ∧ F.J b l k < F.blk.n by omega)
       clear h1 h2
       go_wp2_with fail
       go_quiet (fail)
       go_wp2_with fail
       go_round
       case rel => exact ⟨k + 1, by omega, by go_num, upto1 HK.out.1 HP.out, View.more HK.out.2 (below_drewN' _ _)⟩
       case measure => simp [intOf]; omega
      ·obtain rfl : k = (F.I b l).into.n := by omega
       clear hall hb
       have GO := hid (show ((F.I b l).op = 28 → F.J b l 0 ≠ F.J b l 1) → FlowB F b from fun h => ⟨hn1, FI.out, by unfold FlowE; rw [HLQ.out]; exact ⟨HK.out.1, h⟩⟩)
       by_cases h28 : (F.I b l).op = 28
       ·have t8 : ((F.I b l).op == 28) = true := by simp [h28]
        have h2n := br_two (HFO.out.2.2 b lb l hl2) h28
        obtain ⟨pb, po, hpx, hpc⟩ := II.at (k := 0) (by omega)
        obtain ⟨qb, qo, hqx, hqc⟩ := II.at (k := 1) (by omega)
        have hpx' : ∀ wx, (Instr.indexAt 33 (.slice (F.I b l).into.a (F.I b l).into.n (F.I b l).into.c) (.int .i64 0)).run Tryz.prog wx = .ok (.pointer (some ⟨pb, po, none⟩)) wx := hpx
        have hqx' : ∀ wx, (Instr.indexAt 33 (.slice (F.I b l).into.a (F.I b l).into.n (F.I b l).into.c) (.int .i64 1)).run Tryz.prog wx = .ok (.pointer (some ⟨qb, qo, none⟩)) wx := hqx
        have H28 := hid h28
        clear h28 h2n II hpx hqx
        by_cases he : F.J b l 0 = F.J b l 1
        ·have te : (F.J b l 0 == F.J b l 1) = true := by simp [he]
         have HN := hid (show ¬ FlowF F from fun h => by have := (h.1 b lb).2.2.2; rw [HLQ.out] at this; exact this H28.out he)
         clear he
         go_wp2_with fail
         go_quiet (fail)
         go_wp2_with fail
         go_ret
         exact NO.out _ (View.more L6.out (View.more HK.out.2 (below_drewN' _ _))) HN.out
        ·have te : (F.J b l 0 == F.J b l 1) = false := by simp [he]
         have HBB := hid (GO.out fun _ => he)
         clear he
         go_wp2_with fail
         go_quiet (fail)
         go_wp2_with fail
         go_round
         case rel =>
          have f := upto1 HA.out.1 HBB.out
          first
           | exact ⟨b + 1, by omega, by go_num, f, View.more L6.out (View.more HK.out.2 (below_drewN' _ _))⟩
           | ((repeat apply Exists.intro); exact ⟨⟨b + 1, by omega, by go_num, f, View.more L6.out (View.more HK.out.2 (below_drewN' _ _))⟩, rfl⟩)
         case measure => simp [intOf]; omega
       ·have t8 : ((F.I b l).op == 28) = false := by simp [h28]
        have HBB := hid (GO.out fun h => absurd h h28)
        clear h28 II
        go_wp2_with fail
        go_quiet (fail)
        go_wp2_with fail
        go_round
        case rel =>
         have f := upto1 HA.out.1 HBB.out
         first
          | exact ⟨b + 1, by omega, by go_num, f, View.more L6.out (View.more HK.out.2 (below_drewN' _ _))⟩
          | ((repeat apply Exists.intro); exact ⟨⟨b + 1, by omega, by go_num, f, View.more L6.out (View.more HK.out.2 (below_drewN' _ _))⟩, rfl⟩)
        case measure => simp [intOf]; omega
  ·obtain rfl : b = F.blk.n := by omega
   have fw := FW.out.on hb
   clear hall hb
   go_upto_region 20 with fail
   clear c0 c1 c2 c3 c4
   have st0 : Below wr.heap.size wr wr.drew := Below.drew (same _)
   have A0 : ∀ wx, Below wr.heap.size wr wx → wx.cell? ⟨w.heap.size, 0, none⟩ = some (.string F.name) := fun wx h => cell_on h fw.c0
   have A1 : ∀ wx, Below wr.heap.size wr wx → wx.cell? ⟨w.heap.size, 1, none⟩ = some (.bool F.out) := fun wx h => cell_on h fw.c1
   have A2 : ∀ wx, Below wr.heap.size wr wx → wx.cell? ⟨w.heap.size, 2, none⟩ = some (.slice F.par.a F.par.n F.par.c) := fun wx h => cell_on h fw.c2
   have A3 : ∀ wx, Below wr.heap.size wr wx → wx.cell? ⟨w.heap.size, 3, none⟩ = some (.int .i64 F.res) := fun wx h => cell_on h fw.c3
   have A4 : ∀ wx, Below wr.heap.size wr wx → wx.cell? ⟨w.heap.size, 4, none⟩ = some (.slice F.blk.a F.blk.n F.blk.c) := fun wx h => cell_on h fw.c4
   refine wp_region_noPanic ?_
   refine wp_region_held_drew (S := fun wx => Below wr.heap.size wr wx) (by kernel_rfl) st0 (fun hS => ?_)
   refine Flo.tk (i := 0) (d := some 112) (v := ?vv0) rfl (by rfl) ?yv0 hS ?_
   case yv0 => intro wx hSw; (go_simp) <;> with_reducible rfl
   simp only [Act.put, sP1, sP2, sP3]
   refine Flo.tk (i := 2) (d := some 114) (v := ?vv2) rfl (by rfl) ?yv2 hS ?_
   case yv2 => intro wx hSw; (go_simp) <;> with_reducible rfl
   simp only [Act.put, sP1, sP2, sP3]
   refine wpAnyH_ready (rs := [1]) (by kernel_rfl) (by simp) ?_
   refine AllReadyH.cons rfl (fun K hK => ?_) AllReadyH.nil
   go_simp
   refine (reach_ref F _ (HF.out.on (View.more HA.out.2 st0)) HL.out).mono ?_
   rintro e wp1 ⟨f, ⟨RM, rfl, hr1, hM1, hbp1⟩, hf1⟩
   have p1 : Below wr.heap.size wr wp1 := View.more st0 hbp1
   have HR1 := hid (And.intro hr1 hf1)
   clear hr1 hM1 hbp1 hf1
   go_wp2_with fail
   refine hK.out _ _ p1 (fun _ => ?_)
   clear hK K
   replace hS := p1
   try simp only [Act.put, sP1, sP2, sP3]
   refine wpAnyH_ready (rs := [3]) (by kernel_rfl) (by simp) ?_
   refine AllReadyH.cons rfl (fun K hK => ?_) AllReadyH.nil
   go_simp
   refine (prev_ref F _ (HF.out.on (View.more HA.out.2 p1)) HL.out).mono ?_
   rintro e wp2 ⟨PM, R, rfl, hpv, hM2, hbp2⟩
   have p2 : Below wr.heap.size wr wp2 := View.more p1 hbp2
   have HR2 := hid (And.intro hpv (HR1.out.1.of_block (hbp2.block _ HR1.out.1.lt)))
   clear hpv hM2 hbp2
   go_wp2_with fail
   refine hK.out _ _ p2 (fun _ => ?_)
   clear hK K
   replace hS := p2
   try simp only [Act.put, sP1, sP2, sP3]
   refine Flo.tk (i := 4) (d := some 8) (v := ?vv4) rfl (by rfl) ?yv4 hS ?_
   case yv4 => intro wx hSw; (go_simp) <;> with_reducible rfl
   simp only [Act.put, sP1, sP2, sP3]
   refine Flo.tk (i := 5) (d := some 9) (v := ?vv5) rfl (by rfl) ?yv5 hS ?_
   case yv5 => intro wx hSw; (go_simp) <;> with_reducible rfl
   simp only [Act.put, sP1, sP2, sP3]
   refine wpAnyH_done (by kernel_rfl) ?_ _
   refine NoPanic.normal ?_
   have ST := hid (View.more HA.out.2 p2)
   have HB0 := hid HA.out.1
   have HFB := hid (show ∀ i, i < F.blk.n → (f i = true ↔ Flo.Way (su F) 0 i) from fun i hi => by
    rw [HR1.out.2 i hi, suL_neg (show (-1 : Int) < 0 by decide)]
    exact ⟨fun h => h.2.2, fun h => ⟨by unfold isB; simp; omega, by decide, h⟩⟩)
   clear hS st0 p1 p2 A0 A1 A2 A3 A4 fw HR1
   go_wp2_with fail
   go_loopw [10] (fun iv wx => ∃ b : Nat, b ≤ F.blk.n ∧ iv = .int .i64 b ∧ (∀ t, t < b → FlowR F t) ∧ Below wp2.heap.size wp2 wx) (fun iv _ => F.blk.n - (intOf iv).toNat)
   case atStart => exact ⟨0, Nat.zero_le _, rfl, fun t ht => by omega, same _⟩
   case round =>
    obtain ⟨b, hb0, rfl, hall, hb⟩ := hrel
    have HC := hid (And.intro hall hb)
    obtain ⟨c0, c1, c2, c3, c4⟩ := FW.out.on (View.more ST.out hb)
    by_cases lb : b < F.blk.n
    ·obtain ⟨rb, ro, hrx, hrc0⟩ := HF.out.blk.at lb
     have hrc := cell_on (View.more ST.out hb) hrc0
     have hrb := cell_on hb (HR2.out.2.cell lb)
     have hba := bool_at (g := RM) lb
     have gi := HL.out.ins b lb
     clear hall hb hrc0
     cases hfb : f b with
     | false =>
      rw [hfb] at hrb
      have HN := hid (show ¬ FlowF F from fun h => by have := (HFB.out b lb).2 (h.2 b lb).1; rw [hfb] at this; cases this)
      clear hfb
      go_wp2_with fail
      go_ret
      exact NO.out _ (View.more ST.out HC.out.2) HN.out
     | true =>
      rw [hfb] at hrb
      have HWY := hid ((HFB.out b lb).1 hfb)
      clear hfb
      go_wp2_with fail
      clear c0 c1 c2 c3 c4 hrc hrb hba
      go_loopw [12] (fun iv wx => ∃ k : Nat, k ≤ (F.B b).n ∧ iv = .int .i64 k ∧ (∀ t, t < k → FlowP F b t) ∧ Below wp2.heap.size wp2 wx) (fun iv _ => (F.B b).n - (intOf iv).toNat)
      case atStart => exact ⟨0, Nat.zero_le _, rfl, fun t ht => by omega, HC.out.2⟩
      case round =>
       obtain ⟨k, hk0, rfl, hall, hb⟩ := hrel
       have HK := hid (And.intro hall hb)
       by_cases lk : k < (F.B b).n
       ·obtain ⟨ib, io, hiy, c0, c1, c2, c3, c4, c5, c6⟩ := ((HF.out.ins b lb).on (View.more ST.out hb)).at lk
        have hpc := cell_on hb (HR2.out.1.row.cell lb)
        have hpx := prevs_at (g := PM) lb
        have hPL := pvL_le F F.blk.n b
        obtain ⟨hPI, hPN⟩ := HR2.out.1.ints lb (by omega)
        have IPV := hid (hPI.on hb)
        have IIN := hid ((HF.out.into b lb k lk).on (View.more ST.out hb))
        have NPV := hid hPN
        have g20 := HL.out.into b lb k lk
        clear hall hb hPI hPN hPL
        by_cases h26 : (F.I b k).op = 26
        ·have t26 : ((F.I b k).op == 26) = true := by simp [h26]
         have H26 := hid h26
         clear h26
         by_cases hz : b = 0
         ·have tz : ((b : Int) == 0) = true := by simp [hz]
          have HN := hid (show ¬ FlowF F from fun h => ((h.2 b lb).2 k lk H26.out).1 hz)
          clear hz
          go_wp2_with fail
          go_quiet (fail)
          go_wp2_with fail
          go_ret
          exact NO.out _ (View.more ST.out (View.more HK.out.2 (below_drewN' _ _))) HN.out
         ·have tz : ((b : Int) == 0) = false := by simp [hz]
          have HZ := hid hz
          clear hz
          by_cases hq : Eqs (F.I b k).into (R b) (F.J b k) (fun i => (((pvL F F.blk.n b).getD i 0 : Nat) : Int))
          ·have HQ := hid hq
           have HP := hid (show FlowP F b k from fun _ => ⟨HZ.out, by rw [hq.1]; exact NPV.out, hq.2⟩)
           clear hq
           go_wp2_with fail
           go_quiet (first | (go_at_call 50; refine Calls.quiet_of (ints_yes (F.I b k).into (R b) (F.J b k) _ _ (IIN.out.on (below_drewN' _ _)) (IPV.out.on (below_drewN' _ _)) (by omega) HQ.out)))
           go_wp2_with fail
           go_round
           case rel => exact ⟨k + 1, by omega, by go_num, upto1 HK.out.1 HP.out, View.more HK.out.2 (below_drewN' _ _)⟩
           case measure => simp [intOf]; omega
          ·have HQ := hid hq
           have HN := hid (show ¬ FlowF F from fun h => hq (by have := (h.2 b lb).2 k lk H26.out; exact ⟨by rw [this.2.1]; exact NPV.out.symm, this.2.2⟩))
           clear hq
           go_wp2_with fail
           go_quiet (first | (go_at_call 50; refine Calls.quiet_of (ints_no (F.I b k).into (R b) (F.J b k) _ _ (IIN.out.on (below_drewN' _ _)) (IPV.out.on (below_drewN' _ _)) (by omega) HQ.out)))
           go_wp2_with fail
           go_ret
           exact NO.out _ (View.more ST.out (View.more HK.out.2 (below_drewN' _ _))) HN.out
        ·have t26 : ((F.I b k).op == 26) = false := by simp [h26]
         have HP := hid (show FlowP F b k from fun h => absurd h h26)
         clear h26
         go_wp2_with fail
         go_quiet (fail)
         go_wp2_with fail
         go_round
         case rel => exact ⟨k + 1, by omega, by go_num, upto1 HK.out.1 HP.out, View.more HK.out.2 (below_drewN' _ _)⟩
         case measure => simp [intOf]; omega
       ·obtain rfl : k = (F.B b).n := by omega
        clear hall hb
        go_wp2_with fail
        go_round
        case rel =>
         have g := upto1 HC.out.1 (show FlowR F b from ⟨HWY.out, HK.out.1⟩)
         first
          | exact ⟨b + 1, by omega, by go_num, g, HK.out.2⟩
          | ((repeat apply Exists.intro); exact ⟨⟨b + 1, by omega, by go_num, g, HK.out.2⟩, rfl⟩)
        case measure => simp [intOf]; omega
    ·obtain rfl : b = F.blk.n := by omega
     clear hall hb
     go_wp2_with fail
     go_ret
     exact ⟨true, rfl, by simp; exact ⟨HB0.out, HC.out.1⟩, View.more LW.out (View.more ST.out HC.out.2)⟩

end Go.Proofs.YtolipafcoolpgaaGreat.Chk
