/-
  Whether modules are alike, by the document's own words: plnref3.Same.
-/
import Derived.Test.YtnodofbpogcheaaGreatJ5
import Derived.Deep.RegionHeld3
import Derived.BigQuiet
import Derived.Deep.QuietTactic
namespace Go.Proofs.YtnodofbpogcheaaGreat.Mod
open Go.RowKit View Rd Num Opn Copy

set_option linter.unusedVariables false

theorem ints_ans (s t : Sl) (f g : Nat → Int) (w : World) (hs : Ints w s f) (ht : Ints w t g) (hsm : s.n ≤ 1000) : Calls Tryz.prog 51 #[.slice s.a s.n s.c, .slice t.a t.n t.c] w fun e w' => Ans (fun r => r = true ↔ Eqs s t f g) w e w' := by
  refine (ints_any s t f g w hs ht hsm).mono ?_
  rintro e w' ⟨r, rfl, hr, q, rfl⟩
  exact ⟨r, rfl, hr, below_drewN' w q⟩

theorem longs_ans (s t : Sl) (f g : Nat → Int) (w : World) (hs : Ints w s f) (ht : Ints w t g) (hsm : s.n ≤ 1000) : Calls Tryz.prog 52 #[.slice s.a s.n s.c, .slice t.a t.n t.c] w fun e w' => Ans (fun r => r = true ↔ Eqs s t f g) w e w' := by
  refine (longs_any s t f g w hs ht hsm).mono ?_
  rintro e w' ⟨r, rfl, hr, q, rfl⟩
  exact ⟨r, rfl, hr, below_drewN' w q⟩

theorem ints_yes (s t : Sl) (f g : Nat → Int) (w : World) (hs : Ints w s f) (ht : Ints w t g) (hsm : s.n ≤ 1000) (h : Eqs s t f g) : Calls Tryz.prog 51 #[.slice s.a s.n s.c, .slice t.a t.n t.c] w fun e w' => e = .returned (.bool true) ∧ ∃ q, w' = w.drewN q := by
  refine (ints_any s t f g w hs ht hsm).mono ?_
  rintro e w' ⟨r, rfl, hr, hq⟩
  rw [hr.2 h]; exact ⟨rfl, hq⟩

theorem ints_no (s t : Sl) (f g : Nat → Int) (w : World) (hs : Ints w s f) (ht : Ints w t g) (hsm : s.n ≤ 1000) (h : ¬ Eqs s t f g) : Calls Tryz.prog 51 #[.slice s.a s.n s.c, .slice t.a t.n t.c] w fun e w' => e = .returned (.bool false) ∧ ∃ q, w' = w.drewN q := by
  refine (ints_any s t f g w hs ht hsm).mono ?_
  rintro e w' ⟨r, rfl, hr, hq⟩
  cases r
  · exact ⟨rfl, hq⟩
  · exact absurd (hr.1 rfl) h

theorem longs_yes (s t : Sl) (f g : Nat → Int) (w : World) (hs : Ints w s f) (ht : Ints w t g) (hsm : s.n ≤ 1000) (h : Eqs s t f g) : Calls Tryz.prog 52 #[.slice s.a s.n s.c, .slice t.a t.n t.c] w fun e w' => e = .returned (.bool true) ∧ ∃ q, w' = w.drewN q := by
  refine (longs_any s t f g w hs ht hsm).mono ?_
  rintro e w' ⟨r, rfl, hr, hq⟩
  rw [hr.2 h]; exact ⟨rfl, hq⟩

theorem longs_no (s t : Sl) (f g : Nat → Int) (w : World) (hs : Ints w s f) (ht : Ints w t g) (hsm : s.n ≤ 1000) (h : ¬ Eqs s t f g) : Calls Tryz.prog 52 #[.slice s.a s.n s.c, .slice t.a t.n t.c] w fun e w' => e = .returned (.bool false) ∧ ∃ q, w' = w.drewN q := by
  refine (longs_any s t f g w hs ht hsm).mono ?_
  rintro e w' ⟨r, rfl, hr, hq⟩
  cases r
  · exact ⟨rfl, hq⟩
  · exact absurd (hr.1 rfl) h

theorem same_ans (F G : FV) (w : World) (hF : In w F) (hG : In w G) (hl : Light F) : Calls Tryz.prog 53 #[F.val, G.val] w fun e w' => Ans (fun r => r = true ↔ EqF F G) w e w' := by
  refine (sameFunc_ref F G w hF hG hl).mono ?_
  rintro e w' ⟨r, rfl, hr, hb⟩
  exact ⟨r, rfl, hr, hb⟩

set_option maxRecDepth 100000 in
set_option maxHeartbeats 4000000 in
theorem same_ref (M O : MV) (w : World) (hM0 : InM w M) (hO0 : InM w O) (hs : SmallM M) :
    Calls Tryz.prog 22 #[M.val, O.val] w fun e w' => Ans (fun r => r = true ↔ EqM M O) w e w' := by
  by_cases q1 : M.ext.n = O.ext.n
  case neg =>
    have q1t : ((M.ext.n : Int) != (O.ext.n : Int)) = true := by simp; omega
    have NN := hid (show ¬ EqM M O from fun h => q1 h.ext.1)
    clear q1
    go_enter Tryz.func22, Tryz.ntmps22
    go_wp2_with fail
    go_ret
    exact ⟨false, rfl, by simp only [Bool.false_eq_true, false_iff]; exact NN.out, new (new (same w) _) _⟩
  have q1t : ((M.ext.n : Int) != (O.ext.n : Int)) = false := by simp [q1]
  have n1 := hid q1
  clear q1
  by_cases q2 : M.glo.n = O.glo.n
  case neg =>
    have q2t : ((M.glo.n : Int) != (O.glo.n : Int)) = true := by simp; omega
    have NN := hid (show ¬ EqM M O from fun h => q2 h.glo.1)
    clear q2
    go_enter Tryz.func22, Tryz.ntmps22
    go_wp2_with fail
    go_ret
    exact ⟨false, rfl, by simp only [Bool.false_eq_true, false_iff]; exact NN.out, new (new (same w) _) _⟩
  have q2t : ((M.glo.n : Int) != (O.glo.n : Int)) = false := by simp [q2]
  have n2 := hid q2
  clear q2
  by_cases q3 : M.tab.n = O.tab.n
  case neg =>
    have q3t : ((M.tab.n : Int) != (O.tab.n : Int)) = true := by simp; omega
    have NN := hid (show ¬ EqM M O from fun h => q3 h.tab.1)
    clear q3
    go_enter Tryz.func22, Tryz.ntmps22
    go_wp2_with fail
    go_ret
    exact ⟨false, rfl, by simp only [Bool.false_eq_true, false_iff]; exact NN.out, new (new (same w) _) _⟩
  have q3t : ((M.tab.n : Int) != (O.tab.n : Int)) = false := by simp [q3]
  have n3 := hid q3
  clear q3
  by_cases q4 : M.fns.n = O.fns.n
  case neg =>
    have q4t : ((M.fns.n : Int) != (O.fns.n : Int)) = true := by simp; omega
    have NN := hid (show ¬ EqM M O from fun h => q4 h.fns.1)
    clear q4
    go_enter Tryz.func22, Tryz.ntmps22
    go_wp2_with fail
    go_ret
    exact ⟨false, rfl, by simp only [Bool.false_eq_true, false_iff]; exact NN.out, new (new (same w) _) _⟩
  have q4t : ((M.fns.n : Int) != (O.fns.n : Int)) = false := by simp [q4]
  have n4 := hid q4
  clear q4
  have x1 := hs.ext
  have x2 := hs.glo
  have x3 := hs.tab
  have x4 := hs.fns
  have HS := hid hs
  go_enter Tryz.func22, Tryz.ntmps22
  go_wp2_with fail
  have hb0 := new (new (same w) (.cells (mcells M) 27)) (.cells (mcells O) 27)
  have HM := hid (hM0.on hb0)
  have HO := hid (hO0.on hb0)
  have BW := hid hb0
  have p0 : ((w.alloc (.cells (mcells M) 27)).alloc (.cells (mcells O) 27)).cell? ⟨w.heap.size, 0, none⟩ = some (.slice M.ext.a M.ext.n M.ext.c) := by simp [World.cell?_alloc_old]
  have p1 : ((w.alloc (.cells (mcells M) 27)).alloc (.cells (mcells O) 27)).cell? ⟨w.heap.size, 1, none⟩ = some (.slice M.glo.a M.glo.n M.glo.c) := by simp [World.cell?_alloc_old]
  have p2 : ((w.alloc (.cells (mcells M) 27)).alloc (.cells (mcells O) 27)).cell? ⟨w.heap.size, 2, none⟩ = some (.slice M.tab.a M.tab.n M.tab.c) := by simp [World.cell?_alloc_old]
  have p3 : ((w.alloc (.cells (mcells M) 27)).alloc (.cells (mcells O) 27)).cell? ⟨w.heap.size, 3, none⟩ = some (.slice M.fns.a M.fns.n M.fns.c) := by simp [World.cell?_alloc_old]
  have r0 : ((w.alloc (.cells (mcells M) 27)).alloc (.cells (mcells O) 27)).cell? ⟨w.heap.size + 1, 0, none⟩ = some (.slice O.ext.a O.ext.n O.ext.c) := by simp
  have r1 : ((w.alloc (.cells (mcells M) 27)).alloc (.cells (mcells O) 27)).cell? ⟨w.heap.size + 1, 1, none⟩ = some (.slice O.glo.a O.glo.n O.glo.c) := by simp
  have r2 : ((w.alloc (.cells (mcells M) 27)).alloc (.cells (mcells O) 27)).cell? ⟨w.heap.size + 1, 2, none⟩ = some (.slice O.tab.a O.tab.n O.tab.c) := by simp
  have r3 : ((w.alloc (.cells (mcells M) 27)).alloc (.cells (mcells O) 27)).cell? ⟨w.heap.size + 1, 3, none⟩ = some (.slice O.fns.a O.fns.n O.fns.c) := by simp
  obtain ⟨W, hW⟩ : ∃ W, (w.alloc (.cells (mcells M) 27)).alloc (.cells (mcells O) 27) = W := ⟨_, rfl⟩
  rw [hW] at HM HO BW p0 p1 p2 p3 r0 r1 r2 r3 ⊢
  clear hW hb0 hM0 hO0 hs
  have m0 := fun wx h => cell_on (w' := wx) h p0
  have m1 := fun wx h => cell_on (w' := wx) h p1
  have m2 := fun wx h => cell_on (w' := wx) h p2
  have m3 := fun wx h => cell_on (w' := wx) h p3
  have o0 := fun wx h => cell_on (w' := wx) h r0
  have o1 := fun wx h => cell_on (w' := wx) h r1
  have o2 := fun wx h => cell_on (w' := wx) h r2
  have o3 := fun wx h => cell_on (w' := wx) h r3
  clear p0 p1 p2 p3 r0 r1 r2 r3
  have hb : Below W.heap.size W W := same W
  go_loopw [5] (fun i wr => ∃ k : Nat, k ≤ M.ext.n ∧ i = .int .i64 k ∧ (∀ i, i < k → EqE (M.E i) (O.E i) (M.EP i) (O.EP i)) ∧ Below W.heap.size W wr) (fun i _ => M.ext.n - (intOf i).toNat)
  case atStart => exact ⟨0, Nat.zero_le _, rfl, fun i hi => by omega, hb⟩
  case round =>
    clear hb
    obtain ⟨k, hk, rfl, hall, hb⟩ := hrel
    have HA5 := hid hall
    clear hall
    by_cases hlt : k < M.ext.n
    · have hlt' : k < O.ext.n := by have := n1.out; omega
      obtain ⟨b, o, hix, c0, c1, c2⟩ := (HM.out.on hb).ext.at underlying22 size54 hlt
      obtain ⟨b', o', hix', d0, d1, d2⟩ := (HO.out.on hb).ext.at underlying22 size54 hlt'
      have m0' := m0 wr hb
      have o0' := o0 wr hb
      by_cases e0 : (M.E k).name.toList = (O.E k).name.toList
      case neg =>
        have e0t : ((M.E k).name.toList == (O.E k).name.toList) = false := by simp [e0]
        have NN := hid (show ¬ EqM M O from fun h => e0 ((h.ext.2 k hlt).1))
        clear e0
        go_wp2_with fail
        go_quiet (fail)
        have hbz := below_drewN hb nq
        go_wp2_with fail
        go_ret
        exact ⟨false, rfl, by simp only [Bool.false_eq_true, false_iff]; exact NN.out, more BW.out hbz⟩
      have e0t : ((M.E k).name.toList == (O.E k).name.toList) = true := by simp [e0]
      have e0h := hid e0
      clear e0
      by_cases e1 : (M.E k).res = (O.E k).res
      case neg =>
        have e1t : ((M.E k).res != (O.E k).res) = true := by simp [e1]
        have NN := hid (show ¬ EqM M O from fun h => e1 ((h.ext.2 k hlt).2.1))
        clear e1
        go_wp2_with fail
        go_quiet (fail)
        have hbz := below_drewN hb nq
        go_wp2_with fail
        go_ret
        exact ⟨false, rfl, by simp only [Bool.false_eq_true, false_iff]; exact NN.out, more BW.out hbz⟩
      have e1t : ((M.E k).res != (O.E k).res) = false := by simp [e1]
      have e1h := hid e1
      clear e1
      by_cases ex : Eqs (M.E k).par (O.E k).par (M.EP k) (O.EP k)
      case neg =>
        have NN := hid (show ¬ EqM M O from fun h => ex ((h.ext.2 k hlt).2.2))
        have EX := hid ex
        clear ex
        go_wp2_with fail
        go_quiet (first | (go_at_call 51; refine Calls.quiet_of (ints_no (M.E k).par (O.E k).par (M.EP k) (O.EP k) _ ((HM.out.extP k hlt).on (below_drewN hb _)) ((HO.out.extP k hlt').on (below_drewN hb _)) (by have := (HS.out.extI k hlt).2; omega) EX.out)))
        have hbz := below_drewN hb nq
        go_wp2_with fail
        go_ret
        exact ⟨false, rfl, by simp only [Bool.false_eq_true, false_iff]; exact NN.out, more BW.out hbz⟩
      have EX := hid ex
      clear ex
      go_wp2_with fail
      go_quiet (first | (go_at_call 51; refine Calls.quiet_of (ints_yes (M.E k).par (O.E k).par (M.EP k) (O.EP k) _ ((HM.out.extP k hlt).on (below_drewN hb _)) ((HO.out.extP k hlt').on (below_drewN hb _)) (by have := (HS.out.extI k hlt).2; omega) EX.out)))
      have hbz := hid (below_drewN hb nq)
      go_wp2_with fail
      go_round
      case rel => exact ⟨k + 1, by omega, by go_num, upto HA5.out (⟨e0h.out, e1h.out, EX.out⟩), hbz.out⟩
      case measure => simp [intOf]; omega
    · obtain rfl : k = M.ext.n := by omega
      clear hlt
      go_wp2_with fail
      go_loopw [6] (fun i wr => ∃ k : Nat, k ≤ M.glo.n ∧ i = .int .i64 k ∧ (∀ i, i < k → EqG (M.G i) (O.G i) (M.GC i) (O.GC i)) ∧ Below W.heap.size W wr) (fun i _ => M.glo.n - (intOf i).toNat)
      case atStart => exact ⟨0, Nat.zero_le _, rfl, fun i hi => by omega, hb⟩
      case round =>
        clear hb
        obtain ⟨k, hk, rfl, hall, hb⟩ := hrel
        have HA6 := hid hall
        clear hall
        by_cases hlt : k < M.glo.n
        · have hlt' : k < O.glo.n := by have := n2.out; omega
          obtain ⟨b, o, hix, c0, c1⟩ := (HM.out.on hb).glo.at underlying23 size47 hlt
          obtain ⟨b', o', hix', d0, d1⟩ := (HO.out.on hb).glo.at underlying23 size47 hlt'
          have m0' := m1 wr hb
          have o0' := o1 wr hb
          by_cases e0 : (M.G k).name.toList = (O.G k).name.toList
          case neg =>
            have e0t : ((M.G k).name.toList == (O.G k).name.toList) = false := by simp [e0]
            have NN := hid (show ¬ EqM M O from fun h => e0 ((h.glo.2 k hlt).1))
            clear e0
            go_wp2_with fail
            go_quiet (fail)
            have hbz := below_drewN hb nq
            go_wp2_with fail
            go_ret
            exact ⟨false, rfl, by simp only [Bool.false_eq_true, false_iff]; exact NN.out, more BW.out hbz⟩
          have e0t : ((M.G k).name.toList == (O.G k).name.toList) = true := by simp [e0]
          have e0h := hid e0
          clear e0
          by_cases ex : Eqs (M.G k).cel (O.G k).cel (M.GC k) (O.GC k)
          case neg =>
            have NN := hid (show ¬ EqM M O from fun h => ex ((h.glo.2 k hlt).2))
            have EX := hid ex
            clear ex
            go_wp2_with fail
            go_quiet (first | (go_at_call 52; refine Calls.quiet_of (longs_no (M.G k).cel (O.G k).cel (M.GC k) (O.GC k) _ ((HM.out.gloC k hlt).on (below_drewN hb _)) ((HO.out.gloC k hlt').on (below_drewN hb _)) (by have := (HS.out.gloI k hlt).2; omega) EX.out)))
            have hbz := below_drewN hb nq
            go_wp2_with fail
            go_ret
            exact ⟨false, rfl, by simp only [Bool.false_eq_true, false_iff]; exact NN.out, more BW.out hbz⟩
          have EX := hid ex
          clear ex
          go_wp2_with fail
          go_quiet (first | (go_at_call 52; refine Calls.quiet_of (longs_yes (M.G k).cel (O.G k).cel (M.GC k) (O.GC k) _ ((HM.out.gloC k hlt).on (below_drewN hb _)) ((HO.out.gloC k hlt').on (below_drewN hb _)) (by have := (HS.out.gloI k hlt).2; omega) EX.out)))
          have hbz := hid (below_drewN hb nq)
          go_wp2_with fail
          go_round
          case rel => exact ⟨k + 1, by omega, by go_num, upto HA6.out (⟨e0h.out, EX.out⟩), hbz.out⟩
          case measure => simp [intOf]; omega
        · obtain rfl : k = M.glo.n := by omega
          clear hlt
          go_wp2_with fail
          go_loopw [7] (fun i wr => ∃ k : Nat, k ≤ M.tab.n ∧ i = .int .i64 k ∧ (∀ i, i < k → EqG (M.T i) (O.T i) (M.TF i) (O.TF i)) ∧ Below W.heap.size W wr) (fun i _ => M.tab.n - (intOf i).toNat)
          case atStart => exact ⟨0, Nat.zero_le _, rfl, fun i hi => by omega, hb⟩
          case round =>
            clear hb
            obtain ⟨k, hk, rfl, hall, hb⟩ := hrel
            have HA7 := hid hall
            clear hall
            by_cases hlt : k < M.tab.n
            · have hlt' : k < O.tab.n := by have := n3.out; omega
              obtain ⟨b, o, hix, c0, c1⟩ := (HM.out.on hb).tab.at underlying24 size49 hlt
              obtain ⟨b', o', hix', d0, d1⟩ := (HO.out.on hb).tab.at underlying24 size49 hlt'
              have m0' := m2 wr hb
              have o0' := o2 wr hb
              by_cases e0 : (M.T k).name.toList = (O.T k).name.toList
              case neg =>
                have e0t : ((M.T k).name.toList == (O.T k).name.toList) = false := by simp [e0]
                have NN := hid (show ¬ EqM M O from fun h => e0 ((h.tab.2 k hlt).1))
                clear e0
                go_wp2_with fail
                go_quiet (fail)
                have hbz := below_drewN hb nq
                go_wp2_with fail
                go_ret
                exact ⟨false, rfl, by simp only [Bool.false_eq_true, false_iff]; exact NN.out, more BW.out hbz⟩
              have e0t : ((M.T k).name.toList == (O.T k).name.toList) = true := by simp [e0]
              have e0h := hid e0
              clear e0
              by_cases ex : Eqs (M.T k).cel (O.T k).cel (M.TF k) (O.TF k)
              case neg =>
                have NN := hid (show ¬ EqM M O from fun h => ex ((h.tab.2 k hlt).2))
                have EX := hid ex
                clear ex
                go_wp2_with fail
                go_quiet (first | (go_at_call 51; refine Calls.quiet_of (ints_no (M.T k).cel (O.T k).cel (M.TF k) (O.TF k) _ ((HM.out.tabF k hlt).on (below_drewN hb _)) ((HO.out.tabF k hlt').on (below_drewN hb _)) (by have := (HS.out.tabI k hlt).2; omega) EX.out)))
                have hbz := below_drewN hb nq
                go_wp2_with fail
                go_ret
                exact ⟨false, rfl, by simp only [Bool.false_eq_true, false_iff]; exact NN.out, more BW.out hbz⟩
              have EX := hid ex
              clear ex
              go_wp2_with fail
              go_quiet (first | (go_at_call 51; refine Calls.quiet_of (ints_yes (M.T k).cel (O.T k).cel (M.TF k) (O.TF k) _ ((HM.out.tabF k hlt).on (below_drewN hb _)) ((HO.out.tabF k hlt').on (below_drewN hb _)) (by have := (HS.out.tabI k hlt).2; omega) EX.out)))
              have hbz := hid (below_drewN hb nq)
              go_wp2_with fail
              go_round
              case rel => exact ⟨k + 1, by omega, by go_num, upto HA7.out (⟨e0h.out, EX.out⟩), hbz.out⟩
              case measure => simp [intOf]; omega
            · obtain rfl : k = M.tab.n := by omega
              clear hlt
              go_wp2_with fail
              go_loopw [8] (fun i wr => ∃ k : Nat, k ≤ M.fns.n ∧ i = .int .i64 k ∧ (∀ i, i < k → EqF (M.F i) (O.F i)) ∧ Below W.heap.size W wr) (fun i _ => M.fns.n - (intOf i).toNat)
              case atStart => exact ⟨0, Nat.zero_le _, rfl, fun i hi => by omega, hb⟩
              case round =>
                clear hb
                obtain ⟨k, hk, rfl, hall, hb⟩ := hrel
                have HA8 := hid hall
                clear hall
                by_cases hlt : k < M.fns.n
                · have hlt' : k < O.fns.n := by have := n4.out; omega
                  obtain ⟨b, o, hix, c0, c1, c2, c3, c4⟩ := (HM.out.on hb).fns.at underlying25 size36 hlt
                  obtain ⟨b', o', hix', d0, d1, d2, d3, d4⟩ := (HO.out.on hb).fns.at underlying25 size36 hlt'
                  have m0' := m3 wr hb
                  have o0' := o3 wr hb
                  go_wp2_with fail
                  have HC := hid (same_ans (M.F k) (O.F k) wr.drew ((HM.out.fnI k hlt).on hb.drew) ((HO.out.fnI k hlt').on hb.drew) (HS.out.light k hlt))
                  go_region_with (go_at_call 53; refine HC.out.mono ?_; rintro e wz ⟨r, rfl, hr, hbx⟩)
                  all_goals
                    have hbz := hid (more hb.drew hbx)
                    clear hbx HC
                    cases r
                    · have NN := hid (show ¬ EqM M O from fun h => absurd (hr.2 (h.fns.2 k hlt)) (by simp))
                      clear hr
                      go_wp2_with fail
                      go_ret
                      exact ⟨false, rfl, by simp only [Bool.false_eq_true, false_iff]; exact NN.out, more BW.out hbz.out⟩
                    have HR := hid (hr.1 rfl)
                    clear hr
                    go_wp2_with fail
                    go_round
                    case rel => exact ⟨k + 1, by omega, by go_num, upto HA8.out HR.out, hbz.out⟩
                    case measure => simp [intOf]; omega
                · obtain rfl : k = M.fns.n := by omega
                  clear hlt
                  go_wp2_with fail
                  go_ret
                  exact ⟨true, rfl, by simp only [true_iff]; exact ⟨⟨n1.out, HA5.out⟩, ⟨n2.out, HA6.out⟩, ⟨n3.out, HA7.out⟩, ⟨n4.out, HA8.out⟩⟩, more BW.out hb⟩

end Go.Proofs.YtnodofbpogcheaaGreat.Mod
