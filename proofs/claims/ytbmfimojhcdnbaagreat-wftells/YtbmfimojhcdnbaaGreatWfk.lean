/-
  wf: what a Sym names.
-/
import Derived.Test.YtbmfimojhcdnbaaGreatJ12
import Derived.Test.YtbmfimojhcdnbaaGreatChkS
namespace Go.Proofs.YtbmfimojhcdnbaaGreat.Wf
open Go.RowKit View Rd Num Opn Copy Srt Go.Proofs.YtbmfimojhcdnbaaGreat.Mod Go.Proofs.YtbmfimojhcdnbaaGreat.Chk

set_option linter.unusedVariables false

def plB (a b : Int) : Bool := decide (0 ≤ a) && decide (a < b)

theorem isPlace_any (a b : Int) (w : World) : Calls Tryz.prog 52 #[.int .i64 a, .int .i64 b] w fun e w' => e = .returned (.bool (plB a b)) ∧ w' = w := by
  by_cases h1 : 0 ≤ a
  all_goals
    by_cases h2 : a < b
    all_goals
      go_enter Tryz.func52, Tryz.ntmps52
      go_wp2
      go_ret
      exact ⟨congrArg (fun b => Ending.returned (.bool b)) (show _ = plB a b by simp [plB]; try omega), rfl⟩

theorem plB_iff {a b : Int} : plB a b = true ↔ 0 ≤ a ∧ a < b := by simp [plB]
theorem plB_not {a b : Int} : plB a b = false ↔ ¬ (0 ≤ a ∧ a < b) := by rw [← plB_iff]; simp

/-- The module's cells lie at c. -/
structure MBox (M : MV) (w : World) (c : Addr) : Prop where
  c0 : w.cell? ⟨c.block, c.off, none⟩ = some (.slice M.ext.a M.ext.n M.ext.c)
  c1 : w.cell? ⟨c.block, c.off + 1, none⟩ = some (.slice M.glo.a M.glo.n M.glo.c)
  c2 : w.cell? ⟨c.block, c.off + 2, none⟩ = some (.slice M.tab.a M.tab.n M.tab.c)
  c3 : w.cell? ⟨c.block, c.off + 3, none⟩ = some (.slice M.fns.a M.fns.n M.fns.c)

theorem MBox.on {M : MV} {w w' : World} {c : Addr} (hb : Below w.heap.size w w') (h : MBox M w c) : MBox M w' c := ⟨cell_on hb h.c0, cell_on hb h.c1, cell_on hb h.c2, cell_on hb h.c3⟩

theorem ansNot {w w' : World} {q : Prop} (b : Bool) (hb : b = true ↔ q) (lo : Below w.heap.size w w') : Ans (fun r => r = true ↔ ¬ q) w (.returned (.bool !b)) w' :=
  ⟨!b, rfl, by cases b <;> simp_all, lo⟩

theorem symi_any (M : MV) (b : Nat) (x : Int) (w : World) (hm : MBox M w ⟨b, 0, none⟩) : Calls Tryz.prog 51 #[.int .i64 x, .pointer (some ⟨b, 0, none⟩)] w fun e w' => Ans (fun r => r = true ↔ ¬ (-1 ≤ x ∧ x < M.fns.n)) w e w' := by
  have c3 : w.cell? ⟨b, 3, none⟩ = some (.slice M.fns.a M.fns.n M.fns.c) := by have := hm.c3; simpa using this
  by_cases h1 : x = -1
  · have t1 : (x != -1) = false := by simpa using h1
    have HX := hid h1
    clear h1 hm
    go_enter Tryz.func51, Tryz.ntmps51
    go_wp2_with fail
    go_ret
    exact ⟨false, rfl, by have := HX.out; simp; omega, same w⟩
  · have t1 : (x != -1) = true := by simpa using h1
    have HX := hid h1
    clear h1 hm
    go_enter Tryz.func51, Tryz.ntmps51
    go_wp2_with (go_at_call 52; refine (isPlace_any _ _ _).mono ?_; rintro e w1 ⟨rfl, hw1⟩; rw [hw1]; clear hw1; cases hp : plB x M.fns.n)
    all_goals
      go_ret
      refine ⟨_, rfl, ?_, same w⟩
      have hq := HX.out
      first
        | rw [plB_iff] at hp; simp; omega
        | rw [plB_not] at hp; simp; omega

theorem form_sym {v : IV} (h : formB v = true) (h2 : v.op ≠ 2) (h3 : v.op ≠ 3) (h22 : v.op ≠ 22) (h23 : v.op ≠ 23) (h24 : v.op ≠ 24) : v.sym = 0 := by
  unfold formB at h
  simp only [Bool.and_eq_true, Bool.or_eq_true, decide_eq_true_eq] at h
  obtain ⟨⟨⟨⟨⟨_, hs⟩, _⟩, _⟩, _⟩, _⟩ := h
  have hm : (mk v.op).s = false := by
    unfold mk
    repeat' split
    all_goals first
      | rfl
      | omega
  rcases hs with hs | hs
  · rw [hm] at hs; cases hs
  · exact hs

set_option maxHeartbeats 2000000 in
theorem insSym_any (M : MV) (v : IV) (w : World) (hf : formB v = true) : Calls Tryz.prog 55 #[M.val, v.val] w fun e w' => Ans (fun r => r = true ↔ ¬ SymI M v) w e w' := by
  have hlow := hid (show ∀ o1 o2, Below w.heap.size w ((w.alloc o1).alloc o2) from fun o1 o2 => new (new (same w) _) _)
  by_cases h2 : v.op = 2
  · have HN := hid (show symN M v.op = M.fns.n by simp [symN, h2])
    have t1 : (v.op == 2) = true := by simpa using h2
    clear h2 hf
    go_enter Tryz.func55, Tryz.ntmps55
    go_wp2_with (go_at_call 52; refine (isPlace_any _ _ _).mono ?_; rintro e w1 ⟨rfl, hw1⟩; rw [hw1]; clear hw1; cases hp : plB v.sym M.fns.n)
    all_goals
      go_ret
      refine ⟨_, rfl, ?_, hlow.out _ _⟩
      have hn := HN.out
      unfold SymI
      rw [hn]
      first
        | rw [plB_iff] at hp; simp [hp]
        | rw [plB_not] at hp; simpa using hp
  have t2 : (v.op == 2) = false := by rw [beq_eq_false_iff_ne]; exact h2
  by_cases h22 : v.op = 22
  · have HN := hid (show symN M v.op = M.fns.n by simp [symN, h22])
    have t1 : (v.op == 22) = true := by simpa using h22
    clear h2 h22 hf
    go_enter Tryz.func55, Tryz.ntmps55
    go_wp2_with (go_at_call 52; refine (isPlace_any _ _ _).mono ?_; rintro e w1 ⟨rfl, hw1⟩; rw [hw1]; clear hw1; cases hp : plB v.sym M.fns.n)
    all_goals
      go_ret
      refine ⟨_, rfl, ?_, hlow.out _ _⟩
      have hn := HN.out
      unfold SymI
      rw [hn]
      first
        | rw [plB_iff] at hp; simp [hp]
        | rw [plB_not] at hp; simpa using hp
  have t22 : (v.op == 22) = false := by rw [beq_eq_false_iff_ne]; exact h22
  by_cases h3 : v.op = 3
  · have HN := hid (show symN M v.op = M.glo.n by simp [symN, h3])
    have t1 : (v.op == 3) = true := by simpa using h3
    clear h2 h22 h3 hf
    go_enter Tryz.func55, Tryz.ntmps55
    go_wp2_with (go_at_call 52; refine (isPlace_any _ _ _).mono ?_; rintro e w1 ⟨rfl, hw1⟩; rw [hw1]; clear hw1; cases hp : plB v.sym M.glo.n)
    all_goals
      go_ret
      refine ⟨_, rfl, ?_, hlow.out _ _⟩
      have hn := HN.out
      unfold SymI
      rw [hn]
      first
        | rw [plB_iff] at hp; simp [hp]
        | rw [plB_not] at hp; simpa using hp
  have t3 : (v.op == 3) = false := by rw [beq_eq_false_iff_ne]; exact h3
  by_cases h23 : v.op = 23
  · have HN := hid (show symN M v.op = M.ext.n by simp [symN, h23])
    have t1 : (v.op == 23) = true := by simpa using h23
    clear h2 h22 h3 h23 hf
    go_enter Tryz.func55, Tryz.ntmps55
    go_wp2_with (go_at_call 52; refine (isPlace_any _ _ _).mono ?_; rintro e w1 ⟨rfl, hw1⟩; rw [hw1]; clear hw1; cases hp : plB v.sym M.ext.n)
    all_goals
      go_ret
      refine ⟨_, rfl, ?_, hlow.out _ _⟩
      have hn := HN.out
      unfold SymI
      rw [hn]
      first
        | rw [plB_iff] at hp; simp [hp]
        | rw [plB_not] at hp; simpa using hp
  have t23 : (v.op == 23) = false := by rw [beq_eq_false_iff_ne]; exact h23
  by_cases h24 : v.op = 24
  · have HN := hid (show symN M v.op = M.tab.n by simp [symN, h24])
    have t1 : (v.op == 24) = true := by simpa using h24
    clear h2 h22 h3 h23 h24 hf
    go_enter Tryz.func55, Tryz.ntmps55
    go_wp2_with (go_at_call 52; refine (isPlace_any _ _ _).mono ?_; rintro e w1 ⟨rfl, hw1⟩; rw [hw1]; clear hw1; cases hp : plB v.sym M.tab.n)
    all_goals
      go_ret
      refine ⟨_, rfl, ?_, hlow.out _ _⟩
      have hn := HN.out
      unfold SymI
      rw [hn]
      first
        | rw [plB_iff] at hp; simp [hp]
        | rw [plB_not] at hp; simpa using hp
  have t24 : (v.op == 24) = false := by rw [beq_eq_false_iff_ne]; exact h24
  have HS := hid (show SymI M v from by
    have hs0 := form_sym hf h2 h3 h22 h23 h24
    unfold SymI symN
    rw [if_neg (by omega), if_neg h3, if_neg h23, if_neg h24, hs0]
    omega)
  clear h2 h22 h3 h23 h24 hf
  go_enter Tryz.func55, Tryz.ntmps55
  go_wp2_with fail
  go_ret
  exact ⟨false, rfl, by have := HS.out; simp; exact this, hlow.out _ _⟩

theorem symI_any (M : MV) (b : Nat) (v : IV) (w : World) (hm : MBox M w ⟨b, 0, none⟩) (hf : formB v = true) : Calls Tryz.prog 54 #[v.val, .pointer (some ⟨b, 0, none⟩)] w fun e w' => Ans (fun r => r = true ↔ ¬ SymI M v) w e w' := by
  have c0 : w.cell? ⟨b, 0, none⟩ = some (.slice M.ext.a M.ext.n M.ext.c) := by have := hm.c0; simpa using this
  have c1 : w.cell? ⟨b, 1, none⟩ = some (.slice M.glo.a M.glo.n M.glo.c) := by have := hm.c1; simpa using this
  have c2 : w.cell? ⟨b, 2, none⟩ = some (.slice M.tab.a M.tab.n M.tab.c) := by have := hm.c2; simpa using this
  have c3 : w.cell? ⟨b, 3, none⟩ = some (.slice M.fns.a M.fns.n M.fns.c) := by have := hm.c3; simpa using this
  have hbl : b < w.heap.size := World.block_lt_of_cell? _ _ c0
  clear hm
  go_enter Tryz.func54, Tryz.ntmps54
  go_wp2_with (go_at_call 55; refine (insSym_any M v _ hf).mono ?_; rintro e w1 ⟨r, rfl, hr, hb⟩; have HR := hid hr; have HB := hid hb; clear hr hb)
  go_ret
  exact ⟨r, rfl, HR.out, View.more (new (same w) _) HB.out⟩

set_option maxRecDepth 10000 in
set_option maxHeartbeats 4000000 in
theorem symFault_any (M : MV) (w : World) (hM : InM w M) (hs : SmallM M) (hF : FormM M) : Calls Tryz.prog 25 #[M.val] w fun e w' => Ans (fun r => r = true ↔ ¬ SymM M) w e w' := by
  have x1 := hs.ext
  have x2 := hs.glo
  have x3 := hs.tab
  have x4 := hs.fns
  obtain ⟨W, hW⟩ : ∃ W, w.alloc (.cells (mcells M) 27) = W := ⟨_, rfl⟩
  have BX := hid (show MBox M W ⟨w.heap.size, 0, none⟩ by rw [← hW]; constructor <;> simp)
  have b2 : W.cell? ⟨w.heap.size, 2, none⟩ = some (.slice M.tab.a M.tab.n M.tab.c) := by have := BX.out.c2; simpa using this
  have HM := hid (show InM W M by rw [← hW]; exact hM.on (new (same w) _))
  have LW := hid (show Below w.heap.size w W by rw [← hW]; exact new (same w) _)
  have HS := hid hs
  have HF := hid hF
  have HWW := hid hW
  clear hM hs hF hW
  go_enter Tryz.func25, Tryz.ntmps25
  go_wp2_with fail
  simp only [HWW.out]
  clear HWW
  go_loopw [15] (fun iv wr => ∃ i : Nat, i ≤ M.tab.n ∧ iv = .int .i64 i ∧ (∀ t, t < i → ∀ k, k < (M.T t).cel.n → -1 ≤ M.TF t k ∧ M.TF t k < M.fns.n) ∧ Below W.heap.size W wr) (fun iv _ => M.tab.n - (intOf iv).toNat)
  case atStart => exact ⟨0, Nat.zero_le _, rfl, fun t ht => by omega, same _⟩
  case round =>
    obtain ⟨i, hi, rfl, hall, hb⟩ := hrel
    have HA := hid (And.intro hall hb)
    have b2 : wr.cell? ⟨w.heap.size, 2, none⟩ = some (.slice M.tab.a M.tab.n M.tab.c) := by have := (BX.out.on hb).c2; simpa using this
    by_cases li : i < M.tab.n
    · obtain ⟨rb, ro, hrx, hrA⟩ := HM.out.tab.at underlying24 size55 li
      have r0 := cell_on hb hrA.c0
      have r1 := cell_on hb hrA.c1
      have gr := (HS.out.tabI i li).2
      clear hrA hall hb
      go_wp2_with fail
      refine (has_symi (M.T i).cel (M.TF i) (fun k => ¬ (-1 ≤ M.TF i k ∧ M.TF i k < M.fns.n)) ⟨w.heap.size, 0, none⟩ _ (by omega) (fun wx h => (HM.out.tabF i li).on (View.more (View.more HA.out.2 (new (same wr) _)) h)) (fun k hk wx h => symi_any M _ _ wx (BX.out.on (View.more (View.more HA.out.2 (new (same wr) _)) h)))).mono ?_
      rintro e w1 ⟨r, rfl, hr, hb⟩
      have B1 := hid (View.more (View.more HA.out.2 (new (same wr) _)) hb)
      have R := hid hr
      clear hr hb
      cases r with
      | true =>
        have D := hid (show ¬ SymM M from fun h => by obtain ⟨k, h1, h2⟩ := R.out.1 rfl; exact h2 (h.tab i li k h1))
        go_wp2_with fail
        go_ret
        exact ⟨true, rfl, ⟨fun _ => D.out, fun _ => rfl⟩, View.more LW.out B1.out⟩
      | false =>
        have P1 := hid (show ∀ k, k < (M.T i).cel.n → -1 ≤ M.TF i k ∧ M.TF i k < M.fns.n from fun k hk => by
          by_cases q : -1 ≤ M.TF i k ∧ M.TF i k < M.fns.n
          · exact q
          · exact absurd (R.out.2 ⟨k, hk, q⟩) (by simp))
        clear R
        go_wp2_with fail
        go_round
        case rel => exact ⟨i + 1, by omega, by go_num, upto2 (p := fun t => ∀ k, k < (M.T t).cel.n → -1 ≤ M.TF t k ∧ M.TF t k < M.fns.n) HA.out.1 P1.out, B1.out⟩
        case measure => simp [intOf]; omega
    · obtain rfl : i = M.tab.n := by omega
      have m3 : wr.cell? ⟨w.heap.size, 3, none⟩ = some (.slice M.fns.a M.fns.n M.fns.c) := by have := (BX.out.on hb).c3; simpa using this
      clear hall hb
      go_wp2_with fail
      clear b2 m3
      go_loopw [28] (fun iv wr => ∃ i : Nat, i ≤ M.fns.n ∧ iv = .int .i64 i ∧ (∀ t, t < i → ∀ j, j < (M.F t).blk.n → ∀ k, k < ((M.F t).B j).n → SymI M ((M.F t).I j k)) ∧ Below W.heap.size W wr) (fun iv _ => M.fns.n - (intOf iv).toNat)
      case atStart => exact ⟨0, Nat.zero_le _, rfl, fun t ht => by omega, HA.out.2⟩
      case round =>
        have HX := hid HA.out.1
        clear HA
        obtain ⟨i, hi, rfl, hall, hb⟩ := hrel
        have HA := hid (And.intro hall hb)
        have m3 : wr.cell? ⟨w.heap.size, 3, none⟩ = some (.slice M.fns.a M.fns.n M.fns.c) := by have := (BX.out.on hb).c3; simpa using this
        by_cases li : i < M.fns.n
        · obtain ⟨fb, fo, hfx, hFA⟩ := HM.out.fns.at underlying25 size43 li
          have F4 := hid hFA.c4
          obtain ⟨f0, f1, f2, f3, f4⟩ := hFA.on hb
          have LF := hid (HS.out.light i li)
          have gb := LF.out.blk
          clear hFA hall hb
          go_wp2_with fail
          clear m3 f0 f1 f2 f3 f4
          go_loopw [35] (fun iv wx => ∃ j : Nat, j ≤ (M.F i).blk.n ∧ iv = .int .i64 j ∧ (∀ t, t < j → ∀ k, k < ((M.F i).B t).n → SymI M ((M.F i).I t k)) ∧ Below W.heap.size W wx) (fun iv _ => (M.F i).blk.n - (intOf iv).toNat)
          case atStart => exact ⟨0, Nat.zero_le _, rfl, fun t ht => by omega, View.more HA.out.2 (new (same wr) _)⟩
          case round =>
            obtain ⟨j, hj, rfl, hall, hb⟩ := hrel
            have HJ := hid (And.intro hall hb)
            by_cases lj : j < (M.F i).blk.n
            · obtain ⟨bb, bo, hbx, hbc0⟩ := (HM.out.fnI i li).blk.at lj
              have hbc := cell_on hb hbc0
              have gi := LF.out.ins j lj
              clear hbc0 hall hb
              go_wp2_with fail
              refine (has_symI ((M.F i).B j) ((M.F i).I j) (fun k => ¬ SymI M ((M.F i).I j k)) ⟨w.heap.size, 0, none⟩ _ (by omega) (fun wx h => ((HM.out.fnI i li).ins j lj).on (View.more (View.more HJ.out.2 (new (same wr) _)) h)) (fun k hk wx h => symI_any M _ _ wx (BX.out.on (View.more (View.more HJ.out.2 (new (same wr) _)) h)) ((HF.out.fns i li).2.2 j lj k hk))).mono ?_
              rintro e w1 ⟨r, rfl, hr, hb⟩
              have B1 := hid (View.more (View.more HJ.out.2 (new (same wr) _)) hb)
              have R := hid hr
              clear hr hb
              cases r with
              | true =>
                have D := hid (show ¬ SymM M from fun h => by obtain ⟨k, h1, h2⟩ := R.out.1 rfl; exact h2 (h.ins i li j lj k h1))
                go_wp2_with fail
                go_ret
                exact ⟨true, rfl, ⟨fun _ => D.out, fun _ => rfl⟩, View.more LW.out B1.out⟩
              | false =>
                have P1 := hid (show ∀ k, k < ((M.F i).B j).n → SymI M ((M.F i).I j k) from fun k hk => by
                  by_cases q : SymI M ((M.F i).I j k)
                  · exact q
                  · exact absurd (R.out.2 ⟨k, hk, q⟩) (by simp))
                clear R
                go_wp2_with fail
                go_round
                case rel => exact ⟨j + 1, by omega, by go_num, upto2 (p := fun t => ∀ k, k < ((M.F i).B t).n → SymI M ((M.F i).I t k)) HJ.out.1 P1.out, B1.out⟩
                case measure => simp [intOf]; omega
            · obtain rfl : j = (M.F i).blk.n := by omega
              clear hall hb
              go_wp2_with fail
              go_round
              case rel =>
                have f := upto2 (p := fun t => ∀ j, j < (M.F t).blk.n → ∀ k, k < ((M.F t).B j).n → SymI M ((M.F t).I j k)) HA.out.1 HJ.out.1
                first
                  | exact ⟨i + 1, by omega, by go_num, f, HJ.out.2⟩
                  | ((repeat apply Exists.intro); exact ⟨⟨i + 1, by omega, by go_num, f, HJ.out.2⟩, rfl⟩)
              case measure => simp [intOf]; omega
        · obtain rfl : i = M.fns.n := by omega
          have HB := hid hb
          clear hall hb
          go_wp2_with fail
          go_ret
          exact ⟨false, rfl, ⟨fun h => absurd h (by simp), fun h => absurd ⟨HX.out, HA.out.1⟩ h⟩, View.more LW.out HB.out⟩

end Go.Proofs.YtbmfimojhcdnbaaGreat.Wf
