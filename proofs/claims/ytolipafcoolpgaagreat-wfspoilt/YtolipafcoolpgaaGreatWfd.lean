/-
  wf: what an instruction must have: mustGive, countFault, extraFault, giveFault.
-/
import Derived.Test.YtolipafcoolpgaaGreatWfb
import Derived.Test.YtolipafcoolpgaaGreatWfc
namespace Go.Proofs.YtolipafcoolpgaaGreat.Wf
open Go.RowKit View Rd Num Opn Copy Ty Srt Go.Proofs.YtolipafcoolpgaaGreat.Mod Chk

set_option linter.unusedVariables false

theorem mustGive_any (op : Int) (w : World) : Calls Tryz.prog 197 #[.int .i64 op] w fun e w' => e = .returned (.bool (mustB op)) ∧ w' = w := by
 have E := hid (show mustB op = (mayB op && (decide (op ≠ 22) && (decide (op ≠ 23) && decide (op ≠ 25)))) from rfl)
 go_enter Tryz.func197, Tryz.ntmps197
 go_wp2_with fail
 refine (mayGive_any op w).mono ?_
 rintro e w1 ⟨rfl, rfl⟩
 cases hq : mayB op with
 | false =>
  rw [hq] at E
  clear hq
  go_wp2_with fail
  go_ret
  exact ⟨by rw [E.out]; rfl, rfl⟩
 | true =>
  rw [hq] at E
  clear hq
  by_cases h2 : op = 22
  ·have t : (op != 22) = false := by simp [h2]
   have E2 := hid (show mustB op = false by rw [E.out]; simp [h2])
   clear h2
   go_wp2_with fail
   go_ret
   exact ⟨by rw [E2.out]; rfl, rfl⟩
  have t : (op != 22) = true := by simp [h2]
  by_cases h3 : op = 23
  ·have t3 : (op != 23) = false := by simp [h3]
   have E2 := hid (show mustB op = false by rw [E.out]; simp [h3])
   clear h2 h3
   go_wp2_with fail
   go_ret
   exact ⟨by rw [E2.out]; rfl, rfl⟩
  have t3 : (op != 23) = true := by simp [h3]
  have E2 := hid (show mustB op = (op != 25) by rw [E.out]; simp [h2, h3, bne]; rfl)
  clear h2 h3
  go_wp2_with fail
  go_ret
  exact ⟨by rw [E2.out]; rfl, rfl⟩

def CountG (v : IV) (m : Mk) : Prop :=
 if v.op = 26 then v.args.n < 1 ∨ (v.args.n : Int) ≠ (v.into.n : Int)
 else if v.op = 29 then 1 < v.args.n ∨ (v.into.n : Int) ≠ m.i
 else if v.op = 25 then ¬ (1 ≤ v.args.n ∧ v.args.n ≤ 6) ∨ (v.into.n : Int) ≠ m.i
 else if v.op = 22 ∨ v.op = 23 then 5 < v.args.n ∨ (v.into.n : Int) ≠ m.i
 else (v.args.n : Int) ≠ m.a ∨ (v.into.n : Int) ≠ m.i

theorem bne_iff (a b : Int) : (a != b) = true ↔ a ≠ b := by simp

set_option maxHeartbeats 4000000 in
theorem countFault_any (v : IV) (w : World) : Calls Tryz.prog 183 #[v.val] w fun e w' => Ans (fun r => r = true ↔ CountG v (mk v.op)) w e w' := by
 go_enter Tryz.func183, Tryz.ntmps183
 go_wp2_with fail
 refine (markW_any v.op _).mono ?_
 rintro e w1 ⟨rfl, rfl⟩
 obtain ⟨m, hm⟩ : ∃ m, mk v.op = m := ⟨_, rfl⟩
 rw [hm]
 have HM := hid hm
 clear hm
 by_cases h26 : v.op = 26
 ·have t26 : (v.op == 26) = true := by simp [h26]
  by_cases hc : v.args.n < 1
  ·have tc : decide ((v.args.n : Int) < 1) = true := by simp; omega
   have C := hid (show CountG v m by unfold CountG; rw [if_pos h26]; exact .inl hc)
   clear hc
   go_wp2_with fail
   go_ret
   refine ⟨true, rfl, ?_, new (same w) _⟩
   show true = true ↔ CountG v (mk v.op)
   rw [HM.out]
   simp [C.out]
  ·have tc : decide ((v.args.n : Int) < 1) = false := by simp; omega
   have C := hid (show CountG v m ↔ (v.args.n : Int) ≠ (v.into.n : Int) by unfold CountG; rw [if_pos h26]; exact ⟨fun h => by rcases h with h | h; exact absurd h hc; exact h, fun h => .inr h⟩)
   clear hc
   go_wp2_with fail
   go_ret
   refine ⟨(v.args.n : Int) != (v.into.n : Int), rfl, ?_, new (same w) _⟩
   show ((v.args.n : Int) != (v.into.n : Int)) = true ↔ CountG v (mk v.op)
   rw [HM.out, C.out, bne_iff]
 by_cases h29 : v.op = 29
 ·have t26 : (v.op == 26) = false := by simp [h26]
  have t29 : (v.op == 29) = true := by simp [h29]
  by_cases hc : 1 < v.args.n
  ·have tc : decide ((1 : Int) < v.args.n) = true := by simp; omega
   have C := hid (show CountG v m by unfold CountG; rw [if_neg h26, if_pos h29]; exact .inl hc)
   clear hc
   go_wp2_with fail
   go_ret
   refine ⟨true, rfl, ?_, new (same w) _⟩
   show true = true ↔ CountG v (mk v.op)
   rw [HM.out]
   simp [C.out]
  ·have tc : decide ((1 : Int) < v.args.n) = false := by simp; omega
   have C := hid (show CountG v m ↔ (v.into.n : Int) ≠ m.i by unfold CountG; rw [if_neg h26, if_pos h29]; exact ⟨fun h => by rcases h with h | h; exact absurd h hc; exact h, fun h => .inr h⟩)
   clear hc
   go_wp2_with fail
   go_ret
   refine ⟨(v.into.n : Int) != m.i, rfl, ?_, new (same w) _⟩
   show ((v.into.n : Int) != m.i) = true ↔ CountG v (mk v.op)
   rw [HM.out, C.out, bne_iff]
 by_cases h25 : v.op = 25
 ·have t26 : (v.op == 26) = false := by simp [h26]
  have t29 : (v.op == 29) = false := by simp [h29]
  have t25 : (v.op == 25) = true := by simp [h25]
  have H25 := hid h25
  clear h25
  go_wp2_with fail
  refine (isWithin_any _ _ _).mono ?_
  rintro e w2 ⟨rfl, hb2⟩
  have B2 := hid (View.more (new (same w) _) hb2)
  have I2 := hid ((InsAt.alloc w v).on hb2)
  obtain ⟨c0, c1, c2, c3, c4, c5, c6⟩ := I2.out
  clear hb2
  by_cases hc : 1 ≤ v.args.n ∧ v.args.n ≤ 6
  ·have tc : (decide ((1 : Int) ≤ v.args.n) && decide ((v.args.n : Int) ≤ 6)) = true := by simp; omega
   rw [tc]
   have C := hid (show CountG v m ↔ (v.into.n : Int) ≠ m.i by unfold CountG; rw [if_neg h26, if_neg h29, if_pos H25.out]; exact ⟨fun h => by rcases h with h | h; exact absurd hc h; exact h, fun h => .inr h⟩)
   clear hc tc
   go_wp2_with fail
   go_ret
   refine ⟨(v.into.n : Int) != m.i, rfl, ?_, B2.out⟩
   show ((v.into.n : Int) != m.i) = true ↔ CountG v (mk v.op)
   rw [HM.out, C.out, bne_iff]
  ·have tc : (decide ((1 : Int) ≤ v.args.n) && decide ((v.args.n : Int) ≤ 6)) = false := by simp; omega
   rw [tc]
   have C := hid (show CountG v m by unfold CountG; rw [if_neg h26, if_neg h29, if_pos H25.out]; exact .inl hc)
   clear hc tc
   go_wp2_with fail
   go_ret
   refine ⟨true, rfl, ?_, B2.out⟩
   show true = true ↔ CountG v (mk v.op)
   rw [HM.out]
   simp [C.out]
 by_cases h22 : v.op = 22
 ·have t26 : (v.op == 26) = false := by simp [h26]
  have t29 : (v.op == 29) = false := by simp [h29]
  have t25 : (v.op == 25) = false := by simp [h25]
  have t22 : (v.op == 22) = true := by simp [h22]
  by_cases hc : 5 < v.args.n
  ·have tc : decide ((5 : Int) < v.args.n) = true := by simp; omega
   have C := hid (show CountG v m by unfold CountG; rw [if_neg h26, if_neg h29, if_neg h25, if_pos (.inl h22)]; exact .inl hc)
   clear hc
   go_wp2_with fail
   go_ret
   refine ⟨true, rfl, ?_, new (same w) _⟩
   show true = true ↔ CountG v (mk v.op)
   rw [HM.out]
   simp [C.out]
  ·have tc : decide ((5 : Int) < v.args.n) = false := by simp; omega
   have C := hid (show CountG v m ↔ (v.into.n : Int) ≠ m.i by unfold CountG; rw [if_neg h26, if_neg h29, if_neg h25, if_pos (.inl h22)]; exact ⟨fun h => by rcases h with h | h; exact absurd h hc; exact h, fun h => .inr h⟩)
   clear hc
   go_wp2_with fail
   go_ret
   refine ⟨(v.into.n : Int) != m.i, rfl, ?_, new (same w) _⟩
   show ((v.into.n : Int) != m.i) = true ↔ CountG v (mk v.op)
   rw [HM.out, C.out, bne_iff]
 by_cases h23 : v.op = 23
 ·have t26 : (v.op == 26) = false := by simp [h26]
  have t29 : (v.op == 29) = false := by simp [h29]
  have t25 : (v.op == 25) = false := by simp [h25]
  have t22 : (v.op == 22) = false := by simp [h22]
  have t23 : (v.op == 23) = true := by simp [h23]
  by_cases hc : 5 < v.args.n
  ·have tc : decide ((5 : Int) < v.args.n) = true := by simp; omega
   have C := hid (show CountG v m by unfold CountG; rw [if_neg h26, if_neg h29, if_neg h25, if_pos (.inr h23)]; exact .inl hc)
   clear hc
   go_wp2_with fail
   go_ret
   refine ⟨true, rfl, ?_, new (same w) _⟩
   show true = true ↔ CountG v (mk v.op)
   rw [HM.out]
   simp [C.out]
  ·have tc : decide ((5 : Int) < v.args.n) = false := by simp; omega
   have C := hid (show CountG v m ↔ (v.into.n : Int) ≠ m.i by unfold CountG; rw [if_neg h26, if_neg h29, if_neg h25, if_pos (.inr h23)]; exact ⟨fun h => by rcases h with h | h; exact absurd h hc; exact h, fun h => .inr h⟩)
   clear hc
   go_wp2_with fail
   go_ret
   refine ⟨(v.into.n : Int) != m.i, rfl, ?_, new (same w) _⟩
   show ((v.into.n : Int) != m.i) = true ↔ CountG v (mk v.op)
   rw [HM.out, C.out, bne_iff]
 have t26 : (v.op == 26) = false := by simp [h26]
 have t29 : (v.op == 29) = false := by simp [h29]
 have t25 : (v.op == 25) = false := by simp [h25]
 have t22 : (v.op == 22) = false := by simp [h22]
 have t23 : (v.op == 23) = false := by simp [h23]
 by_cases hc : (v.args.n : Int) ≠ m.a
 ·have tc : ((v.args.n : Int) != m.a) = true := by simpa using hc
  have C := hid (show CountG v m by unfold CountG; rw [if_neg h26, if_neg h29, if_neg h25, if_neg (by omega)]; exact .inl hc)
  clear hc
  go_wp2_with fail
  go_ret
  refine ⟨true, rfl, ?_, new (same w) _⟩
  show true = true ↔ CountG v (mk v.op)
  rw [HM.out]
  simp [C.out]
 ·have tc : ((v.args.n : Int) != m.a) = false := by simpa using hc
  have C := hid (show CountG v m ↔ (v.into.n : Int) ≠ m.i by unfold CountG; rw [if_neg h26, if_neg h29, if_neg h25, if_neg (by omega)]; exact ⟨fun h => by rcases h with h | h; exact absurd h hc; exact h, fun h => .inr h⟩)
  clear hc
  go_wp2_with fail
  go_ret
  refine ⟨(v.into.n : Int) != m.i, rfl, ?_, new (same w) _⟩
  show ((v.into.n : Int) != m.i) = true ↔ CountG v (mk v.op)
  rw [HM.out, C.out, bne_iff]

def ExtraG (v : IV) (m : Mk) : Prop := (m.s = false ∧ v.sym ≠ 0) ∨ (m.n = false ∧ v.num ≠ 0) ∨ (v.op = 18 ∧ (v.num < 1 ∨ 16 < v.num))

set_option maxHeartbeats 8000000 in
theorem extraFault_any (v : IV) (w : World) : Calls Tryz.prog 184 #[v.val] w fun e w' => Ans (fun r => r = true ↔ ExtraG v (mk v.op)) w e w' := by
 go_enter Tryz.func184, Tryz.ntmps184
 go_wp2_with fail
 refine (markW_any v.op _).mono ?_
 rintro e w1 ⟨rfl, rfl⟩
 obtain ⟨⟨ma, mi, ms, mn⟩, hm⟩ : ∃ m, mk v.op = m := ⟨_, rfl⟩
 rw [hm]
 have HM := hid hm
 clear hm
 have tr := (trivial : True)
 cases ms with
 | true =>
  cases mn with
  | true =>
   by_cases h18 : v.op = 18
   ·have t18 : (v.op == 18) = true := by simp [h18]
    by_cases hl : v.num < 1
    ·have tl : decide (v.num < 1) = true := by simpa using hl
     have C := hid (show ExtraG v (mk v.op)  by rw [HM.out]; unfold ExtraG; simp [h18]; omega)
     clear tr h18 hl
     go_wp2_with fail
     go_ret
     exact ⟨true, rfl, by exact ⟨fun _ => C.out, fun _ => rfl⟩, new (same w) _⟩
    ·have tl : decide (v.num < 1) = false := by simpa using hl
     by_cases hg : 16 < v.num
     ·have tg : decide (16 < v.num) = true := by simpa using hg
      have C := hid (show ExtraG v (mk v.op)  by rw [HM.out]; unfold ExtraG; simp [h18]; omega)
      clear tr h18 hl hg
      go_wp2_with fail
      go_ret
      exact ⟨true, rfl, by exact ⟨fun _ => C.out, fun _ => rfl⟩, new (same w) _⟩
     ·have tg : decide (16 < v.num) = false := by simpa using hg
      have C := hid (show ExtraG v (mk v.op) → False by rw [HM.out]; unfold ExtraG; simp_all)
      clear tr h18 hl hg
      go_wp2_with fail
      go_ret
      exact ⟨false, rfl, by exact ⟨(fun h => by cases h), (fun h => (C.out h).elim)⟩, new (same w) _⟩
   ·have t18 : (v.op == 18) = false := by simp [h18]
    have C := hid (show ExtraG v (mk v.op) → False by rw [HM.out]; unfold ExtraG; simp_all)
    clear tr h18
    go_wp2_with fail
    go_ret
    exact ⟨false, rfl, by exact ⟨(fun h => by cases h), (fun h => (C.out h).elim)⟩, new (same w) _⟩
  | false =>
   by_cases hn : v.num = 0
   ·have tn : (v.num != 0) = false := by simp [hn]
    by_cases h18 : v.op = 18
    ·have t18 : (v.op == 18) = true := by simp [h18]
     by_cases hl : v.num < 1
     ·have tl : decide (v.num < 1) = true := by simpa using hl
      have C := hid (show ExtraG v (mk v.op)  by rw [HM.out]; unfold ExtraG; simp [h18]; omega)
      clear tr hn h18 hl
      go_wp2_with fail
      go_ret
      exact ⟨true, rfl, by exact ⟨fun _ => C.out, fun _ => rfl⟩, new (same w) _⟩
     ·have tl : decide (v.num < 1) = false := by simpa using hl
      by_cases hg : 16 < v.num
      ·have tg : decide (16 < v.num) = true := by simpa using hg
       have C := hid (show ExtraG v (mk v.op)  by rw [HM.out]; unfold ExtraG; simp [h18]; omega)
       clear tr hn h18 hl hg
       go_wp2_with fail
       go_ret
       exact ⟨true, rfl, by exact ⟨fun _ => C.out, fun _ => rfl⟩, new (same w) _⟩
      ·have tg : decide (16 < v.num) = false := by simpa using hg
       have C := hid (show ExtraG v (mk v.op) → False by rw [HM.out]; unfold ExtraG; simp_all)
       clear tr hn h18 hl hg
       go_wp2_with fail
       go_ret
       exact ⟨false, rfl, by exact ⟨(fun h => by cases h), (fun h => (C.out h).elim)⟩, new (same w) _⟩
    ·have t18 : (v.op == 18) = false := by simp [h18]
     have C := hid (show ExtraG v (mk v.op) → False by rw [HM.out]; unfold ExtraG; simp_all)
     clear tr hn h18
     go_wp2_with fail
     go_ret
     exact ⟨false, rfl, by exact ⟨(fun h => by cases h), (fun h => (C.out h).elim)⟩, new (same w) _⟩
   ·have tn : (v.num != 0) = true := by simp [hn]
    have C := hid (show ExtraG v (mk v.op)  by rw [HM.out]; unfold ExtraG; simp [hn])
    clear tr hn
    go_wp2_with fail
    go_ret
    exact ⟨true, rfl, by exact ⟨fun _ => C.out, fun _ => rfl⟩, new (same w) _⟩
 | false =>
  by_cases hs : v.sym = 0
  ·have ts : (v.sym != 0) = false := by simp [hs]
   cases mn with
   | true =>
    by_cases h18 : v.op = 18
    ·have t18 : (v.op == 18) = true := by simp [h18]
     by_cases hl : v.num < 1
     ·have tl : decide (v.num < 1) = true := by simpa using hl
      have C := hid (show ExtraG v (mk v.op)  by rw [HM.out]; unfold ExtraG; simp [h18]; omega)
      clear tr hs h18 hl
      go_wp2_with fail
      go_ret
      exact ⟨true, rfl, by exact ⟨fun _ => C.out, fun _ => rfl⟩, new (same w) _⟩
     ·have tl : decide (v.num < 1) = false := by simpa using hl
      by_cases hg : 16 < v.num
      ·have tg : decide (16 < v.num) = true := by simpa using hg
       have C := hid (show ExtraG v (mk v.op)  by rw [HM.out]; unfold ExtraG; simp [h18]; omega)
       clear tr hs h18 hl hg
       go_wp2_with fail
       go_ret
       exact ⟨true, rfl, by exact ⟨fun _ => C.out, fun _ => rfl⟩, new (same w) _⟩
      ·have tg : decide (16 < v.num) = false := by simpa using hg
       have C := hid (show ExtraG v (mk v.op) → False by rw [HM.out]; unfold ExtraG; simp_all)
       clear tr hs h18 hl hg
       go_wp2_with fail
       go_ret
       exact ⟨false, rfl, by exact ⟨(fun h => by cases h), (fun h => (C.out h).elim)⟩, new (same w) _⟩
    ·have t18 : (v.op == 18) = false := by simp [h18]
     have C := hid (show ExtraG v (mk v.op) → False by rw [HM.out]; unfold ExtraG; simp_all)
     clear tr hs h18
     go_wp2_with fail
     go_ret
     exact ⟨false, rfl, by exact ⟨(fun h => by cases h), (fun h => (C.out h).elim)⟩, new (same w) _⟩
   | false =>
    by_cases hn : v.num = 0
    ·have tn : (v.num != 0) = false := by simp [hn]
     by_cases h18 : v.op = 18
     ·have t18 : (v.op == 18) = true := by simp [h18]
      by_cases hl : v.num < 1
      ·have tl : decide (v.num < 1) = true := by simpa using hl
       have C := hid (show ExtraG v (mk v.op)  by rw [HM.out]; unfold ExtraG; simp [h18]; omega)
       clear tr hs hn h18 hl
       go_wp2_with fail
       go_ret
       exact ⟨true, rfl, by exact ⟨fun _ => C.out, fun _ => rfl⟩, new (same w) _⟩
      ·have tl : decide (v.num < 1) = false := by simpa using hl
       by_cases hg : 16 < v.num
       ·have tg : decide (16 < v.num) = true := by simpa using hg
        have C := hid (show ExtraG v (mk v.op)  by rw [HM.out]; unfold ExtraG; simp [h18]; omega)
        clear tr hs hn h18 hl hg
        go_wp2_with fail
        go_ret
        exact ⟨true, rfl, by exact ⟨fun _ => C.out, fun _ => rfl⟩, new (same w) _⟩
       ·have tg : decide (16 < v.num) = false := by simpa using hg
        have C := hid (show ExtraG v (mk v.op) → False by rw [HM.out]; unfold ExtraG; simp_all)
        clear tr hs hn h18 hl hg
        go_wp2_with fail
        go_ret
        exact ⟨false, rfl, by exact ⟨(fun h => by cases h), (fun h => (C.out h).elim)⟩, new (same w) _⟩
     ·have t18 : (v.op == 18) = false := by simp [h18]
      have C := hid (show ExtraG v (mk v.op) → False by rw [HM.out]; unfold ExtraG; simp_all)
      clear tr hs hn h18
      go_wp2_with fail
      go_ret
      exact ⟨false, rfl, by exact ⟨(fun h => by cases h), (fun h => (C.out h).elim)⟩, new (same w) _⟩
    ·have tn : (v.num != 0) = true := by simp [hn]
     have C := hid (show ExtraG v (mk v.op)  by rw [HM.out]; unfold ExtraG; simp [hn])
     clear tr hs hn
     go_wp2_with fail
     go_ret
     exact ⟨true, rfl, by exact ⟨fun _ => C.out, fun _ => rfl⟩, new (same w) _⟩
  ·have ts : (v.sym != 0) = true := by simp [hs]
   have C := hid (show ExtraG v (mk v.op)  by rw [HM.out]; unfold ExtraG; simp [hs])
   clear tr hs
   go_wp2_with fail
   go_ret
   exact ⟨true, rfl, by exact ⟨fun _ => C.out, fun _ => rfl⟩, new (same w) _⟩

def GiveG (v : IV) : Prop := if v.ty = 0 then mustB v.op = true ∨ v.to ≠ 0 else noTB v.ty = true ∨ mayB v.op = false ∨ v.to < 1

set_option maxHeartbeats 4000000 in
theorem giveFault_any (v : IV) (w : World) : Calls Tryz.prog 185 #[v.val] w fun e w' => Ans (fun r => r = true ↔ GiveG v) w e w' := by
 by_cases h0 : v.ty = 0
 ·have t0 : (v.ty == 0) = true := by simp [h0]
  have C := hid (show GiveG v ↔ (mustB v.op = true ∨ v.to ≠ 0) by unfold GiveG; rw [if_pos h0])
  clear h0
  go_enter Tryz.func185, Tryz.ntmps185
  go_wp2_with fail
  refine (mustGive_any v.op _).mono ?_
  rintro e w1 ⟨rfl, rfl⟩
  cases hq : mustB v.op with
  | true =>
   have D := hid (C.out.2 (.inl hq))
   clear hq
   go_wp2_with fail
   go_ret
   exact ⟨true, rfl, ⟨fun _ => D.out, fun _ => rfl⟩, new (same w) _⟩
  | false =>
   have D := hid (show (v.to != 0) = true ↔ GiveG v by rw [C.out, hq]; simp)
   clear hq
   go_wp2_with fail
   go_ret
   exact ⟨_, rfl, D.out, new (same w) _⟩
 ·have t0 : (v.ty == 0) = false := by simp [h0]
  have C := hid (show GiveG v ↔ (noTB v.ty = true ∨ mayB v.op = false ∨ v.to < 1) by unfold GiveG; rw [if_neg h0])
  clear h0
  go_enter Tryz.func185, Tryz.ntmps185
  go_wp2_with fail
  refine (isNoType_any v.ty _).mono ?_
  rintro e w1 ⟨rfl, rfl⟩
  cases hq : noTB v.ty with
  | true =>
   have D := hid (C.out.2 (.inl hq))
   clear hq
   go_wp2_with fail
   go_ret
   exact ⟨true, rfl, ⟨fun _ => D.out, fun _ => rfl⟩, new (same w) _⟩
  | false =>
   have NQ := hid hq
   clear hq
   go_wp2_with fail
   refine (mayGive_any v.op _).mono ?_
   rintro e w1 ⟨rfl, rfl⟩
   cases hm : mayB v.op with
   | false =>
    have D := hid (C.out.2 (.inr (.inl hm)))
    clear hm
    go_wp2_with fail
    go_ret
    exact ⟨true, rfl, ⟨fun _ => D.out, fun _ => rfl⟩, new (same w) _⟩
   | true =>
    have D := hid (show decide (v.to < 1) = true ↔ GiveG v by rw [C.out, NQ.out, hm]; simp)
    clear hm
    go_wp2_with fail
    go_ret
    exact ⟨_, rfl, D.out, new (same w) _⟩

end Go.Proofs.YtolipafcoolpgaaGreat.Wf
