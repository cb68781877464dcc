/-
  Types that fit, by the document: plnref3.fits, at every Ins that has its form.
-/
import Derived.Test.YtolipafcoolpgaaGreatJ5
import Derived.Test.YtolipafcoolpgaaGreatChkT1
import Derived.Test.YtolipafcoolpgaaGreatChkT2
import Derived.Test.YtolipafcoolpgaaGreatChkT3
import Derived.Test.YtolipafcoolpgaaGreatChkU
import Derived.Test.YtolipafcoolpgaaGreatChkS
namespace Go.Proofs.YtolipafcoolpgaaGreat.Chk
open Go.RowKit View Rd Num Opn Copy Go.Proofs.YtolipafcoolpgaaGreat.Mod

set_option linter.unusedVariables false

theorem form_op {v : IV} (h : formB v = true) : 1 ≤ v.op ∧ v.op ≤ 30 := by
 unfold formB at h
 simp only [Bool.and_eq_true, decide_eq_true_eq] at h
 omega

theorem form_args {v : IV} (h : formB v = true) : (mk v.op).a < 0 ∨ (v.args.n : Int) = (mk v.op).a := by
 unfold formB at h
 simp only [Bool.and_eq_true, Bool.or_eq_true, decide_eq_true_eq] at h
 exact h.1.1.1.1.1.1.2

theorem form_sw {v : IV} (h : formB v = true) : swB v = true := by
 unfold formB at h
 simp only [Bool.and_eq_true] at h
 exact h.1.1.2

theorem fits_any (M : MV) (F : FV) (v : IV) (s : Sl) (g : Nat → Int) (w : World) (hM : InM w M) (hs : SmallM M) (hf : formB v = true) (hy : SymI M v) (hi : Ints w s g) (hn : s.n = v.args.n) (h20 : v.args.n ≤ 20) :
  Calls Tryz.prog 112 #[M.val, F.val, v.val, .slice s.a s.n s.c] w fun e w' => Ans (fun r => r = true ↔ FitI M F v s.n g) w e w' := by
 have hop := form_op hf
 have ha := form_args hf
 have hsw := form_sw hf
 have ho : v.op = 1 ∨ v.op = 2 ∨ v.op = 3 ∨ v.op = 4 ∨ v.op = 5 ∨ v.op = 6 ∨ v.op = 7 ∨ v.op = 8 ∨ v.op = 9 ∨ v.op = 10 ∨ v.op = 11 ∨ v.op = 12 ∨ v.op = 13 ∨ v.op = 14 ∨ v.op = 15 ∨ v.op = 16 ∨ v.op = 17 ∨ v.op = 18 ∨ v.op = 19 ∨ v.op = 20 ∨ v.op = 21 ∨ v.op = 22 ∨ v.op = 23 ∨ v.op = 24 ∨ v.op = 25 ∨ v.op = 26 ∨ v.op = 27 ∨ v.op = 28 ∨ v.op = 29 ∨ v.op = 30 := by omega
 rcases ho with e | e | e | e | e | e | e | e | e | e | e | e | e | e | e | e | e | e | e | e | e | e | e | e | e | e | e | e | e | e
 all_goals rw [e] at ha
 ·exact fit_1 M F v s g w e hi (Nat.zero_le _)
 ·exact fit_2 M F v s g w e hi (Nat.zero_le _)
 ·exact fit_3 M F v s g w e hi (Nat.zero_le _)
 ·exact fit_4 M F v s g w e hi (by simp [mk] at ha; omega)
 ·exact fit_5 M F v s g w e hi (by simp [mk] at ha; omega)
 ·exact fit_6 M F v s g w e hi (by simp [mk] at ha; omega)
 ·exact fit_7 M F v s g w e hi (by simp [mk] at ha; omega)
 ·exact fit_8 M F v s g w e hi (by simp [mk] at ha; omega)
 ·exact fit_9 M F v s g w e hi (by simp [mk] at ha; omega)
 ·exact fit_10 M F v s g w e hi (by simp [mk] at ha; omega)
 ·exact fit_11 M F v s g w e hi (by simp [mk] at ha; omega)
 ·exact fit_12 M F v s g w e hi (by simp [mk] at ha; omega)
 ·exact fit_13 M F v s g w e hi (by simp [mk] at ha; omega)
 ·exact fit_14 M F v s g w e hi (by simp [mk] at ha; omega)
 ·exact fit_15 M F v s g w e hi (by simp [mk] at ha; omega)
 ·exact fit_16 M F v s g w e hi (by simp [mk] at ha; omega)
 ·exact fit_17 M F v s g w e hi (by simp [mk] at ha; omega) (by omega)
 ·exact fit_18 M F v s g w e hi (Nat.zero_le _)
 ·exact fit_19 M F v s g w e hi (by simp [mk] at ha; omega)
 ·exact fit_20 M F v s g w e hi (by simp [mk] at ha; omega)
 ·exact fit_21 M F v s g w e hi (by simp [mk] at ha; omega)
 ·exact fit_22 M F v s g w e hi (Nat.zero_le _) (by omega) hM hy.1 (by have := hy.2; rw [e] at this; simpa [symN] using this) (fun k hk => by have := (hs.light k hk).par; omega)
 ·exact fit_23 M F v s g w e hi (Nat.zero_le _) (by omega) hM hy.1 (by have := hy.2; rw [e] at this; simpa [symN] using this) (fun k hk => by have := (hs.extI k hk).2; omega)
 ·exact fit_24 M F v s g w e hi (by simp [mk] at ha; omega)
 ·exact fit_25 M F v s g w e hi (by unfold swB at hsw; rw [e] at hsw; simp at hsw; omega)
 ·exact fit_26 M F v s g w e hi (Nat.zero_le _) (by omega)
 ·exact fit_27 M F v s g w e hi (Nat.zero_le _)
 ·exact fit_28 M F v s g w e hi (by simp [mk] at ha; omega)
 ·exact fit_29 M F v s g w e hi (Nat.zero_le _) (by omega)
 ·exact fit_30 M F v s g w e hi (Nat.zero_le _)

end Go.Proofs.YtolipafcoolpgaaGreat.Chk
