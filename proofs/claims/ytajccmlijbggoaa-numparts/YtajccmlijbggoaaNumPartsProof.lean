/-
  Proved: for every two 64-bit numbers NumParts answers true: a number is the other one times Div's answer, with Rem's added (wrapped to 64 bits, so at the least number by -1 too); Rem's answer is nearer to 0 than the divisor and on the number's side; a divisor of 0 traps in both, and gives 0. No condition.
-/
import Derived.Test.YtajccmlijbggoaaRows
import Derived.Test.YtajccmlijbggoaaBase
import Derived.Test.YtajccmlijbggoaaPlain
import Derived.WalkKit
import Derived.ProofKit
import Derived.OpenShut
namespace Go.Proofs.Ytajccmlijbggoaa.numParts
open Go.ChangeShapes Go.WideShapes Go.ChangeAt Go.RowKit Base Plain
set_option linter.unusedVariables false

theorem own : ownKnob Try.prog.godebug = none := by kernel_rfl

theorem walk (a0 : Int) (a1 : Int) (w0 : (Lit.int .i64 a0).wf = true) (w1 : (Lit.int .i64 a1).wf = true) (w : World) :
    Calls Try.prog 5 #[.int .i64 a0, .int .i64 a1] w fun e w' => e = .returned (.bool true) ∧ Grown w w' := by
  by_cases hb : a1 = 0
  · subst hb
    have x1 : doV 7 a0 0 = 0 := by simp [doV]
    have x2 : doV 8 a0 0 = 0 := by simp [doV]
    have t1 : doT 7 0 = 1 := by simp [doT]
    have t2 : doT 8 0 = 1 := by simp [doT]
    go_enter Try.func5, Try.ntmps5
    go_wp2_with (first
      | (go_at_call 9; refine (first_true _).mono ?_; rintro e w' ⟨rfl, rfl⟩)
      | (go_at_call 10; refine (do_any _ _ _ _).mono ?_; rintro e w' ⟨rfl, rfl⟩))
    go_ret
    exact ⟨rfl, Grown.refl _⟩
  · have bd := bounds_i64 w0
    have bb := bounds_i64 w1
    have t1 : doT 7 a1 = 0 := by simp [doT, hb]
    have t2 : doT 8 a1 = 0 := by simp [doT, hb]
    have x1 := v_div a0 a1 hb
    have x2 := v_rem a0 a1 hb
    have x3 := v_mul (wrap64 (a0.tdiv a1)) a1
    have x4 := v_add (wrap64 (wrap64 (a0.tdiv a1) * a1)) (a0.tmod a1)
    rw [parts_sum a0 a1 bd.1 bd.2] at x4
    have near := rem_near a0 a1 hb
    have sgn : a0 < 0 → a0.tmod a1 ≤ 0 := rem_neg a0 a1
    have sgp : ¬ a0 < 0 → 0 ≤ a0.tmod a1 := rem_pos a0 a1
    revert x1 x2 x3 x4 near sgn sgp
    generalize wrap64 (wrap64 (a0.tdiv a1) * a1) = p
    generalize wrap64 (a0.tdiv a1) = q
    generalize a0.tmod a1 = r
    intro x1 x2 x3 x4 near sgn sgp
    have hs : (r = 0 ∨ (¬ r = 0 ∧ r < 0 ∧ a0 < 0) ∨ (¬ r = 0 ∧ ¬ r < 0 ∧ ¬ a0 < 0)) ∧ ((a1 < 0 ∧ a1 < r ∧ a1 < -r) ∨ (¬ a1 < 0 ∧ r < a1 ∧ -r < a1)) := by omega
    have b1 : -9223372036854775807 ≤ r := by omega
    have b2 : r ≤ 9223372036854775807 := by omega
    clear near sgn sgp
    obtain ⟨h1 | ⟨h1, h2, h3⟩ | ⟨h1, h2, h3⟩, h4⟩ := hs
    · subst h1
      rcases h4 with ⟨h4, h5, h6⟩ | ⟨h4, h5, h6⟩
      all_goals
        go_enter Try.func5, Try.ntmps5
        go_wp2_with (first
          | (go_at_call 9; refine (first_true _).mono ?_; rintro e w' ⟨rfl, rfl⟩)
          | (go_at_call 10; refine (do_any _ _ _ _).mono ?_; rintro e w' ⟨rfl, rfl⟩))
        go_ret
        exact ⟨rfl, Grown.refl _⟩
    · rcases h4 with ⟨h4, h5, h6⟩ | ⟨h4, h5, h6⟩
      all_goals
        go_enter Try.func5, Try.ntmps5
        go_wp2_with (first
          | (go_at_call 9; refine (first_true _).mono ?_; rintro e w' ⟨rfl, rfl⟩)
          | (go_at_call 10; refine (do_any _ _ _ _).mono ?_; rintro e w' ⟨rfl, rfl⟩))
        go_ret
        exact ⟨rfl, Grown.refl _⟩
    · have y1 : decide (r < 0) = false := by simpa using h2
      have y2 : decide (a0 < 0) = false := by simpa using h3
      rcases h4 with ⟨h4, h5, h6⟩ | ⟨h4, h5, h6⟩
      all_goals
        go_enter Try.func5, Try.ntmps5
        go_wp2_with (first
          | (go_at_call 9; refine (first_true _).mono ?_; rintro e w' ⟨rfl, rfl⟩)
          | (go_at_call 10; refine (do_any _ _ _ _).mono ?_; rintro e w' ⟨rfl, rfl⟩))
        go_ret
        exact ⟨rfl, Grown.refl _⟩

set_option maxRecDepth 100000 in
theorem lifted (os : Os) (started : os.Started) (H : Type) (enc : TypeId × Value → H) :
    ReturnsInHanded {} Try.checked os 5 .any (Rows.numPartsSpec.pre6 enc Try.prog Try.f5 Rows.numPartsRow.domain false) (Rows.numPartsSpec.post enc Try.prog Try.f5 false true false false) := by
  refine returnsInHanded_of_change (C := Try.checked) own started (by kernel_rfl) Try.func5
    (ChangeSpec.witness6 (enc := enc) (C := Try.checked) false ⟨#[], #[.int .i64 0, .int .i64 0], []⟩ 8 (by kernel_rfl) (by kernel_rfl) (by kernel_rfl) (by kernel_rfl)) ?_
  intro W base args ds gs before hval0 hW hcnd _
  have hval : ∀ (j : Nat) t v, Try.f5.params[j]? = some t → args[j]? = some v → Value.okWide Try.prog W .any base t v := hval0
  have hW' := hW
  obtain ⟨p, q, hA0, hV, rfl, hfz, hnd⟩ := hW
  have hA : DataW.TrodAll enc Try.prog W 0 (fun _ => true) true Try.f5.params.toList args.toList ds p := hA0
  rw [Try.params5] at hA hval
  obtain ⟨v0, vs0, d0, ds0, p0, q0, hargs, rfl, rfl, h0, r0⟩ := trodAll_cons hA
  obtain ⟨v1, vs1, d1, ds1, p1, q1, rfl, rfl, rfl, h1, r1⟩ := trodAll_cons r0
  obtain ⟨rfl, rfl, rfl⟩ := trodAll_nil r1
  obtain rfl : args = #[v0, v1] := by cases args; simp_all
  obtain ⟨rfl, rfl⟩ := trodVars_none hV
  obtain ⟨a0, rfl, rfl, rfl, w0⟩ := open_int Try.underlying2 (hval 0 2 v0 rfl rfl) h0
  obtain ⟨a1, rfl, rfl, rfl, w1⟩ := open_int Try.underlying2 (hval 1 2 v1 rfl rfl) h1
  clear hA0 hval0
  simp only [List.append_nil] at hW'
  refine (walk a0 a1 w0 w1 W).mono fun e W' ⟨he, hg⟩ => ?_
  subst he
  exact ⟨_, rfl, post_of_same (pa := []) (pv := []) hW' (fun _ _ _ => (trodAll_cons_mk (shut_bool Try.underlying4 _) trodAll_mk0)) (fun sp _ => (trodAll_cons_mk (shut_int Try.underlying2 w0) (trodAll_cons_mk (shut_int Try.underlying2 w1) trodAll_mk0))) (fun _ _ => rfl) rfl
    (hg.frame _) hg.2.1 (ok_one (by kernel_rfl) rfl (okWide_bool_mk Try.underlying4 _))⟩

theorem over : Rows.numPartsRow.holds Try.pinned (OpenSpec.ofChange Rows.numPartsSpec) :=
  OpenClaim.holds_of_wide 5 Try.f5 rfl rfl rfl rfl rfl rfl rfl ⟨rfl, rfl, rfl, rfl, rfl⟩ rfl rfl rfl rfl rfl (by kernel_rfl) Try.func5 (by kernel_rfl)
    (of_decide_eq_true (by kernel_rfl)) (by unfold Func.isWrapper; first | (rw [if_pos (by decide +kernel)]; kernel_rfl) | (rw [if_neg (by decide +kernel)]; exact ⟨rfl, rfl⟩))
    (fun os started H enc _ => lifted os started H enc)

theorem proved : Rows.NumPartsSaid :=
  over
#print axioms proved
end Go.Proofs.Ytajccmlijbggoaa.numParts
