/-
  Proved: for every three 64-bit numbers NumBack answers true: what Add added Sub takes off again, and Mul goes over Add's sums (its factors changing places), all wrapped to 64 bits, with no trap. No condition.
-/
import Derived.Test.YtajccmlijbggoaaRows
import Derived.Test.YtajccmlijbggoaaBase
import Derived.WalkKit
import Derived.ProofKit
import Derived.OpenShut
namespace Go.Proofs.Ytajccmlijbggoaa.numBack
open Go.ChangeShapes Go.WideShapes Go.ChangeAt Go.RowKit Base
set_option linter.unusedVariables false

theorem own : ownKnob Try.prog.godebug = none := by kernel_rfl

theorem wrap_form (n : Int) : ∃ k : Int, wrap64 n = n + 18446744073709551616 * k := by
  refine ⟨-((n + 9223372036854775808) / 18446744073709551616), ?_⟩
  unfold wrap64; omega
theorem wrap_add_mul (n k : Int) : wrap64 (n + 18446744073709551616 * k) = wrap64 n := by unfold wrap64; omega
theorem wrap_in {n : Int} (h0 : -9223372036854775808 ≤ n) (h1 : n ≤ 9223372036854775807) : wrap64 n = n := by unfold wrap64; omega

theorem back (a b : Int) (h0 : -9223372036854775808 ≤ a) (h1 : a ≤ 9223372036854775807) : wrap64 (wrap64 (a + b) - b) = a := by
  unfold wrap64; omega

theorem over_sums (a b c : Int) : wrap64 (c * wrap64 (a + b)) = wrap64 (wrap64 (c * a) + wrap64 (b * c)) := by
  obtain ⟨k1, e1⟩ := wrap_form (a + b)
  obtain ⟨k2, e2⟩ := wrap_form (c * a)
  obtain ⟨k3, e3⟩ := wrap_form (b * c)
  rw [e1, e2, e3]
  have l : c * (a + b + 18446744073709551616 * k1) = (c * a + b * c) + 18446744073709551616 * (c * k1) := by
    rw [Int.mul_add, Int.mul_add, Int.mul_comm b c, Int.mul_left_comm]
  have r : c * a + 18446744073709551616 * k2 + (b * c + 18446744073709551616 * k3) = (c * a + b * c) + 18446744073709551616 * (k2 + k3) := by omega
  rw [l, r, wrap_add_mul, wrap_add_mul]

theorem walk (a0 : Int) (a1 : Int) (a2 : Int) (w0 : (Lit.int .i64 a0).wf = true) (w1 : (Lit.int .i64 a1).wf = true) (w2 : (Lit.int .i64 a2).wf = true) (w : World) :
    Calls Try.prog 4 #[.int .i64 a0, .int .i64 a1, .int .i64 a2] w fun e w' => e = .returned (.bool true) ∧ Grown w w' := by
  have bd := bounds_i64 w0
  have x1 := v_add a0 a1
  have x2 := v_sub (wrap64 (a0 + a1)) a1
  rw [back a0 a1 bd.1 bd.2] at x2
  have x3 := v_mul a2 (wrap64 (a0 + a1))
  rw [over_sums] at x3
  have x4 := v_mul a2 a0
  have x5 := v_mul a1 a2
  have x6 := v_add (wrap64 (a2 * a0)) (wrap64 (a1 * a2))
  have t1 := t_none 4 a1 (by decide) (by decide)
  have t2 := t_none 5 a1 (by decide) (by decide)
  have t3 := t_none 6 (wrap64 (a0 + a1)) (by decide) (by decide)
  have t4 := t_none 6 a0 (by decide) (by decide)
  have t5 := t_none 6 a2 (by decide) (by decide)
  have t6 := t_none 4 (wrap64 (a1 * a2)) (by decide) (by decide)
  go_enter Try.func4, Try.ntmps4
  go_wp2_with (first
    | (go_at_call 9; refine (first_true _).mono ?_; rintro e w' ⟨rfl, rfl⟩)
    | (go_at_call 10; refine (do_any _ _ _ _).mono ?_; rintro e w' ⟨rfl, rfl⟩))
  go_ret
  exact ⟨rfl, Grown.refl _⟩

set_option maxRecDepth 100000 in
theorem lifted (os : Os) (started : os.Started) (H : Type) (enc : TypeId × Value → H) :
    ReturnsInHanded {} Try.checked os 4 .any (Rows.numBackSpec.pre6 enc Try.prog Try.f4 Rows.numBackRow.domain false) (Rows.numBackSpec.post enc Try.prog Try.f4 false true false false) := by
  refine returnsInHanded_of_change (C := Try.checked) own started (by kernel_rfl) Try.func4
    (ChangeSpec.witness6 (enc := enc) (C := Try.checked) false ⟨#[], #[.int .i64 0, .int .i64 0, .int .i64 0], []⟩ 8 (by kernel_rfl) (by kernel_rfl) (by kernel_rfl) (by kernel_rfl)) ?_
  intro W base args ds gs before hval0 hW hcnd _
  have hval : ∀ (j : Nat) t v, Try.f4.params[j]? = some t → args[j]? = some v → Value.okWide Try.prog W .any base t v := hval0
  have hW' := hW
  obtain ⟨p, q, hA0, hV, rfl, hfz, hnd⟩ := hW
  have hA : DataW.TrodAll enc Try.prog W 0 (fun _ => true) true Try.f4.params.toList args.toList ds p := hA0
  rw [Try.params4] at hA hval
  obtain ⟨v0, vs0, d0, ds0, p0, q0, hargs, rfl, rfl, h0, r0⟩ := trodAll_cons hA
  obtain ⟨v1, vs1, d1, ds1, p1, q1, rfl, rfl, rfl, h1, r1⟩ := trodAll_cons r0
  obtain ⟨v2, vs2, d2, ds2, p2, q2, rfl, rfl, rfl, h2, r2⟩ := trodAll_cons r1
  obtain ⟨rfl, rfl, rfl⟩ := trodAll_nil r2
  obtain rfl : args = #[v0, v1, v2] := by cases args; simp_all
  obtain ⟨rfl, rfl⟩ := trodVars_none hV
  obtain ⟨a0, rfl, rfl, rfl, w0⟩ := open_int Try.underlying2 (hval 0 2 v0 rfl rfl) h0
  obtain ⟨a1, rfl, rfl, rfl, w1⟩ := open_int Try.underlying2 (hval 1 2 v1 rfl rfl) h1
  obtain ⟨a2, rfl, rfl, rfl, w2⟩ := open_int Try.underlying2 (hval 2 2 v2 rfl rfl) h2
  clear hA0 hval0
  simp only [List.append_nil] at hW'
  refine (walk a0 a1 a2 w0 w1 w2 W).mono fun e W' ⟨he, hg⟩ => ?_
  subst he
  exact ⟨_, rfl, post_of_same (pa := []) (pv := []) hW' (fun _ _ _ => (trodAll_cons_mk (shut_bool Try.underlying4 _) trodAll_mk0)) (fun sp _ => (trodAll_cons_mk (shut_int Try.underlying2 w0) (trodAll_cons_mk (shut_int Try.underlying2 w1) (trodAll_cons_mk (shut_int Try.underlying2 w2) trodAll_mk0)))) (fun _ _ => rfl) rfl
    (hg.frame _) hg.2.1 (ok_one (by kernel_rfl) rfl (okWide_bool_mk Try.underlying4 _))⟩

theorem over : Rows.numBackRow.holds Try.pinned (OpenSpec.ofChange Rows.numBackSpec) :=
  OpenClaim.holds_of_wide 4 Try.f4 rfl rfl rfl rfl rfl rfl rfl ⟨rfl, rfl, rfl, rfl, rfl⟩ rfl rfl rfl rfl rfl (by kernel_rfl) Try.func4 (by kernel_rfl)
    (of_decide_eq_true (by kernel_rfl)) (by unfold Func.isWrapper; first | (rw [if_pos (by decide +kernel)]; kernel_rfl) | (rw [if_neg (by decide +kernel)]; exact ⟨rfl, rfl⟩))
    (fun os started H enc _ => lifted os started H enc)

theorem proved : Rows.NumBackSaid :=
  over
#print axioms proved
end Go.Proofs.Ytajccmlijbggoaa.numBack
