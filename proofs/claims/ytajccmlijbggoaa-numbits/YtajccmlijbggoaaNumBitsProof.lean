/-
  Proved: for every two 64-bit numbers and every bit's number NumBits answers true: And, Or and Xor answer bit by bit, Xor with -1 is -1 less the number, and what And and Or give together is the sum. No condition.
-/
import Derived.Test.YtajccmlijbggoaaRows
import Derived.Test.YtajccmlijbggoaaBase
import Derived.Test.YtajccmlijbggoaaPlain
import Derived.WalkKit
import Derived.ProofKit
import Derived.OpenShut
namespace Go.Proofs.Ytajccmlijbggoaa.numBits
open Go.ChangeShapes Go.WideShapes Go.ChangeAt Go.RowKit Base Plain
set_option linter.unusedVariables false

theorem own : ownKnob Try.prog.godebug = none := by kernel_rfl

set_option maxHeartbeats 1000000 in
theorem walk00 (a0 a1 a2 X Y Z : Int) (x1 : doV 9 a0 a1 = X) (x2 : doV 10 a0 a1 = Y) (x3 : doV 11 a0 a1 = Z) (x4 : doV 11 a0 (-1) = wrap64 (-1 - a0)) (x5 : doV 5 (-1) a0 = wrap64 (-1 - a0)) (x6 : doV 4 X Y = wrap64 (a0 + a1)) (x7 : doV 4 a0 a1 = wrap64 (a0 + a1))
    (bA : bits .and .i64 (a0 / 2 ^ min (IntKind.u64.wrap (bits .and .i64 a2 63)).toNat 64) 1 = 0) (bB : bits .and .i64 (a1 / 2 ^ min (IntKind.u64.wrap (bits .and .i64 a2 63)).toNat 64) 1 = 0) (bX : bits .and .i64 (X / 2 ^ min (IntKind.u64.wrap (bits .and .i64 a2 63)).toNat 64) 1 = 0) (bY : bits .and .i64 (Y / 2 ^ min (IntKind.u64.wrap (bits .and .i64 a2 63)).toNat 64) 1 = 0) (bZ : bits .and .i64 (Z / 2 ^ min (IntKind.u64.wrap (bits .and .i64 a2 63)).toNat 64) 1 = 0) (w : World) :
    Calls Try.prog 6 #[.int .i64 a0, .int .i64 a1, .int .i64 a2] w fun e w' => e = .returned (.bool true) ∧ Grown w w' := by
  go_enter Try.func6, Try.ntmps6
  go_wp2_with (first
    | (go_at_call 9; refine (first_true _).mono ?_; rintro e w' ⟨rfl, rfl⟩)
    | (go_at_call 10; refine (do_any _ _ _ _).mono ?_; rintro e w' ⟨rfl, rfl⟩))
  go_ret
  exact ⟨rfl, Grown.refl _⟩

set_option maxHeartbeats 1000000 in
theorem walk01 (a0 a1 a2 X Y Z : Int) (x1 : doV 9 a0 a1 = X) (x2 : doV 10 a0 a1 = Y) (x3 : doV 11 a0 a1 = Z) (x4 : doV 11 a0 (-1) = wrap64 (-1 - a0)) (x5 : doV 5 (-1) a0 = wrap64 (-1 - a0)) (x6 : doV 4 X Y = wrap64 (a0 + a1)) (x7 : doV 4 a0 a1 = wrap64 (a0 + a1))
    (bA : bits .and .i64 (a0 / 2 ^ min (IntKind.u64.wrap (bits .and .i64 a2 63)).toNat 64) 1 = 0) (bB : bits .and .i64 (a1 / 2 ^ min (IntKind.u64.wrap (bits .and .i64 a2 63)).toNat 64) 1 = 1) (bX : bits .and .i64 (X / 2 ^ min (IntKind.u64.wrap (bits .and .i64 a2 63)).toNat 64) 1 = 0) (bY : bits .and .i64 (Y / 2 ^ min (IntKind.u64.wrap (bits .and .i64 a2 63)).toNat 64) 1 = 1) (bZ : bits .and .i64 (Z / 2 ^ min (IntKind.u64.wrap (bits .and .i64 a2 63)).toNat 64) 1 = 1) (w : World) :
    Calls Try.prog 6 #[.int .i64 a0, .int .i64 a1, .int .i64 a2] w fun e w' => e = .returned (.bool true) ∧ Grown w w' := by
  go_enter Try.func6, Try.ntmps6
  go_wp2_with (first
    | (go_at_call 9; refine (first_true _).mono ?_; rintro e w' ⟨rfl, rfl⟩)
    | (go_at_call 10; refine (do_any _ _ _ _).mono ?_; rintro e w' ⟨rfl, rfl⟩))
  go_ret
  exact ⟨rfl, Grown.refl _⟩

set_option maxHeartbeats 1000000 in
theorem walk10 (a0 a1 a2 X Y Z : Int) (x1 : doV 9 a0 a1 = X) (x2 : doV 10 a0 a1 = Y) (x3 : doV 11 a0 a1 = Z) (x4 : doV 11 a0 (-1) = wrap64 (-1 - a0)) (x5 : doV 5 (-1) a0 = wrap64 (-1 - a0)) (x6 : doV 4 X Y = wrap64 (a0 + a1)) (x7 : doV 4 a0 a1 = wrap64 (a0 + a1))
    (bA : bits .and .i64 (a0 / 2 ^ min (IntKind.u64.wrap (bits .and .i64 a2 63)).toNat 64) 1 = 1) (bB : bits .and .i64 (a1 / 2 ^ min (IntKind.u64.wrap (bits .and .i64 a2 63)).toNat 64) 1 = 0) (bX : bits .and .i64 (X / 2 ^ min (IntKind.u64.wrap (bits .and .i64 a2 63)).toNat 64) 1 = 0) (bY : bits .and .i64 (Y / 2 ^ min (IntKind.u64.wrap (bits .and .i64 a2 63)).toNat 64) 1 = 1) (bZ : bits .and .i64 (Z / 2 ^ min (IntKind.u64.wrap (bits .and .i64 a2 63)).toNat 64) 1 = 1) (w : World) :
    Calls Try.prog 6 #[.int .i64 a0, .int .i64 a1, .int .i64 a2] w fun e w' => e = .returned (.bool true) ∧ Grown w w' := by
  go_enter Try.func6, Try.ntmps6
  go_wp2_with (first
    | (go_at_call 9; refine (first_true _).mono ?_; rintro e w' ⟨rfl, rfl⟩)
    | (go_at_call 10; refine (do_any _ _ _ _).mono ?_; rintro e w' ⟨rfl, rfl⟩))
  go_ret
  exact ⟨rfl, Grown.refl _⟩

set_option maxHeartbeats 1000000 in
theorem walk11 (a0 a1 a2 X Y Z : Int) (x1 : doV 9 a0 a1 = X) (x2 : doV 10 a0 a1 = Y) (x3 : doV 11 a0 a1 = Z) (x4 : doV 11 a0 (-1) = wrap64 (-1 - a0)) (x5 : doV 5 (-1) a0 = wrap64 (-1 - a0)) (x6 : doV 4 X Y = wrap64 (a0 + a1)) (x7 : doV 4 a0 a1 = wrap64 (a0 + a1))
    (bA : bits .and .i64 (a0 / 2 ^ min (IntKind.u64.wrap (bits .and .i64 a2 63)).toNat 64) 1 = 1) (bB : bits .and .i64 (a1 / 2 ^ min (IntKind.u64.wrap (bits .and .i64 a2 63)).toNat 64) 1 = 1) (bX : bits .and .i64 (X / 2 ^ min (IntKind.u64.wrap (bits .and .i64 a2 63)).toNat 64) 1 = 1) (bY : bits .and .i64 (Y / 2 ^ min (IntKind.u64.wrap (bits .and .i64 a2 63)).toNat 64) 1 = 1) (bZ : bits .and .i64 (Z / 2 ^ min (IntKind.u64.wrap (bits .and .i64 a2 63)).toNat 64) 1 = 0) (w : World) :
    Calls Try.prog 6 #[.int .i64 a0, .int .i64 a1, .int .i64 a2] w fun e w' => e = .returned (.bool true) ∧ Grown w w' := by
  go_enter Try.func6, Try.ntmps6
  go_wp2_with (first
    | (go_at_call 9; refine (first_true _).mono ?_; rintro e w' ⟨rfl, rfl⟩)
    | (go_at_call 10; refine (do_any _ _ _ _).mono ?_; rintro e w' ⟨rfl, rfl⟩))
  go_ret
  exact ⟨rfl, Grown.refl _⟩

theorem walk (a0 : Int) (a1 : Int) (a2 : Int) (w0 : (Lit.int .i64 a0).wf = true) (w1 : (Lit.int .i64 a1).wf = true) (w2 : (Lit.int .i64 a2).wf = true) (w : World) :
    Calls Try.prog 6 #[.int .i64 a0, .int .i64 a1, .int .i64 a2] w fun e w' => e = .returned (.bool true) ∧ Grown w w' := by
  have he : min (IntKind.u64.wrap (bits .and .i64 a2 63)).toNat 64 < 64 := by rw [six_of]; omega
  have x1 := v_and a0 a1
  have x2 := v_or a0 a1
  have x3 := v_xor a0 a1
  have x4 := v_xor a0 (-1)
  rw [xor_ones] at x4
  have x5 := v_sub (-1) a0
  have x6 := v_add (bits .and .i64 a0 a1) (bits .or .i64 a0 a1)
  rw [and_or_sum] at x6
  have x7 := v_add a0 a1
  have bA := low_bit (a0 / 2 ^ min (IntKind.u64.wrap (bits .and .i64 a2 63)).toNat 64)
  have bB := low_bit (a1 / 2 ^ min (IntKind.u64.wrap (bits .and .i64 a2 63)).toNat 64)
  have bX := low_bit (bits .and .i64 a0 a1 / 2 ^ min (IntKind.u64.wrap (bits .and .i64 a2 63)).toNat 64)
  have bY := low_bit (bits .or .i64 a0 a1 / 2 ^ min (IntKind.u64.wrap (bits .and .i64 a2 63)).toNat 64)
  have bZ := low_bit (bits .xor .i64 a0 a1 / 2 ^ min (IntKind.u64.wrap (bits .and .i64 a2 63)).toNat 64)
  rw [bit_and _ _ _ he] at bX
  rw [bit_or _ _ _ he] at bY
  rw [bit_xor _ _ _ he] at bZ
  have cA := Int.emod_two_eq (a0 / 2 ^ min (IntKind.u64.wrap (bits .and .i64 a2 63)).toNat 64)
  have cB := Int.emod_two_eq (a1 / 2 ^ min (IntKind.u64.wrap (bits .and .i64 a2 63)).toNat 64)
  revert x1 x2 x3 x6 bX bY bZ
  generalize bits .and .i64 a0 a1 = X
  generalize bits .or .i64 a0 a1 = Y
  generalize bits .xor .i64 a0 a1 = Z
  intro x1 x2 x3 x6 bX bY bZ
  clear he
  rcases cA with c | c <;> rcases cB with d | d <;> rw [c] at bA bX bY bZ <;> rw [d] at bB bX bY bZ <;> clear c d
  · exact walk00 a0 a1 a2 X Y Z x1 x2 x3 x4 x5 x6 x7 bA bB (by simpa using bX) (by simpa using bY) (by simpa using bZ) w
  · exact walk01 a0 a1 a2 X Y Z x1 x2 x3 x4 x5 x6 x7 bA bB (by simpa using bX) (by simpa using bY) (by simpa using bZ) w
  · exact walk10 a0 a1 a2 X Y Z x1 x2 x3 x4 x5 x6 x7 bA bB (by simpa using bX) (by simpa using bY) (by simpa using bZ) w
  · exact walk11 a0 a1 a2 X Y Z x1 x2 x3 x4 x5 x6 x7 bA bB (by simpa using bX) (by simpa using bY) (by simpa using bZ) w

set_option maxRecDepth 100000 in
theorem lifted (os : Os) (started : os.Started) (H : Type) (enc : TypeId × Value → H) :
    ReturnsInHanded {} Try.checked os 6 .any (Rows.numBitsSpec.pre6 enc Try.prog Try.f6 Rows.numBitsRow.domain false) (Rows.numBitsSpec.post enc Try.prog Try.f6 false true false false) := by
  refine returnsInHanded_of_change (C := Try.checked) own started (by kernel_rfl) Try.func6
    (ChangeSpec.witness6 (enc := enc) (C := Try.checked) false ⟨#[], #[.int .i64 0, .int .i64 0, .int .i64 0], []⟩ 8 (by kernel_rfl) (by kernel_rfl) (by kernel_rfl) (by kernel_rfl)) ?_
  intro W base args ds gs before hval0 hW hcnd _
  have hval : ∀ (j : Nat) t v, Try.f6.params[j]? = some t → args[j]? = some v → Value.okWide Try.prog W .any base t v := hval0
  have hW' := hW
  obtain ⟨p, q, hA0, hV, rfl, hfz, hnd⟩ := hW
  have hA : DataW.TrodAll enc Try.prog W 0 (fun _ => true) true Try.f6.params.toList args.toList ds p := hA0
  rw [Try.params6] at hA hval
  obtain ⟨v0, vs0, d0, ds0, p0, q0, hargs, rfl, rfl, h0, r0⟩ := trodAll_cons hA
  obtain ⟨v1, vs1, d1, ds1, p1, q1, rfl, rfl, rfl, h1, r1⟩ := trodAll_cons r0
  obtain ⟨v2, vs2, d2, ds2, p2, q2, rfl, rfl, rfl, h2, r2⟩ := trodAll_cons r1
  obtain ⟨rfl, rfl, rfl⟩ := trodAll_nil r2
  obtain rfl : args = #[v0, v1, v2] := by cases args; simp_all
  obtain ⟨rfl, rfl⟩ := trodVars_none hV
  obtain ⟨a0, rfl, rfl, rfl, w0⟩ := open_int Try.underlying2 (hval 0 2 v0 rfl rfl) h0
  obtain ⟨a1, rfl, rfl, rfl, w1⟩ := open_int Try.underlying2 (hval 1 2 v1 rfl rfl) h1
  obtain ⟨a2, rfl, rfl, rfl, w2⟩ := open_int Try.underlying3 (hval 2 3 v2 rfl rfl) h2
  clear hA0 hval0
  simp only [List.append_nil] at hW'
  refine (walk a0 a1 a2 w0 w1 w2 W).mono fun e W' ⟨he, hg⟩ => ?_
  subst he
  exact ⟨_, rfl, post_of_same (pa := []) (pv := []) hW' (fun _ _ _ => (trodAll_cons_mk (shut_bool Try.underlying4 _) trodAll_mk0)) (fun sp _ => (trodAll_cons_mk (shut_int Try.underlying2 w0) (trodAll_cons_mk (shut_int Try.underlying2 w1) (trodAll_cons_mk (shut_int Try.underlying3 w2) trodAll_mk0)))) (fun _ _ => rfl) rfl
    (hg.frame _) hg.2.1 (ok_one (by kernel_rfl) rfl (okWide_bool_mk Try.underlying4 _))⟩

theorem over : Rows.numBitsRow.holds Try.pinned (OpenSpec.ofChange Rows.numBitsSpec) :=
  OpenClaim.holds_of_wide 6 Try.f6 rfl rfl rfl rfl rfl rfl rfl ⟨rfl, rfl, rfl, rfl, rfl⟩ rfl rfl rfl rfl rfl (by kernel_rfl) Try.func6 (by kernel_rfl)
    (of_decide_eq_true (by kernel_rfl)) (by unfold Func.isWrapper; first | (rw [if_pos (by decide +kernel)]; kernel_rfl) | (rw [if_neg (by decide +kernel)]; exact ⟨rfl, rfl⟩))
    (fun os started H enc _ => lifted os started H enc)

theorem proved : Rows.NumBitsSaid :=
  over
#print axioms proved
end Go.Proofs.Ytajccmlijbggoaa.numBits
