/-
  Proved: for every two 64-bit numbers NumMoves answers true: Shl is to double (wrapped) and Shr to halve towards the least, once for each of the count's lowest six bits' number, and bit 64 of the count changes nothing. No condition.
-/
import Derived.Test.YtajccmlijbggoaaRows
import Derived.Test.YtajccmlijbggoaaBase
import Derived.Test.YtajccmlijbggoaaPlain
import Derived.WalkKit
import Derived.ProofKit
import Derived.OpenShut
namespace Go.Proofs.Ytajccmlijbggoaa.numMoves
open Go.ChangeShapes Go.WideShapes Go.ChangeAt Go.RowKit Base Plain
set_option linter.unusedVariables false

theorem own : ownKnob Try.prog.godebug = none := by kernel_rfl

theorem tdiv_two (y : Int) : y.tdiv 2 = if y < 0 then -((-y) / 2) else y / 2 := by
  split
  · have := Int.neg_tdiv (a := -y) (b := 2)
    rw [Int.neg_neg] at this
    rw [this, Int.tdiv_eq_ediv_of_nonneg (by omega)]
  · rw [Int.tdiv_eq_ediv_of_nonneg (by omega)]
theorem tmod_two (y : Int) : y.tmod 2 = y - 2 * y.tdiv 2 := by
  have := Int.tdiv_mul_add_tmod y 2
  omega
theorem half_odd (y : Int) (h0 : -9223372036854775808 ≤ y) (h : y < 0) (h1 : (y.tmod 2 != 0) = true) : wrap64 (y.tdiv 2 - 1) = y / 2 := by
  simp only [bne_iff_ne, ne_eq, tmod_two] at h1
  rw [tdiv_two, if_pos h] at *
  unfold wrap64; omega
theorem half_even (y : Int) (h : y < 0) (h1 : (y.tmod 2 != 0) = false) : y.tdiv 2 = y / 2 := by
  simp only [bne_eq_false_iff_eq, tmod_two] at h1
  rw [tdiv_two, if_pos h] at *
  omega
theorem half_pos (y : Int) (h : ¬ y < 0) : y.tdiv 2 = y / 2 := by rw [tdiv_two, if_neg h]

theorem walk (a0 : Int) (a1 : Int) (w0 : (Lit.int .i64 a0).wf = true) (w1 : (Lit.int .i64 a1).wf = true) (w : World) :
    Calls Try.prog 7 #[.int .i64 a0, .int .i64 a1] w fun e w' => e = .returned (.bool true) ∧ Grown w w' := by
  have bd := bounds_i64 w0
  have e1 := v_shl a0 a1
  have e2 := v_shr a0 a1
  have e3 := v_shl a0 (bits .xor .i64 a1 64)
  rw [six_of] at e1 e2
  rw [far_six, six_of] at e3
  have e4 := low_six a1
  obtain ⟨c, hc, hlt⟩ : ∃ c : Nat, a1 % 64 = (c : Int) ∧ c < 64 := ⟨(a1 % 64).toNat, by omega, by omega⟩
  rw [hc] at e1 e2 e3 e4
  simp only [Int.toNat_natCast] at e1 e2 e3
  clear hc
  go_enter Try.func7, Try.ntmps7
  go_wp2_with (first
    | (go_at_call 9; refine (first_true _).mono ?_; rintro e w' ⟨rfl, rfl⟩)
    | (go_at_call 10; refine (do_any _ _ _ _).mono ?_; rintro e w' ⟨rfl, rfl⟩))
  go_loop [11, 12, 13] (fun x y i => ∃ k : Nat, k ≤ c ∧ i = .int .i64 k ∧ x = .int .i64 (wrap64 (a0 * 2 ^ k)) ∧ y = .int .i64 (a0 / 2 ^ k)) (fun _ _ i => c - (intOf i).toNat)
  case atStart => exact ⟨0, Nat.zero_le _, rfl, by simp [wrap_in bd.1 bd.2], by simp⟩
  case round =>
    obtain ⟨k, hk, rfl, rfl, rfl⟩ := hrel
    by_cases h : k < c
    · have hb := half_bounds k bd.1 bd.2
      have hd := double a0 k
      have hh := half a0 k
      have x1 := v_add (wrap64 (a0 * 2 ^ k)) (wrap64 (a0 * 2 ^ k))
      rw [hd] at x1
      clear hd
      revert hb hh
      generalize a0 / 2 ^ k = y
      intro hb hh
      go_wp2_with (go_at_call 10; refine (do_any _ _ _ _).mono ?_; rintro e w' ⟨rfl, rfl⟩)
      all_goals
        go_round
        case rel => exact ⟨k + 1, by omega, by go_num, rfl, by rw [← hh]; first | rw [half_odd y hb.1 ‹_› ‹_›] | rw [half_even y ‹_› ‹_›] | rw [half_pos y ‹_›]⟩
        case measure => simp [intOf]; omega
    · have hk' : k = c := by omega
      subst hk'
      go_wp2
      go_ret
      exact ⟨rfl, Grown.refl _⟩

set_option maxRecDepth 100000 in
theorem lifted (os : Os) (started : os.Started) (H : Type) (enc : TypeId × Value → H) :
    ReturnsInHanded {} Try.checked os 7 .any (Rows.numMovesSpec.pre6 enc Try.prog Try.f7 Rows.numMovesRow.domain false) (Rows.numMovesSpec.post enc Try.prog Try.f7 false true false false) := by
  refine returnsInHanded_of_change (C := Try.checked) own started (by kernel_rfl) Try.func7
    (ChangeSpec.witness6 (enc := enc) (C := Try.checked) false ⟨#[], #[.int .i64 0, .int .i64 0], []⟩ 8 (by kernel_rfl) (by kernel_rfl) (by kernel_rfl) (by kernel_rfl)) ?_
  intro W base args ds gs before hval0 hW hcnd _
  have hval : ∀ (j : Nat) t v, Try.f7.params[j]? = some t → args[j]? = some v → Value.okWide Try.prog W .any base t v := hval0
  have hW' := hW
  obtain ⟨p, q, hA0, hV, rfl, hfz, hnd⟩ := hW
  have hA : DataW.TrodAll enc Try.prog W 0 (fun _ => true) true Try.f7.params.toList args.toList ds p := hA0
  rw [Try.params7] at hA hval
  obtain ⟨v0, vs0, d0, ds0, p0, q0, hargs, rfl, rfl, h0, r0⟩ := trodAll_cons hA
  obtain ⟨v1, vs1, d1, ds1, p1, q1, rfl, rfl, rfl, h1, r1⟩ := trodAll_cons r0
  obtain ⟨rfl, rfl, rfl⟩ := trodAll_nil r1
  obtain rfl : args = #[v0, v1] := by cases args; simp_all
  obtain ⟨rfl, rfl⟩ := trodVars_none hV
  obtain ⟨a0, rfl, rfl, rfl, w0⟩ := open_int Try.underlying2 (hval 0 2 v0 rfl rfl) h0
  obtain ⟨a1, rfl, rfl, rfl, w1⟩ := open_int Try.underlying2 (hval 1 2 v1 rfl rfl) h1
  clear hA0 hval0
  simp only [List.append_nil] at hW'
  refine (walk a0 a1 w0 w1 W).mono fun e W' ⟨he, hg⟩ => ?_
  subst he
  exact ⟨_, rfl, post_of_same (pa := []) (pv := []) hW' (fun _ _ _ => (trodAll_cons_mk (shut_bool Try.underlying4 _) trodAll_mk0)) (fun sp _ => (trodAll_cons_mk (shut_int Try.underlying2 w0) (trodAll_cons_mk (shut_int Try.underlying2 w1) trodAll_mk0))) (fun _ _ => rfl) rfl
    (hg.frame _) hg.2.1 (ok_one (by kernel_rfl) rfl (okWide_bool_mk Try.underlying4 _))⟩

theorem over : Rows.numMovesRow.holds Try.pinned (OpenSpec.ofChange Rows.numMovesSpec) :=
  OpenClaim.holds_of_wide 7 Try.f7 rfl rfl rfl rfl rfl rfl rfl ⟨rfl, rfl, rfl, rfl, rfl⟩ rfl rfl rfl rfl rfl (by kernel_rfl) Try.func7 (by kernel_rfl)
    (of_decide_eq_true (by kernel_rfl)) (by unfold Func.isWrapper; first | (rw [if_pos (by decide +kernel)]; kernel_rfl) | (rw [if_neg (by decide +kernel)]; exact ⟨rfl, rfl⟩))
    (fun os started H enc _ => lifted os started H enc)

theorem proved : Rows.NumMovesSaid :=
  over
#print axioms proved
end Go.Proofs.Ytajccmlijbggoaa.numMoves
