/-
  Proved: plnlaw5.DomWays answers true at every argument: on any way from block 0 on, all that is over the block it comes to has been met.
-/
import Derived.Test.YtahjippocejphaaRows
import Derived.Test.YtahjippocejphaaDmx
import Derived.Test.YtahjippocejphaaOpen
import Derived.WalkSpells
import Derived.Below
import Derived.WalkKit
import Derived.ProofKit
import Derived.OpenShut
import Derived.ShutString
import Derived.ChangeOld
import Derived.SizedLaws
namespace Go.Proofs.Ytahjippocejphaa.domWays
open Go.ChangeShapes Go.WideShapes Go.ChangeAt Go.RowKit View Rd Num Opn Go.Proofs.Ytahjippocejphaa.Dm Go.Proofs.Ytahjippocejphaa.Flo
set_option linter.unusedVariables false

theorem own : ownKnob Try.prog.godebug = none := by kernel_rfl
theorem laidOut : laidOutB Try.prog = true := by kernel_rfl

set_option maxRecDepth 100000 in
set_option maxHeartbeats 1000000 in
theorem lifted (os : Os) (started : os.Started) (H : Type) (enc : TypeId × Value → H) :
    ReturnsInHanded {} Try.checked os 6 .any (Rows.domWaysSpec.pre6 enc Try.prog Try.f6 Rows.domWaysRow.domain false) (Rows.domWaysSpec.post enc Try.prog Try.f6 false true false false) := by
  refine returnsInHanded_of_change_sized (C := Try.checked) own started (by kernel_rfl) Try.func6
    (ChangeSpec.witness6 (enc := enc) (C := Try.checked) false ⟨#[], #[.agg #[.string ByteArray.empty, .bool false, .slice none 0 0, .int .i64 0, .slice none 0 0], .slice none 0 0], []⟩ 8 (by kernel_rfl) (by kernel_rfl) (by kernel_rfl) (by kernel_rfl)) ?_
  intro W base args ds gs before hval0 hW hcnd hsz _
  have hval : ∀ (j : Nat) t v, Try.f6.params[j]? = some t → args[j]? = some v → Value.okWide Try.prog W .any base t v := hval0
  have hW' := hW
  obtain ⟨p, q, hA0, hV, rfl, hfz, hnd⟩ := hW
  have hA : DataW.TrodAll enc Try.prog W 0 (fun _ => true) true Try.f6.params.toList args.toList ds p := hA0
  rw [Try.params6] at hA hval
  obtain ⟨v0, vs0, d0, ds0, p0, q0, hargs, rfl, rfl, h0, r0⟩ := trodAll_cons hA
  obtain ⟨v1, vs1, d1, ds1, p1, q1, rfl, rfl, rfl, h1, r1⟩ := trodAll_cons r0
  obtain ⟨rfl, rfl, rfl⟩ := trodAll_nil r1
  obtain rfl : args = #[v0, v1] := by cases args; simp_all
  obtain ⟨rfl, rfl⟩ := trodVars_none hV
  have k0 := h0
  have lt0 : ∀ x ∈ p0, x.block < W.heap.size := by obtain ⟨m, hm⟩ := k0; exact DataW.trod_lt m _ _ _ hm
  have hl0 : Lgt 33 d0 := fun n hn => by
    have := List.all_eq_true.1 hsz n (DataW.weights_mem_each (j := 0) (t := 33) (by rw [Try.params6]; rfl) rfl n hn)
    simpa using this
  have k1 := h1
  have lt1 : ∀ x ∈ p1, x.block < W.heap.size := by obtain ⟨m, hm⟩ := k1; exact DataW.trod_lt m _ _ _ hm
  have hl1 : Lgt 30 d1 := fun n hn => by
    have := List.all_eq_true.1 hsz n (DataW.weights_mem_each (j := 1) (t := 30) (by rw [Try.params6]; rfl) rfl n hn)
    simpa using this
  obtain ⟨cs0, rfl, _⟩ := okWide_struct Try.underlying33 (hval 0 33 v0 rfl rfl)
  obtain ⟨F0, hF0, hin0, hfit0, _⟩ : ∃ F : FV, cs0.toList = [.string F.name, .bool F.out, .slice F.par.a F.par.n F.par.c, .int .i64 F.res, .slice F.blk.a F.blk.n F.blk.c] ∧ In W F ∧ Fits F ∧ F.name.size ≤ maxLen := by
    obtain ⟨fuel, hf⟩ := h0
    exact open_func (x := (d0, p0)) hf hl0
  obtain rfl : cs0 = #[.string F0.name, .bool F0.out, .slice F0.par.a F0.par.n F0.par.c, .int .i64 F0.res, .slice F0.blk.a F0.blk.n F0.blk.c] := by cases cs0; simp_all
  obtain ⟨sa1, sn1, sc1, rfl⟩ := okWide_slice Try.underlying30 (hval 1 30 v1 rfl rfl)
  obtain ⟨s1, f1, hs1, hin1, hfit1⟩ : ∃ (s : Sl) (f : Nat → Int), [Value.slice sa1 sn1 sc1] = [.slice s.a s.n s.c] ∧ Ints W s f ∧ ∀ i, i < s.n → W64 (f i) := by
    obtain ⟨fuel, hf⟩ := h1
    exact open_intsV (x := (d1, p1)) hf hl1
  obtain ⟨rfl, rfl, rfl⟩ : sa1 = s1.a ∧ sn1 = s1.n ∧ sc1 = s1.c := by simpa using hs1
  clear hA0 hval0
  refine (domWays_any F0 s1 f1 W hin0 hfit0.into hin1).mono fun e W' ⟨he, bel⟩ => ?_
  subst he
  exact ⟨_, rfl, _, _, _, [], _, [], hW', trodAll_mk1 (shut_bool Try.underlying4 _), (trodAll_cons_mk (Below.trod laidOut (by kernel_rfl) (of_decide_eq_true (by kernel_rfl)) k0 bel lt0) (trodAll_cons_mk (Below.trod laidOut (by kernel_rfl) (of_decide_eq_true (by kernel_rfl)) k1 bel lt1) trodAll_mk0)), rfl, bel.frame _, fun h => by cases h⟩

theorem over : Rows.domWaysRow.holds Try.pinned (OpenSpec.ofChange Rows.domWaysSpec) :=
  OpenClaim.holds_of_wide 6 Try.f6 rfl rfl rfl rfl rfl rfl rfl ⟨rfl, rfl, rfl, rfl, rfl⟩ rfl rfl rfl rfl rfl (by kernel_rfl) Try.func6 (by kernel_rfl)
    (of_decide_eq_true (by kernel_rfl)) (by unfold Func.isWrapper; first | (rw [if_pos (by decide +kernel)]; kernel_rfl) | (rw [if_neg (by decide +kernel)]; exact ⟨rfl, rfl⟩))
    (fun os started H enc _ => lifted os started H enc)

theorem proved : Rows.DomWaysSaid := over
#print axioms proved
end Go.Proofs.Ytahjippocejphaa.domWays
