/-
  Proved: for every slice of bytes and every place WireOne answers true and leaves the bytes as they were: what wire.Get reads there, put again by wire.Put, is the same bytes, and where nothing stands it tells the right error and zero values. No condition.
-/
import Derived.Test.YtiepgocbgjdhpaaRows
import Derived.Test.YtiepgocbgjdhpaaLaw
import Derived.WalkSpells
import Derived.Deep.Light
import Derived.Deep.RegionHeld3
import Derived.Deep.DrawnRows
import Derived.WalkKit
import Derived.ProofKit
import Derived.OpenShut
import Derived.ShutString
import Derived.ChangeOld
import Derived.Below
namespace Go.Proofs.Ytiepgocbgjdhpaa.wireOne
open Go.ChangeShapes Go.WideShapes Go.ChangeAt Go.RowKit Plain Get Cv Put GetText First Law Math
open Go.ChangeMaps (open_string shut_string)
set_option linter.unusedVariables false

theorem own : ownKnob Try.prog.godebug = none := by kernel_rfl
theorem laidOut : laidOutB Try.prog = true := by kernel_rfl

def IsRow (k : IntKind) (w : World) (a : Option Addr) (len cap : Nat) (zs : List Int) : Prop :=
  (a = none ∧ len = 0 ∧ cap = 0 ∧ zs = []) ∨
  ∃ x, a = some x ∧ len ≤ cap ∧ cap ≤ maxLen ∧ zs.length = cap ∧ (∀ i, i < zs.length → w.cell? (x.add i) = some (.int k (zs.getD i 0))) ∧ ∀ n ∈ zs, (Lit.int k n).wf = true

attribute [local go_sem ↓] Go.wp_at_zero Go.wp_at_succ

theorem got_err (f : Nat → Int) (n : Nat) (p : Int) : (got f n p).2.2 ≠ 0 → (got f n p).1 = 0 ∧ (got f n p).2.1 = 0 ∧ ((got f n p).2.2 = 1 ∨ (got f n p).2.2 = 8) ∧ ((got f n p).2.2 = 8 → p < 0 ∨ (n : Int) < p) := by
  unfold got
  split
  · rename_i h; exact fun _ => ⟨rfl, rfl, .inr rfl, fun _ => h⟩
  split
  · exact fun _ => ⟨rfl, rfl, .inl rfl, fun h => by simp at h⟩
  split
  · exact fun _ => ⟨rfl, rfl, .inl rfl, fun h => by simp at h⟩
  split
  · exact fun h => absurd rfl h
  split
  · exact fun _ => ⟨rfl, rfl, .inl rfl, fun h => by simp at h⟩
  split
  · exact fun _ => ⟨rfl, rfl, .inl rfl, fun h => by simp at h⟩
  · exact fun h => absurd rfl h

/-- An operation is taken first; where it leaves its value is told. -/
theorem takeAt {P : Program} {ops : Array Oper} {Q : Exit → Act → World → Prop} {md : Region.Mode} {S : World → Prop} {i : Nat} {oi : Oper} {d : Option Tmp} {v : Value} {fuel : Nat} {listed : Array Bool} {a : Act} {w : World} (hi : ops[i]? = some oi) (hd : oi.dst = d)
    (hs : Region.noSelect ops = true) (hf : Region.free md ops listed i = true) (hr : (Region.ready md ops listed).contains i = true)
    (hQ : ∀ c a w, Q (.panic c) (a.put d v) w → Q (.panic c) a w) (hy : YieldsIf P ops S oi v a) (hS : S w)
    (h : wpAnyH P md ops Q S fuel (listed.setIfInBounds i true) (a.put d v) w) : wpAnyH P md ops Q S (fuel + 1) listed a w := by
  subst hd
  exact wpAnyH_take hi hs hf hr hQ hy hS h

/-- Another condition, which says more, from here on. -/
theorem wpAnyH_switch {P : Program} {ops : Array Oper} {Q : Exit → Act → World → Prop} {md : Region.Mode} {S S' : World → Prop} (h : ∀ w, S' w → S w) :
    ∀ (fuel : Nat) (listed : Array Bool) (a : Act) (w : World), wpAnyH P md ops Q S' fuel listed a w → wpAnyH P md ops Q S fuel listed a w
  | 0, _, _, _, H => H
  | fuel + 1, _, _, _, H => ⟨H.1, fun i hi => wpOp_mono (fun a' w' h' => ⟨h w' h'.1, wpAnyH_switch h fuel _ a' w' h'.2⟩) (H.2 i hi)⟩

theorem put_nil (n : Int) (w : World) (h0 : -9223372036854775808 ≤ n) (h1 : n ≤ 9223372036854775807) :
    Calls Try.prog 12 #[.slice none 0 0, .int .i64 n] w fun e w' => ∃ g c, e = .returned (.slice (some ⟨g, 0, none⟩) (num n).length c) ∧ Own w.heap.size w' g (num n).length c (num n) ∧ Below w.heap.size w w' := by
  have h := put_own none 0 0 [] n w h0 h1 (in_nil w) (by decide)
  rw [Nat.zero_add, List.nil_append] at h
  exact h

theorem got_out (f : Nat → Int) (n : Nat) (p : Int) (h : p < 0 ∨ (n : Int) < p) : got f n p = (0, 0, 8) := by
  unfold got; rw [if_pos h]

set_option maxHeartbeats 400000 in
theorem walk_long (a : Option Addr) (len cap : Nat) (p : Int) (w : World) (h : (300 : Int) < len) :
    Calls Try.prog 5 #[.slice a len cap, .int .i64 p] w fun e w' => e = .returned (.bool true) ∧ Below w.heap.size w w' := by
  go_enter Try.func5, Try.ntmps5
  go_wp2_with fail
  refine (first_true _).mono ?_
  rintro e w1 ⟨rfl, hb1⟩
  go_wp2_with fail
  refine (first_true _).mono ?_
  rintro e w2 ⟨rfl, hb2⟩
  go_wp2_with fail
  go_ret
  exact ⟨rfl, hb1.trans (hb2.mono hb1.size)⟩

set_option maxHeartbeats 400000 in
theorem walk_out (a : Option Addr) (len cap : Nat) (p : Int) (xs : List Int) (w : World) (hl : ¬ (300 : Int) < len) (hin : In w a len cap xs) (h : p < 0 ∨ (len : Int) < p) :
    Calls Try.prog 5 #[.slice a len cap, .int .i64 p] w fun e w' => e = .returned (.bool true) ∧ Below w.heap.size w w' := by
  have hg := hide (got_out (fun i => xs.getD i 0) len p h)
  have HI := hide hin
  clear hin
  by_cases h0 : p < 0
  · go_enter Try.func5, Try.ntmps5
    go_wp2_with fail
    refine (first_true _).mono ?_
    rintro e w1 ⟨rfl, hb1⟩
    go_wp2_with fail
    refine (get_is _ len cap p _ _ (In.carry HI.out hb1).2.1 0 0 8 hg.out).mono ?_
    rintro e w2 ⟨rfl, q, rfl⟩
    go_wp2_with fail
    go_ret
    exact ⟨rfl, below_drewN hb1 q⟩
  · have h1 : decide (p < 0) = false := by simpa using h0
    have h2 : (len : Int) < p := by omega
    go_enter Try.func5, Try.ntmps5
    go_wp2_with fail
    refine (first_true _).mono ?_
    rintro e w1 ⟨rfl, hb1⟩
    go_wp2_with fail
    refine (get_is _ len cap p _ _ (In.carry HI.out hb1).2.1 0 0 8 hg.out).mono ?_
    rintro e w2 ⟨rfl, q, rfl⟩
    go_wp2_with fail
    go_ret
    exact ⟨rfl, below_drewN hb1 q⟩

set_option maxHeartbeats 400000 in
theorem walk_err (a : Option Addr) (len cap : Nat) (p : Int) (xs : List Int) (w : World) (hl : ¬ (300 : Int) < len) (hin : In w a len cap xs) (h0 : ¬ p < 0) (h2 : ¬ (len : Int) < p) (hg0 : got (fun i => xs.getD i 0) len p = (0, 0, 1)) :
    Calls Try.prog 5 #[.slice a len cap, .int .i64 p] w fun e w' => e = .returned (.bool true) ∧ Below w.heap.size w w' := by
  have hg := hide hg0
  have HI := hide hin
  clear hin hg0
  have h1 : decide (p < 0) = false := by simpa using h0
  go_enter Try.func5, Try.ntmps5
  go_wp2_with fail
  refine (first_true _).mono ?_
  rintro e w1 ⟨rfl, hb1⟩
  go_wp2_with fail
  refine (get_is _ len cap p _ _ (In.carry HI.out hb1).2.1 0 0 1 hg.out).mono ?_
  rintro e w2 ⟨rfl, q, rfl⟩
  go_wp2_with fail
  go_ret
  exact ⟨rfl, below_drewN hb1 q⟩

set_option maxHeartbeats 1000000 in
theorem walk_ok (b off len cap : Nat) (p nx : Nat) (v : Int) (xs : List Int) (w : World) (hl : ¬ (300 : Int) < len) (hin : In w (some ⟨b, off, none⟩) len cap xs) (hp : p < nx) (hnx : nx ≤ len) (hv0 : -9223372036854775808 ≤ v) (hv1 : v ≤ 9223372036854775807)
   (hg0 : got (fun i => xs.getD i 0) len p = (v, (nx : Int), 0)) (hnum : num v = seg (fun i => xs.getD i 0) p (nx - p)) :
    Calls Try.prog 5 #[.slice (some ⟨b, off, none⟩) len cap, .int .i64 p] w fun e w' => e = .returned (.bool true) ∧ Below w.heap.size w w' := by
  have hg := hide hg0
  have HI := hide hin
  have HN := hide hnum
  have hc1 := hin.2.1.1
  have hc2 := hin.2.1.2.1
  unfold maxLen at hc2
  clear hin hg0 hnum
  have h1 : decide ((p : Int) < 0) = false := by simp
  have h2 : ¬ len < p := by omega
  have h2' : decide (len < p) = false := by simpa using h2
  have h3 : (p : Int) < nx := by omega
  have h4 : (nx : Int) ≤ len := by omega
  have h5 : ¬ cap = p := by omega
  have h6 : (0 : Int) ≤ p := by omega
  have h7 : (p : Int) ≤ nx := by omega
  have h8 : (nx : Int) ≤ cap := by omega
  go_enter Try.func5, Try.ntmps5
  go_wp2_with fail
  refine (first_true _).mono ?_
  rintro e w1 ⟨rfl, hb1⟩
  go_wp2_with fail
  refine (get_is _ len cap p _ _ (In.carry HI.out hb1).2.1 v nx 0 hg.out).mono ?_
  rintro e w2 ⟨rfl, q, rfl⟩
  have hrow := (In.carry HI.out hb1)
  have HB : Hid (∀ w2 : World, (∀ i, i < len → w2.cell? ⟨b, off + i, none⟩ = w1.cell? ⟨b, off + i, none⟩) → (convert 22 9 (.slice (some ⟨b, off + p, none⟩) (nx - p) (cap - p))).run Try.prog w2 = .ok (.string (str (num v))) w2) := by
    intro w2 hw2
    obtain ⟨b', off', hab, hc⟩ := hrow.2.1.2.2.2 (by omega)
    simp only [Option.some.injEq, Addr.mk.injEq, and_true] at hab
    obtain ⟨rfl, rfl⟩ := hab
    rw [HN.out]
    refine run_conv w2 _ _ _ _ (seg_length _ _ _) (fun _ => ⟨b, off + p, rfl, fun i hi => ?_⟩)
    rw [seg_get _ _ _ i hi, Nat.add_assoc, hw2 _ (by omega)]
    exact hc _ (by omega)
  have HC : Hid (∀ i, i < len → (⟨b, off + i, none⟩ : Addr).block < w1.heap.size) := by
    intro i hi
    obtain ⟨b', off', hab, hc⟩ := hrow.2.1.2.2.2 (by omega)
    simp only [Option.some.injEq, Addr.mk.injEq, and_true] at hab
    obtain ⟨rfl, rfl⟩ := hab
    exact cell_lt (hc i hi)
  have hcvA := fun q => HB.out (w1.drewN q) (fun _ _ => rfl)
  clear hrow
  go_wp2_with fail
  refine wp_region_noPanic ?_
  refine wp_region_held_drew (S := fun w' => (convert 22 9 (.slice (some ⟨b, off + p, none⟩) (nx - p) (cap - p))).run Try.prog w' = .ok (.string (str (num v))) w') (by kernel_rfl) (hcvA (q + 1)) (fun hS => ?_)
  refine takeAt (i := 0) (d := some 51) (v := ?v0) rfl (by rfl) (by kernel_rfl) (by kernel_rfl) (by kernel_rfl) (fun _ _ _ h => h) (Or.inl ⟨by rfl, ?y0⟩) hS ?_
  case y0 => intro wx hSw; (go_simp) <;> with_reducible rfl
  simp only [Act.put, List.setIfInBounds_toArray, List.set_cons_zero, List.set_cons_succ]
  refine takeAt (i := 1) (d := some 52) (v := ?v1) rfl (by rfl) (by kernel_rfl) (by kernel_rfl) (by kernel_rfl) (fun _ _ _ h => h) (Or.inl ⟨by rfl, ?y1⟩) hS ?_
  case y1 => intro wx hSw; (go_simp) <;> with_reducible rfl
  simp only [Act.put, List.setIfInBounds_toArray, List.set_cons_zero, List.set_cons_succ]
  refine takeAt (i := 2) (d := some 53) (v := ?v2) rfl (by rfl) (by kernel_rfl) (by kernel_rfl) (by kernel_rfl) (fun _ _ _ h => h) (Or.inl ⟨by rfl, ?y2⟩) hS ?_
  case y2 => intro wx hSw; (go_simp) <;> with_reducible rfl
  simp only [Act.put, List.setIfInBounds_toArray, List.set_cons_zero, List.set_cons_succ]
  refine takeAt (i := 3) (d := some 54) (v := ?v3) rfl (by rfl) (by kernel_rfl) (by kernel_rfl) (by kernel_rfl) (fun _ _ _ h => h) (Or.inl ⟨by rfl, ?y3⟩) hS ?_
  case y3 => intro wx hSw; (go_simp) <;> with_reducible rfl
  simp only [Act.put, List.setIfInBounds_toArray, List.set_cons_zero, List.set_cons_succ]
  refine takeAt (i := 4) (d := some 55) (v := ?v4) rfl (by rfl) (by kernel_rfl) (by kernel_rfl) (by kernel_rfl) (fun _ _ _ h => h) (Or.inl ⟨by rfl, ?y4⟩) hS ?_
  case y4 => intro wx hSw; (go_simp) <;> with_reducible rfl
  simp only [Act.put, List.setIfInBounds_toArray, List.set_cons_zero, List.set_cons_succ]
  refine takeAt (i := 5) (d := some 56) (v := ?v5) rfl (by rfl) (by kernel_rfl) (by kernel_rfl) (by kernel_rfl) (fun _ _ _ h => h) (Or.inl ⟨by rfl, ?y5⟩) hS ?_
  case y5 => intro wx hSw; (go_simp) <;> with_reducible rfl
  simp only [Act.put, List.setIfInBounds_toArray, List.set_cons_zero, List.set_cons_succ]
  refine takeAt (i := 6) (d := some 57) (v := ?v6) rfl (by rfl) (by kernel_rfl) (by kernel_rfl) (by kernel_rfl) (fun _ _ _ h => h) (Or.inl ⟨by rfl, ?y6⟩) hS ?_
  case y6 => intro wx hSw; (go_simp) <;> with_reducible rfl
  simp only [Act.put, List.setIfInBounds_toArray, List.set_cons_zero, List.set_cons_succ]
  refine takeAt (i := 7) (d := some 58) (v := ?v7) rfl (by rfl) (by kernel_rfl) (by kernel_rfl) (by kernel_rfl) (fun _ _ _ h => h) (Or.inl ⟨by rfl, ?y7⟩) hS ?_
  case y7 => intro wx hSw; (go_simp) <;> with_reducible rfl
  simp only [Act.put, List.setIfInBounds_toArray, List.set_cons_zero, List.set_cons_succ]
  refine takeAt (i := 8) (d := some 59) (v := ?v8) rfl (by rfl) (by kernel_rfl) (by kernel_rfl) (by kernel_rfl) (fun _ _ _ h => h) (Or.inl ⟨by rfl, ?y8⟩) hS ?_
  case y8 => intro wx hSw; (go_simp) <;> with_reducible rfl
  simp only [Act.put, List.setIfInBounds_toArray, List.set_cons_zero, List.set_cons_succ]
  refine takeAt (i := 9) (d := some 60) (v := ?v9) rfl (by rfl) (by kernel_rfl) (by kernel_rfl) (by kernel_rfl) (fun _ _ _ h => h) (Or.inl ⟨by rfl, ?y9⟩) hS ?_
  case y9 => intro wx hSw; (go_simp) <;> with_reducible rfl
  simp only [Act.put, List.setIfInBounds_toArray, List.set_cons_zero, List.set_cons_succ]
  refine takeAt (i := 10) (d := some 61) (v := ?v10) rfl (by rfl) (by kernel_rfl) (by kernel_rfl) (by kernel_rfl) (fun _ _ _ h => h) (Or.inl ⟨by rfl, ?y10⟩) hS ?_
  case y10 => intro wx hSw; (go_simp) <;> with_reducible rfl
  simp only [Act.put, List.setIfInBounds_toArray, List.set_cons_zero, List.set_cons_succ]
  refine takeAt (i := 13) (d := some 64) (v := ?v13) rfl (by rfl) (by kernel_rfl) (by kernel_rfl) (by kernel_rfl) (fun _ _ _ h => h) (Or.inl ⟨by rfl, ?y13⟩) hS ?_
  case y13 => intro wx hSw; (go_simp) <;> with_reducible rfl
  simp only [Act.put, List.setIfInBounds_toArray, List.set_cons_zero, List.set_cons_succ]
  refine takeAt (i := 14) (d := some 65) (v := ?v14) rfl (by rfl) (by kernel_rfl) (by kernel_rfl) (by kernel_rfl) (fun _ _ _ h => h) (Or.inl ⟨by rfl, ?y14⟩) hS ?_
  case y14 => intro wx hSw; (go_simp) <;> with_reducible rfl
  simp only [Act.put, List.setIfInBounds_toArray, List.set_cons_zero, List.set_cons_succ]
  refine takeAt (i := 15) (d := some 66) (v := ?v15) rfl (by rfl) (by kernel_rfl) (by kernel_rfl) (by kernel_rfl) (fun _ _ _ h => h) (Or.inl ⟨by rfl, ?y15⟩) hS ?_
  case y15 => intro wx hSw; (go_simp) <;> with_reducible rfl
  simp only [Act.put, List.setIfInBounds_toArray, List.set_cons_zero, List.set_cons_succ]
  refine takeAt (i := 16) (d := some 67) (v := ?v16) rfl (by rfl) (by kernel_rfl) (by kernel_rfl) (by kernel_rfl) (fun _ _ _ h => h) (Or.inl ⟨by rfl, ?y16⟩) hS ?_
  case y16 => intro wx hSw; (go_simp) <;> with_reducible rfl
  simp only [Act.put, List.setIfInBounds_toArray, List.set_cons_zero, List.set_cons_succ]
  refine takeAt (i := 17) (d := some 68) (v := ?v17) rfl (by rfl) (by kernel_rfl) (by kernel_rfl) (by kernel_rfl) (fun _ _ _ h => h) (Or.inl ⟨by rfl, ?y17⟩) hS ?_
  case y17 => intro wx hSw; (go_simp) <;> with_reducible rfl
  simp only [Act.put, List.setIfInBounds_toArray, List.set_cons_zero, List.set_cons_succ]
  refine wpAnyH_ready (rs := [11]) (by kernel_rfl) (by simp) ?_
  refine AllReadyH.cons rfl (fun K hK => ?_) AllReadyH.nil
  go_simp
  refine (put_nil v _ hv0 hv1).mono ?_
  rintro e w2 ⟨g2, c2, rfl, ho2, hb2⟩
  have hcvC := HB.out w2 (fun i hi => hb2.cell (p := ⟨b, off + i, none⟩) (HC.out i hi))
  have hcvB := ho2.conv w2 (fun _ => rfl)
  clear hS
  go_wp2_with fail
  refine hK.out _ _ hcvC (fun _ => ?_)
  clear hK K
  refine wpAnyH_switch (S' := fun w' => (convert 22 9 (.slice (some ⟨g2, 0, none⟩) (num v).length c2)).run Try.prog w' = .ok (.string (str (num v))) w' ∧ (convert 22 9 (.slice (some ⟨b, off + p, none⟩) (nx - p) (cap - p))).run Try.prog w' = .ok (.string (str (num v))) w') (fun _ h => h.2) _ _ _ _ ?_
  have hS : (convert 22 9 (.slice (some ⟨g2, 0, none⟩) (num v).length c2)).run Try.prog w2 = .ok (.string (str (num v))) w2 ∧ (convert 22 9 (.slice (some ⟨b, off + p, none⟩) (nx - p) (cap - p))).run Try.prog w2 = .ok (.string (str (num v))) w2 := ⟨hcvB, hcvC⟩
  refine takeAt (i := 12) (d := some 63) (v := ?v12) rfl (by rfl) (by kernel_rfl) (by kernel_rfl) (by kernel_rfl) (fun _ _ _ h => h) (Or.inl ⟨by rfl, ?y12⟩) hS ?_
  case y12 => intro wx hSw; (go_simp) <;> with_reducible rfl
  simp only [Act.put, List.setIfInBounds_toArray, List.set_cons_zero, List.set_cons_succ]
  refine takeAt (i := 18) (d := some 69) (v := ?v18) rfl (by rfl) (by kernel_rfl) (by kernel_rfl) (by kernel_rfl) (fun _ _ _ h => h) (Or.inl ⟨by rfl, ?y18⟩) hS ?_
  case y18 => intro wx hSw; (go_simp) <;> with_reducible rfl
  simp only [Act.put, List.setIfInBounds_toArray, List.set_cons_zero, List.set_cons_succ]
  refine takeAt (i := 19) (d := some 70) (v := ?v19) rfl (by rfl) (by kernel_rfl) (by kernel_rfl) (by kernel_rfl) (fun _ _ _ h => h) (Or.inl ⟨by rfl, ?y19⟩) hS ?_
  case y19 => intro wx hSw; (go_simp) <;> with_reducible rfl
  simp only [Act.put, List.setIfInBounds_toArray, List.set_cons_zero, List.set_cons_succ]
  refine takeAt (i := 20) (d := some 4) (v := ?v20) rfl (by rfl) (by kernel_rfl) (by kernel_rfl) (by kernel_rfl) (fun _ _ _ h => h) (Or.inl ⟨by rfl, ?y20⟩) hS ?_
  case y20 => intro wx hSw; (go_simp) <;> with_reducible rfl
  simp only [Act.put, List.setIfInBounds_toArray, List.set_cons_zero, List.set_cons_succ]
  refine wpAnyH_done (by kernel_rfl) ?_ _
  refine NoPanic.normal ?_
  go_wp2_with fail
  go_ret
  exact ⟨rfl, (below_drewN hb1 (q + 1)).trans (hb2.mono hb1.size)⟩

theorem walk (a0 : Option Addr) (len0 cap0 : Nat) (z0 : List Int) (a1 : Int) (w : World) (w0 : IsRow .u8 w a0 len0 cap0 z0) (w1 : (Lit.int .i64 a1).wf = true) :
    Calls Try.prog 5 #[.slice a0 len0 cap0, .int .i64 a1] w fun e w' => e = .returned (.bool true) ∧ Below w.heap.size w w' := by
  obtain ⟨xs, hin, hb⟩ := row_in w0
  by_cases hl : (300 : Int) < len0
  · exact walk_long a0 len0 cap0 a1 w hl
  by_cases ho : a1 < 0 ∨ (len0 : Int) < a1
  · exact walk_out a0 len0 cap0 a1 xs w hl hin ho
  obtain ⟨⟨v, nx, e⟩, hg⟩ : ∃ g, got (fun i => xs.getD i 0) len0 a1 = g := ⟨_, rfl⟩
  by_cases he : e = 0
  · subst he
    obtain ⟨h0, h1, h2, h3, h4, h5⟩ := num_got _ len0 a1 v nx hin.2.1.2.2.1 hg
    obtain ⟨p, rfl⟩ := Int.eq_ofNat_of_zero_le h0
    obtain ⟨nx, rfl⟩ := Int.eq_ofNat_of_zero_le (a := nx) (by omega)
    obtain ⟨b, off, rfl, _⟩ := hin.2.1.2.2.2 (by omega)
    rw [Int.toNat_natCast, show ((nx : Int) - (p : Int)).toNat = nx - p by omega] at h5
    exact walk_ok b off len0 cap0 p nx v xs w hl hin (by omega) (by omega) h3 h4 hg h5
  · have h := got_err (fun i => xs.getD i 0) len0 a1 (by rw [hg]; exact he)
    rw [hg] at h
    obtain ⟨hv, hnx, h1, h2⟩ := h
    simp only at hv hnx h1 h2
    have e1 : e = 1 := by
      rcases h1 with h1 | h1
      · exact h1
      · exact absurd (h2 h1) ho
    rw [hv, hnx, e1] at hg
    exact walk_err a0 len0 cap0 a1 xs w hl hin (by omega) (by omega) hg

set_option maxRecDepth 100000 in
theorem lifted (os : Os) (started : os.Started) (H : Type) (enc : TypeId × Value → H) :
    ReturnsInHanded {} Try.checked os 5 .any (Rows.wireOneSpec.pre6 enc Try.prog Try.f5 Rows.wireOneRow.domain false) (Rows.wireOneSpec.post enc Try.prog Try.f5 false true false false) := by
  refine returnsInHanded_of_change (C := Try.checked) own started (by kernel_rfl) Try.func5
    (ChangeSpec.witness6 (enc := enc) (C := Try.checked) false ⟨#[], #[.slice none 0 0, .int .i64 0], []⟩ 8 (by kernel_rfl) (by kernel_rfl) (by kernel_rfl) (by kernel_rfl)) ?_
  intro W base args ds gs before hval0 hW hcnd _
  have hval : ∀ (j : Nat) t v, Try.f5.params[j]? = some t → args[j]? = some v → Value.okWide Try.prog W .any base t v := hval0
  have hW' := hW
  obtain ⟨p, q, hA0, hV, rfl, hfz, hnd⟩ := hW
  have hA : DataW.TrodAll enc Try.prog W 0 (fun _ => true) true Try.f5.params.toList args.toList ds p := hA0
  rw [Try.params5] at hA hval
  obtain ⟨v0, vs0, d0, ds0, p0, q0, hargs, rfl, rfl, h0, r0⟩ := trodAll_cons hA
  obtain ⟨v1, vs1, d1, ds1, p1, q1, rfl, rfl, rfl, h1, r1⟩ := trodAll_cons r0
  obtain ⟨rfl, rfl, rfl⟩ := trodAll_nil r1
  obtain rfl : args = #[v0, v1] := by cases args; simp_all
  obtain ⟨rfl, rfl⟩ := trodVars_none hV
  obtain ⟨a0, len0, cap0, rfl⟩ := okWide_slice Try.underlying22 (hval 0 22 v0 rfl rfl)
  have k0 := h0
  have lt0 : ∀ x ∈ p0, x.block < W.heap.size := by obtain ⟨m, hm⟩ := k0; exact DataW.trod_lt m _ _ _ hm
  obtain ⟨z0, w0⟩ : ∃ zs, IsRow .u8 W a0 len0 cap0 zs := by
    obtain ⟨fuel, hf⟩ := h0
    rcases open_ints Try.underlying22 Try.underlying5 (by kernel_rfl) hf with ⟨hcs, _⟩ | ⟨x, l, c, zs, hcs, _, hl, hm, hz, _, hcell, hwz⟩
    · simp [Value.cells] at hcs
      obtain ⟨rfl, rfl, rfl⟩ := hcs
      exact ⟨[], .inl ⟨rfl, rfl, rfl, rfl⟩⟩
    · simp [Value.cells] at hcs
      obtain ⟨rfl, rfl, rfl⟩ := hcs
      exact ⟨zs, .inr ⟨_, rfl, hl, hm, by simpa using hz, hcell, hwz⟩⟩
  obtain ⟨a1, rfl, rfl, rfl, w1⟩ := open_int Try.underlying3 (hval 1 3 v1 rfl rfl) h1
  clear hA0 hval0
  refine (walk a0 len0 cap0 z0 a1 W w0 w1).mono fun e W' ⟨he, bel⟩ => ?_
  subst he
  exact ⟨_, rfl, _, _, _, [], _, [], hW', trodAll_mk1 (shut_bool Try.underlying4 _), (trodAll_cons_mk (Below.trod laidOut (by kernel_rfl) (of_decide_eq_true (by kernel_rfl)) k0 bel lt0) (trodAll_cons_mk (shut_int Try.underlying3 w1) trodAll_mk0)), rfl, bel.frame _, fun h => by cases h⟩

theorem over : Rows.wireOneRow.holds Try.pinned (OpenSpec.ofChange Rows.wireOneSpec) :=
  OpenClaim.holds_of_wide 5 Try.f5 rfl rfl rfl rfl rfl rfl rfl ⟨rfl, rfl, rfl, rfl, rfl⟩ rfl rfl rfl rfl rfl (by kernel_rfl) Try.func5 (by kernel_rfl)
    (of_decide_eq_true (by kernel_rfl)) (by unfold Func.isWrapper; first | (rw [if_pos (by decide +kernel)]; kernel_rfl) | (rw [if_neg (by decide +kernel)]; exact ⟨rfl, rfl⟩))
    (fun os started H enc _ => lifted os started H enc)

theorem proved : Rows.WireOneSaid := over
#print axioms proved
end Go.Proofs.Ytiepgocbgjdhpaa.wireOne
