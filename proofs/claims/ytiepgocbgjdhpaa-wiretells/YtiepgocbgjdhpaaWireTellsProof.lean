/-
  Proved: for every slice of bytes, every place, bound, number and text WireTells answers true and leaves its arguments as they were: wire.Get, GetText, Put and PutText answer as the document's own ones. No condition.
-/
import Derived.Test.YtiepgocbgjdhpaaRows
import Derived.Test.YtiepgocbgjdhpaaRefPut
import Derived.Test.YtiepgocbgjdhpaaRefText
import Derived.WalkSpells
import Derived.Deep.Light
import Derived.Deep.RegionHeld3
import Derived.Deep.DrawnRows
import Derived.WalkKit
import Derived.ProofKit
import Derived.OpenShut
import Derived.ShutString
import Derived.ChangeOld
import Derived.Below
namespace Go.Proofs.Ytiepgocbgjdhpaa.wireTells
open Go.ChangeShapes Go.WideShapes Go.ChangeAt Go.RowKit Plain Get Cv Put GetText First Law Math App RefGet RefText RefPut
open Go.ChangeMaps (open_string shut_string)
set_option linter.unusedVariables false

theorem own : ownKnob Try.prog.godebug = none := by kernel_rfl
theorem laidOut : laidOutB Try.prog = true := by kernel_rfl

def IsRow (k : IntKind) (w : World) (a : Option Addr) (len cap : Nat) (zs : List Int) : Prop :=
  (a = none ∧ len = 0 ∧ cap = 0 ∧ zs = []) ∨
  ∃ x, a = some x ∧ len ≤ cap ∧ cap ≤ maxLen ∧ zs.length = cap ∧ (∀ i, i < zs.length → w.cell? (x.add i) = some (.int k (zs.getD i 0))) ∧ ∀ n ∈ zs, (Lit.int k n).wf = true

attribute [local go_sem ↓] Go.wp_at_zero Go.wp_at_succ

/-- An operation is taken first; where it leaves its value is told. -/
theorem takeAt {P : Program} {ops : Array Oper} {Q : Exit → Act → World → Prop} {md : Region.Mode} {S : World → Prop} {i : Nat} {oi : Oper} {d : Option Tmp} {v : Value} {fuel : Nat} {listed : Array Bool} {a : Act} {w : World} (hi : ops[i]? = some oi) (hd : oi.dst = d)
    (hs : Region.noSelect ops = true) (hf : Region.free md ops listed i = true) (hr : (Region.ready md ops listed).contains i = true)
    (hQ : ∀ c a w, Q (.panic c) (a.put d v) w → Q (.panic c) a w) (hy : YieldsIf P ops S oi v a) (hS : S w)
    (h : wpAnyH P md ops Q S fuel (listed.setIfInBounds i true) (a.put d v) w) : wpAnyH P md ops Q S (fuel + 1) listed a w := by
  subst hd
  exact wpAnyH_take hi hs hf hr hQ hy hS h

/-- Another condition, which says more, from here on. -/
theorem wpAnyH_switch {P : Program} {ops : Array Oper} {Q : Exit → Act → World → Prop} {md : Region.Mode} {S S' : World → Prop} (h : ∀ w, S' w → S w) :
    ∀ (fuel : Nat) (listed : Array Bool) (a : Act) (w : World), wpAnyH P md ops Q S' fuel listed a w → wpAnyH P md ops Q S fuel listed a w
  | 0, _, _, _, H => H
  | fuel + 1, _, _, _, H => ⟨H.1, fun i hi => wpOp_mono (fun a' w' h' => ⟨h w' h'.1, wpAnyH_switch h fuel _ a' w' h'.2⟩) (H.2 i hi)⟩

theorem put_at (a : Option Addr) (len cap : Nat) (xs : List Int) (n : Int) (A : Nat) (hA : len + (num n).length = A) (w : World) (h0 : -9223372036854775808 ≤ n) (h1 : n ≤ 9223372036854775807)
    (hin : In w a len cap xs) (hlen : len ≤ 100000000000) :
    Calls Try.prog 12 #[.slice a len cap, .int .i64 n] w fun e w' => ∃ g c, e = .returned (.slice (some ⟨g, 0, none⟩) A c) ∧ Own w.heap.size w' g A c (xs ++ num n) ∧ Below w.heap.size w w' := by
  subst hA; exact put_own a len cap xs n w h0 h1 hin hlen

theorem rput_at (a : Option Addr) (len cap : Nat) (xs : List Int) (n : Int) (A : Nat) (hA : len + (num n).length = A) (w : World) (h0 : -9223372036854775808 ≤ n) (h1 : n ≤ 9223372036854775807)
    (hin : In w a len cap xs) (hlen : len ≤ 100000000000) :
    Calls Try.prog 13 #[.slice a len cap, .int .i64 n] w fun e w' => ∃ g c, e = .returned (.slice (some ⟨g, 0, none⟩) A c) ∧ Own w.heap.size w' g A c (xs ++ num n) ∧ Below w.heap.size w w' := by
  subst hA; exact rput_any a len cap xs n w h0 h1 hin hlen

theorem putText_at (a : Option Addr) (len cap : Nat) (xs : List Int) (s : ByteArray) (B : Nat) (hB : len + (num s.size).length + s.size = B) (w : World)
    (hin : In w a len cap xs) (hlen : len ≤ 100000000000) (hs : s.size ≤ 100000000000) :
    Calls Try.prog 14 #[.slice a len cap, .string s] w fun e w' => ∃ g c, e = .returned (.slice (some ⟨g, 0, none⟩) B c) ∧ Own w.heap.size w' g B c (xs ++ num s.size ++ sb s) ∧ Below w.heap.size w w' := by
  subst hB; exact putText_own a len cap xs s w hin hlen hs

theorem rputText_at (a : Option Addr) (len cap : Nat) (xs : List Int) (s : ByteArray) (B : Nat) (hB : len + (num s.size).length + s.size = B) (w : World)
    (hin : In w a len cap xs) (hlen : len ≤ 100000000000) (hs : s.size ≤ 100000000000) :
    Calls Try.prog 15 #[.slice a len cap, .string s] w fun e w' => ∃ g c, e = .returned (.slice (some ⟨g, 0, none⟩) B c) ∧ Own w.heap.size w' g B c (xs ++ num s.size ++ sb s) ∧ Below w.heap.size w w' := by
  subst hB; exact rputText_any a len cap xs s w hin hlen hs

theorem text_is (a : Option Addr) (n c : Nat) (p most : Int) (f : Nat → Int) (w : World) (h : Reads w a n c f) (t : List Int) (nx e : Int) (hg : gotText f n p most = (t, nx, e)) :
    Calls Try.prog 10 #[.slice a n c, .int .i64 p, .int .i64 most] w fun r w' => r = .returned (.tuple #[.string (str t), .int .i64 nx, .int .i64 e]) ∧ ∃ q, w' = w.drewN q := by
  have := text_any a n c p most f w h
  rw [hg] at this
  exact this

theorem rtext_is (a : Option Addr) (n c : Nat) (p most : Int) (f : Nat → Int) (w : World) (h : Reads w a n c f) (t : List Int) (nx e : Int) (hg : gotText f n p most = (t, nx, e)) :
    Calls Try.prog 11 #[.slice a n c, .int .i64 p, .int .i64 most] w fun r w' => r = .returned (.tuple #[.string (str t), .int .i64 nx, .int .i64 e]) ∧ ∃ q, w' = w.drewN q := by
  have := rtext_any a n c p most f w h
  rw [hg] at this
  exact this

/-- What a row that was made is as a text. -/
theorem put_conv {f : Nat} {args : Array Value} {w : World} {N : Nat} {l : List Int}
    (h : Calls Try.prog f args w fun e w' => ∃ g c, e = .returned (.slice (some ⟨g, 0, none⟩) N c) ∧ Own w.heap.size w' g N c l ∧ Below w.heap.size w w') :
    Calls Try.prog f args w fun e w' => ∃ g c, e = .returned (.slice (some ⟨g, 0, none⟩) N c) ∧ (g < w'.heap.size ∧ ∀ wx, Below w'.heap.size w' wx → (convert 22 9 (.slice (some ⟨g, 0, none⟩) N c)).run Try.prog wx = .ok (.string (str l)) wx) ∧ Below w.heap.size w w' :=
  h.mono fun e w' ⟨g, c, he, ho, hb⟩ => ⟨g, c, he, ⟨ho.hlt, fun wx hx => ho.conv wx (fun i => hx.cell (p := ⟨g, i, none⟩) ho.hlt)⟩, hb⟩

set_option maxHeartbeats 2000000 in
theorem walk_in (a : Option Addr) (len cap : Nat) (xs : List Int) (p most n : Int) (s : ByteArray) (w : World)
    (h0 : -9223372036854775808 ≤ n) (h1 : n ≤ 9223372036854775807) (hs : s.size ≤ 400) (hl : len ≤ 400) (hx : In w a len cap xs) :
    Calls Try.prog 3 #[.slice a len cap, .int .i64 p, .int .i64 most, .int .i64 n, .string s] w fun e w' => e = .returned (.bool true) ∧ Below w.heap.size w w' := by
  have hs1 : decide ((400 : Int) < len) = false := by simp; omega
  have hs2 : ¬ (400 : Int) < s.size := by omega
  obtain ⟨⟨v, nx, e⟩, hg⟩ : ∃ g, got (fun i => xs.getD i 0) len p = g := ⟨_, rfl⟩
  obtain ⟨⟨t, tx, te⟩, ht⟩ : ∃ g, gotText (fun i => xs.getD i 0) len p most = g := ⟨_, rfl⟩
  have HG := hide hg
  have HT := hide ht
  have HX := hide hx
  obtain ⟨A, hA⟩ : ∃ A, len + (num n).length = A := ⟨_, rfl⟩
  obtain ⟨B, hB⟩ : ∃ B, len + (num s.size).length + s.size = B := ⟨_, rfl⟩
  have HA := hide hA
  have HB := hide hB
  clear hg ht hx hA hB
  go_enter Try.func3, Try.ntmps3
  go_wp2_with fail
  refine (first_true _).mono ?_
  rintro e1 w1 ⟨rfl, hb1⟩
  have HX1 := hide (In.carry HX.out hb1)
  clear HX
  go_wp2_with fail
  refine (get_is _ len cap p _ _ (by exact HX1.out.2.1) v nx e HG.out).mono ?_
  rintro e2 w2 ⟨rfl, q2, rfl⟩
  go_wp2_with fail
  refine (rget_is _ len cap p _ _ (by exact HX1.out.2.1) v nx e HG.out).mono ?_
  rintro e3 w3 ⟨rfl, q3, rfl⟩
  go_wp2_with fail
  refine (text_is _ len cap p most _ _ (by exact HX1.out.2.1) t tx te HT.out).mono ?_
  rintro e4 w4 ⟨rfl, q4, rfl⟩
  go_wp2_with fail
  refine (rtext_is _ len cap p most _ _ (by exact HX1.out.2.1) t tx te HT.out).mono ?_
  rintro e5 w5 ⟨rfl, q5, rfl⟩
  go_wp2_with fail
  refine wp_region_noPanic ?_
  refine wp_region_held_drew (S := fun _ => True) (by kernel_rfl) trivial (fun hS => ?_)
  refine takeAt (i := 0) (d := some 64) (v := ?v0) rfl (by rfl) (by kernel_rfl) (by kernel_rfl) (by kernel_rfl) (fun _ _ _ h => h) (Or.inl ⟨by rfl, ?y0⟩) hS ?_
  case y0 => intro wx hSw; (go_simp) <;> with_reducible rfl
  simp only [Act.put, List.setIfInBounds_toArray, List.set_cons_zero, List.set_cons_succ]
  refine takeAt (i := 1) (d := some 65) (v := ?v1) rfl (by rfl) (by kernel_rfl) (by kernel_rfl) (by kernel_rfl) (fun _ _ _ h => h) (Or.inl ⟨by rfl, ?y1⟩) hS ?_
  case y1 => intro wx hSw; (go_simp) <;> with_reducible rfl
  simp only [Act.put, List.setIfInBounds_toArray, List.set_cons_zero, List.set_cons_succ]
  refine takeAt (i := 2) (d := some 66) (v := ?v2) rfl (by rfl) (by kernel_rfl) (by kernel_rfl) (by kernel_rfl) (fun _ _ _ h => h) (Or.inl ⟨by rfl, ?y2⟩) hS ?_
  case y2 => intro wx hSw; (go_simp) <;> with_reducible rfl
  simp only [Act.put, List.setIfInBounds_toArray, List.set_cons_zero, List.set_cons_succ]
  refine takeAt (i := 3) (d := some 67) (v := ?v3) rfl (by rfl) (by kernel_rfl) (by kernel_rfl) (by kernel_rfl) (fun _ _ _ h => h) (Or.inl ⟨by rfl, ?y3⟩) hS ?_
  case y3 => intro wx hSw; (go_simp) <;> with_reducible rfl
  simp only [Act.put, List.setIfInBounds_toArray, List.set_cons_zero, List.set_cons_succ]
  refine takeAt (i := 4) (d := some 68) (v := ?v4) rfl (by rfl) (by kernel_rfl) (by kernel_rfl) (by kernel_rfl) (fun _ _ _ h => h) (Or.inl ⟨by rfl, ?y4⟩) hS ?_
  case y4 => intro wx hSw; (go_simp) <;> with_reducible rfl
  simp only [Act.put, List.setIfInBounds_toArray, List.set_cons_zero, List.set_cons_succ]
  refine takeAt (i := 5) (d := some 69) (v := ?v5) rfl (by rfl) (by kernel_rfl) (by kernel_rfl) (by kernel_rfl) (fun _ _ _ h => h) (Or.inl ⟨by rfl, ?y5⟩) hS ?_
  case y5 => intro wx hSw; (go_simp) <;> with_reducible rfl
  simp only [Act.put, List.setIfInBounds_toArray, List.set_cons_zero, List.set_cons_succ]
  refine takeAt (i := 6) (d := some 70) (v := ?v6) rfl (by rfl) (by kernel_rfl) (by kernel_rfl) (by kernel_rfl) (fun _ _ _ h => h) (Or.inl ⟨by rfl, ?y6⟩) hS ?_
  case y6 => intro wx hSw; (go_simp) <;> with_reducible rfl
  simp only [Act.put, List.setIfInBounds_toArray, List.set_cons_zero, List.set_cons_succ]
  refine takeAt (i := 7) (d := some 71) (v := ?v7) rfl (by rfl) (by kernel_rfl) (by kernel_rfl) (by kernel_rfl) (fun _ _ _ h => h) (Or.inl ⟨by rfl, ?y7⟩) hS ?_
  case y7 => intro wx hSw; (go_simp) <;> with_reducible rfl
  simp only [Act.put, List.setIfInBounds_toArray, List.set_cons_zero, List.set_cons_succ]
  refine takeAt (i := 8) (d := some 72) (v := ?v8) rfl (by rfl) (by kernel_rfl) (by kernel_rfl) (by kernel_rfl) (fun _ _ _ h => h) (Or.inl ⟨by rfl, ?y8⟩) hS ?_
  case y8 => intro wx hSw; (go_simp) <;> with_reducible rfl
  simp only [Act.put, List.setIfInBounds_toArray, List.set_cons_zero, List.set_cons_succ]
  refine takeAt (i := 9) (d := some 73) (v := ?v9) rfl (by rfl) (by kernel_rfl) (by kernel_rfl) (by kernel_rfl) (fun _ _ _ h => h) (Or.inl ⟨by rfl, ?y9⟩) hS ?_
  case y9 => intro wx hSw; (go_simp) <;> with_reducible rfl
  simp only [Act.put, List.setIfInBounds_toArray, List.set_cons_zero, List.set_cons_succ]
  refine takeAt (i := 10) (d := some 74) (v := ?v10) rfl (by rfl) (by kernel_rfl) (by kernel_rfl) (by kernel_rfl) (fun _ _ _ h => h) (Or.inl ⟨by rfl, ?y10⟩) hS ?_
  case y10 => intro wx hSw; (go_simp) <;> with_reducible rfl
  simp only [Act.put, List.setIfInBounds_toArray, List.set_cons_zero, List.set_cons_succ]
  refine takeAt (i := 11) (d := some 75) (v := ?v11) rfl (by rfl) (by kernel_rfl) (by kernel_rfl) (by kernel_rfl) (fun _ _ _ h => h) (Or.inl ⟨by rfl, ?y11⟩) hS ?_
  case y11 => intro wx hSw; (go_simp) <;> with_reducible rfl
  simp only [Act.put, List.setIfInBounds_toArray, List.set_cons_zero, List.set_cons_succ]
  refine takeAt (i := 12) (d := some 76) (v := ?v12) rfl (by rfl) (by kernel_rfl) (by kernel_rfl) (by kernel_rfl) (fun _ _ _ h => h) (Or.inl ⟨by rfl, ?y12⟩) hS ?_
  case y12 => intro wx hSw; (go_simp) <;> with_reducible rfl
  simp only [Act.put, List.setIfInBounds_toArray, List.set_cons_zero, List.set_cons_succ]
  refine takeAt (i := 13) (d := some 77) (v := ?v13) rfl (by rfl) (by kernel_rfl) (by kernel_rfl) (by kernel_rfl) (fun _ _ _ h => h) (Or.inl ⟨by rfl, ?y13⟩) hS ?_
  case y13 => intro wx hSw; (go_simp) <;> with_reducible rfl
  simp only [Act.put, List.setIfInBounds_toArray, List.set_cons_zero, List.set_cons_succ]
  refine takeAt (i := 14) (d := some 78) (v := ?v14) rfl (by rfl) (by kernel_rfl) (by kernel_rfl) (by kernel_rfl) (fun _ _ _ h => h) (Or.inl ⟨by rfl, ?y14⟩) hS ?_
  case y14 => intro wx hSw; (go_simp) <;> with_reducible rfl
  simp only [Act.put, List.setIfInBounds_toArray, List.set_cons_zero, List.set_cons_succ]
  refine takeAt (i := 15) (d := some 79) (v := ?v15) rfl (by rfl) (by kernel_rfl) (by kernel_rfl) (by kernel_rfl) (fun _ _ _ h => h) (Or.inl ⟨by rfl, ?y15⟩) hS ?_
  case y15 => intro wx hSw; (go_simp) <;> with_reducible rfl
  simp only [Act.put, List.setIfInBounds_toArray, List.set_cons_zero, List.set_cons_succ]
  refine takeAt (i := 16) (d := some 80) (v := ?v16) rfl (by rfl) (by kernel_rfl) (by kernel_rfl) (by kernel_rfl) (fun _ _ _ h => h) (Or.inl ⟨by rfl, ?y16⟩) hS ?_
  case y16 => intro wx hSw; (go_simp) <;> with_reducible rfl
  simp only [Act.put, List.setIfInBounds_toArray, List.set_cons_zero, List.set_cons_succ]
  refine takeAt (i := 17) (d := some 81) (v := ?v17) rfl (by rfl) (by kernel_rfl) (by kernel_rfl) (by kernel_rfl) (fun _ _ _ h => h) (Or.inl ⟨by rfl, ?y17⟩) hS ?_
  case y17 => intro wx hSw; (go_simp) <;> with_reducible rfl
  simp only [Act.put, List.setIfInBounds_toArray, List.set_cons_zero, List.set_cons_succ]
  refine takeAt (i := 18) (d := some 82) (v := ?v18) rfl (by rfl) (by kernel_rfl) (by kernel_rfl) (by kernel_rfl) (fun _ _ _ h => h) (Or.inl ⟨by rfl, ?y18⟩) hS ?_
  case y18 => intro wx hSw; (go_simp) <;> with_reducible rfl
  simp only [Act.put, List.setIfInBounds_toArray, List.set_cons_zero, List.set_cons_succ]
  refine takeAt (i := 19) (d := some 83) (v := ?v19) rfl (by rfl) (by kernel_rfl) (by kernel_rfl) (by kernel_rfl) (fun _ _ _ h => h) (Or.inl ⟨by rfl, ?y19⟩) hS ?_
  case y19 => intro wx hSw; (go_simp) <;> with_reducible rfl
  simp only [Act.put, List.setIfInBounds_toArray, List.set_cons_zero, List.set_cons_succ]
  refine takeAt (i := 20) (d := some 84) (v := ?v20) rfl (by rfl) (by kernel_rfl) (by kernel_rfl) (by kernel_rfl) (fun _ _ _ h => h) (Or.inl ⟨by rfl, ?y20⟩) hS ?_
  case y20 => intro wx hSw; (go_simp) <;> with_reducible rfl
  simp only [Act.put, List.setIfInBounds_toArray, List.set_cons_zero, List.set_cons_succ]
  refine takeAt (i := 21) (d := some 85) (v := ?v21) rfl (by rfl) (by kernel_rfl) (by kernel_rfl) (by kernel_rfl) (fun _ _ _ h => h) (Or.inl ⟨by rfl, ?y21⟩) hS ?_
  case y21 => intro wx hSw; (go_simp) <;> with_reducible rfl
  simp only [Act.put, List.setIfInBounds_toArray, List.set_cons_zero, List.set_cons_succ]
  refine takeAt (i := 22) (d := some 86) (v := ?v22) rfl (by rfl) (by kernel_rfl) (by kernel_rfl) (by kernel_rfl) (fun _ _ _ h => h) (Or.inl ⟨by rfl, ?y22⟩) hS ?_
  case y22 => intro wx hSw; (go_simp) <;> with_reducible rfl
  simp only [Act.put, List.setIfInBounds_toArray, List.set_cons_zero, List.set_cons_succ]
  refine takeAt (i := 23) (d := some 87) (v := ?v23) rfl (by rfl) (by kernel_rfl) (by kernel_rfl) (by kernel_rfl) (fun _ _ _ h => h) (Or.inl ⟨by rfl, ?y23⟩) hS ?_
  case y23 => intro wx hSw; (go_simp) <;> with_reducible rfl
  simp only [Act.put, List.setIfInBounds_toArray, List.set_cons_zero, List.set_cons_succ]
  refine takeAt (i := 24) (d := some 88) (v := ?v24) rfl (by rfl) (by kernel_rfl) (by kernel_rfl) (by kernel_rfl) (fun _ _ _ h => h) (Or.inl ⟨by rfl, ?y24⟩) hS ?_
  case y24 => intro wx hSw; (go_simp) <;> with_reducible rfl
  simp only [Act.put, List.setIfInBounds_toArray, List.set_cons_zero, List.set_cons_succ]
  refine takeAt (i := 25) (d := some 89) (v := ?v25) rfl (by rfl) (by kernel_rfl) (by kernel_rfl) (by kernel_rfl) (fun _ _ _ h => h) (Or.inl ⟨by rfl, ?y25⟩) hS ?_
  case y25 => intro wx hSw; (go_simp) <;> with_reducible rfl
  simp only [Act.put, List.setIfInBounds_toArray, List.set_cons_zero, List.set_cons_succ]
  refine takeAt (i := 26) (d := some 90) (v := ?v26) rfl (by rfl) (by kernel_rfl) (by kernel_rfl) (by kernel_rfl) (fun _ _ _ h => h) (Or.inl ⟨by rfl, ?y26⟩) hS ?_
  case y26 => intro wx hSw; (go_simp) <;> with_reducible rfl
  simp only [Act.put, List.setIfInBounds_toArray, List.set_cons_zero, List.set_cons_succ]
  refine takeAt (i := 27) (d := some 91) (v := ?v27) rfl (by rfl) (by kernel_rfl) (by kernel_rfl) (by kernel_rfl) (fun _ _ _ h => h) (Or.inl ⟨by rfl, ?y27⟩) hS ?_
  case y27 => intro wx hSw; (go_simp) <;> with_reducible rfl
  simp only [Act.put, List.setIfInBounds_toArray, List.set_cons_zero, List.set_cons_succ]
  refine takeAt (i := 28) (d := some 92) (v := ?v28) rfl (by rfl) (by kernel_rfl) (by kernel_rfl) (by kernel_rfl) (fun _ _ _ h => h) (Or.inl ⟨by rfl, ?y28⟩) hS ?_
  case y28 => intro wx hSw; (go_simp) <;> with_reducible rfl
  simp only [Act.put, List.setIfInBounds_toArray, List.set_cons_zero, List.set_cons_succ]
  refine takeAt (i := 29) (d := some 93) (v := ?v29) rfl (by rfl) (by kernel_rfl) (by kernel_rfl) (by kernel_rfl) (fun _ _ _ h => h) (Or.inl ⟨by rfl, ?y29⟩) hS ?_
  case y29 => intro wx hSw; (go_simp) <;> with_reducible rfl
  simp only [Act.put, List.setIfInBounds_toArray, List.set_cons_zero, List.set_cons_succ]
  refine takeAt (i := 30) (d := some 94) (v := ?v30) rfl (by rfl) (by kernel_rfl) (by kernel_rfl) (by kernel_rfl) (fun _ _ _ h => h) (Or.inl ⟨by rfl, ?y30⟩) hS ?_
  case y30 => intro wx hSw; (go_simp) <;> with_reducible rfl
  simp only [Act.put, List.setIfInBounds_toArray, List.set_cons_zero, List.set_cons_succ]
  refine takeAt (i := 33) (d := some 97) (v := ?v33) rfl (by rfl) (by kernel_rfl) (by kernel_rfl) (by kernel_rfl) (fun _ _ _ h => h) (Or.inl ⟨by rfl, ?y33⟩) hS ?_
  case y33 => intro wx hSw; (go_simp) <;> with_reducible rfl
  simp only [Act.put, List.setIfInBounds_toArray, List.set_cons_zero, List.set_cons_succ]
  refine takeAt (i := 34) (d := some 98) (v := ?v34) rfl (by rfl) (by kernel_rfl) (by kernel_rfl) (by kernel_rfl) (fun _ _ _ h => h) (Or.inl ⟨by rfl, ?y34⟩) hS ?_
  case y34 => intro wx hSw; (go_simp) <;> with_reducible rfl
  simp only [Act.put, List.setIfInBounds_toArray, List.set_cons_zero, List.set_cons_succ]
  refine wpAnyH_ready (rs := [31]) (by kernel_rfl) (by simp) ?_
  refine AllReadyH.cons rfl (fun K hK => ?_) AllReadyH.nil
  go_simp
  refine (put_conv (put_at a len cap xs n A HA.out _ h0 h1 (by exact HX1.out) (by omega))).mono ?_
  rintro e6 w6 ⟨g6, c6, rfl, ⟨hlt6, hcv6⟩, hbl6⟩
  have hbw6 : Below w1.heap.size w1 w6 := (below_drewN (Below.refl w1.heap.size w1) (q2 + q3 + q4 + q5 + 1)).trans hbl6
  have HX6 := hide (In.carry HX1.out hbw6)
  have HC6 := hide hcv6
  have hcx6_6 := hcv6 w6 (Below.refl _ _)
  have hbq6 := Below.refl w6.heap.size w6
  clear hS hcv6
  go_wp2_with fail
  refine hK.out _ _ trivial (fun _ => ?_)
  clear hK K
  refine wpAnyH_switch (S' := fun w' => (convert 22 9 (.slice (some ⟨g6, 0, none⟩) A c6)).run Try.prog w' = .ok (.string (str (xs ++ num n))) w') (fun _ _ => trivial) _ _ _ _ ?_
  have hS : (convert 22 9 (.slice (some ⟨g6, 0, none⟩) A c6)).run Try.prog w6 = .ok (.string (str (xs ++ num n))) w6 := hcx6_6
  refine takeAt (i := 32) (d := some 96) (v := ?v32) rfl (by rfl) (by kernel_rfl) (by kernel_rfl) (by kernel_rfl) (fun _ _ _ h => h) (Or.inl ⟨by rfl, ?y32⟩) hS ?_
  case y32 => intro wx hSw; (go_simp) <;> with_reducible rfl
  simp only [Act.put, List.setIfInBounds_toArray, List.set_cons_zero, List.set_cons_succ]
  refine wpAnyH_ready (rs := [35]) (by kernel_rfl) (by simp) ?_
  refine AllReadyH.cons rfl (fun K hK => ?_) AllReadyH.nil
  go_simp
  refine (put_conv (rput_at a len cap xs n A HA.out _ h0 h1 (by exact HX6.out) (by omega))).mono ?_
  rintro e7 w7 ⟨g7, c7, rfl, ⟨hlt7, hcv7⟩, hbl7⟩
  have hbw7 : Below w1.heap.size w1 w7 := hbw6.trans (hbl7.mono hbw6.size)
  have HX7 := hide (In.carry HX1.out hbw7)
  have hcx7_6 := HC6.out w7 (hbq6.trans (hbl7.mono hbq6.size))
  have HC7 := hide hcv7
  have hcx7_7 := hcv7 w7 (Below.refl _ _)
  have hbq6 := hbq6.trans (hbl7.mono hbq6.size)
  have hbq7 := Below.refl w7.heap.size w7
  clear hS hcv7
  go_wp2_with fail
  refine hK.out _ _ hcx7_6 (fun _ => ?_)
  clear hK K
  refine wpAnyH_switch (S' := fun w' => (convert 22 9 (.slice (some ⟨g7, 0, none⟩) A c7)).run Try.prog w' = .ok (.string (str (xs ++ num n))) w' ∧ (convert 22 9 (.slice (some ⟨g6, 0, none⟩) A c6)).run Try.prog w' = .ok (.string (str (xs ++ num n))) w') (fun _ h => h.2) _ _ _ _ ?_
  have hS : (convert 22 9 (.slice (some ⟨g7, 0, none⟩) A c7)).run Try.prog w7 = .ok (.string (str (xs ++ num n))) w7 ∧ (convert 22 9 (.slice (some ⟨g6, 0, none⟩) A c6)).run Try.prog w7 = .ok (.string (str (xs ++ num n))) w7 := ⟨hcx7_7, hcx7_6⟩
  refine takeAt (i := 36) (d := some 100) (v := ?v36) rfl (by rfl) (by kernel_rfl) (by kernel_rfl) (by kernel_rfl) (fun _ _ _ h => h) (Or.inl ⟨by rfl, ?y36⟩) hS ?_
  case y36 => intro wx hSw; (go_simp) <;> with_reducible rfl
  simp only [Act.put, List.setIfInBounds_toArray, List.set_cons_zero, List.set_cons_succ]
  refine takeAt (i := 37) (d := some 101) (v := ?v37) rfl (by rfl) (by kernel_rfl) (by kernel_rfl) (by kernel_rfl) (fun _ _ _ h => h) (Or.inl ⟨by rfl, ?y37⟩) hS ?_
  case y37 => intro wx hSw; (go_simp) <;> with_reducible rfl
  simp only [Act.put, List.setIfInBounds_toArray, List.set_cons_zero, List.set_cons_succ]
  refine takeAt (i := 38) (d := some 102) (v := ?v38) rfl (by rfl) (by kernel_rfl) (by kernel_rfl) (by kernel_rfl) (fun _ _ _ h => h) (Or.inl ⟨by rfl, ?y38⟩) hS ?_
  case y38 => intro wx hSw; (go_simp) <;> with_reducible rfl
  simp only [Act.put, List.setIfInBounds_toArray, List.set_cons_zero, List.set_cons_succ]
  refine takeAt (i := 39) (d := some 103) (v := ?v39) rfl (by rfl) (by kernel_rfl) (by kernel_rfl) (by kernel_rfl) (fun _ _ _ h => h) (Or.inl ⟨by rfl, ?y39⟩) hS ?_
  case y39 => intro wx hSw; (go_simp) <;> with_reducible rfl
  simp only [Act.put, List.setIfInBounds_toArray, List.set_cons_zero, List.set_cons_succ]
  refine takeAt (i := 40) (d := some 104) (v := ?v40) rfl (by rfl) (by kernel_rfl) (by kernel_rfl) (by kernel_rfl) (fun _ _ _ h => h) (Or.inl ⟨by rfl, ?y40⟩) hS ?_
  case y40 => intro wx hSw; (go_simp) <;> with_reducible rfl
  simp only [Act.put, List.setIfInBounds_toArray, List.set_cons_zero, List.set_cons_succ]
  refine takeAt (i := 41) (d := some 105) (v := ?v41) rfl (by rfl) (by kernel_rfl) (by kernel_rfl) (by kernel_rfl) (fun _ _ _ h => h) (Or.inl ⟨by rfl, ?y41⟩) hS ?_
  case y41 => intro wx hSw; (go_simp) <;> with_reducible rfl
  simp only [Act.put, List.setIfInBounds_toArray, List.set_cons_zero, List.set_cons_succ]
  refine takeAt (i := 44) (d := some 108) (v := ?v44) rfl (by rfl) (by kernel_rfl) (by kernel_rfl) (by kernel_rfl) (fun _ _ _ h => h) (Or.inl ⟨by rfl, ?y44⟩) hS ?_
  case y44 => intro wx hSw; (go_simp) <;> with_reducible rfl
  simp only [Act.put, List.setIfInBounds_toArray, List.set_cons_zero, List.set_cons_succ]
  refine takeAt (i := 45) (d := some 109) (v := ?v45) rfl (by rfl) (by kernel_rfl) (by kernel_rfl) (by kernel_rfl) (fun _ _ _ h => h) (Or.inl ⟨by rfl, ?y45⟩) hS ?_
  case y45 => intro wx hSw; (go_simp) <;> with_reducible rfl
  simp only [Act.put, List.setIfInBounds_toArray, List.set_cons_zero, List.set_cons_succ]
  refine wpAnyH_ready (rs := [42]) (by kernel_rfl) (by simp) ?_
  refine AllReadyH.cons rfl (fun K hK => ?_) AllReadyH.nil
  go_simp
  refine (put_conv (putText_at a len cap xs s B HB.out _ (by exact HX7.out) (by omega) (by omega))).mono ?_
  rintro e8 w8 ⟨g8, c8, rfl, ⟨hlt8, hcv8⟩, hbl8⟩
  have hbw8 : Below w1.heap.size w1 w8 := hbw7.trans (hbl8.mono hbw7.size)
  have HX8 := hide (In.carry HX1.out hbw8)
  have hcx8_6 := HC6.out w8 (hbq6.trans (hbl8.mono hbq6.size))
  have hcx8_7 := HC7.out w8 (hbq7.trans (hbl8.mono hbq7.size))
  have HC8 := hide hcv8
  have hcx8_8 := hcv8 w8 (Below.refl _ _)
  have hbq6 := hbq6.trans (hbl8.mono hbq6.size)
  have hbq7 := hbq7.trans (hbl8.mono hbq7.size)
  have hbq8 := Below.refl w8.heap.size w8
  clear hS hcv8
  go_wp2_with fail
  refine hK.out _ _ ⟨hcx8_7, hcx8_6⟩ (fun _ => ?_)
  clear hK K
  refine wpAnyH_switch (S' := fun w' => (convert 22 9 (.slice (some ⟨g8, 0, none⟩) B c8)).run Try.prog w' = .ok (.string (str (xs ++ num s.size ++ sb s))) w' ∧ (convert 22 9 (.slice (some ⟨g7, 0, none⟩) A c7)).run Try.prog w' = .ok (.string (str (xs ++ num n))) w' ∧ (convert 22 9 (.slice (some ⟨g6, 0, none⟩) A c6)).run Try.prog w' = .ok (.string (str (xs ++ num n))) w') (fun _ h => h.2) _ _ _ _ ?_
  have hS : (convert 22 9 (.slice (some ⟨g8, 0, none⟩) B c8)).run Try.prog w8 = .ok (.string (str (xs ++ num s.size ++ sb s))) w8 ∧ (convert 22 9 (.slice (some ⟨g7, 0, none⟩) A c7)).run Try.prog w8 = .ok (.string (str (xs ++ num n))) w8 ∧ (convert 22 9 (.slice (some ⟨g6, 0, none⟩) A c6)).run Try.prog w8 = .ok (.string (str (xs ++ num n))) w8 := ⟨hcx8_8, hcx8_7, hcx8_6⟩
  refine takeAt (i := 43) (d := some 107) (v := ?v43) rfl (by rfl) (by kernel_rfl) (by kernel_rfl) (by kernel_rfl) (fun _ _ _ h => h) (Or.inl ⟨by rfl, ?y43⟩) hS ?_
  case y43 => intro wx hSw; (go_simp) <;> with_reducible rfl
  simp only [Act.put, List.setIfInBounds_toArray, List.set_cons_zero, List.set_cons_succ]
  refine wpAnyH_ready (rs := [46]) (by kernel_rfl) (by simp) ?_
  refine AllReadyH.cons rfl (fun K hK => ?_) AllReadyH.nil
  go_simp
  refine (put_conv (rputText_at a len cap xs s B HB.out _ (by exact HX8.out) (by omega) (by omega))).mono ?_
  rintro e9 w9 ⟨g9, c9, rfl, ⟨hlt9, hcv9⟩, hbl9⟩
  have hbw9 : Below w1.heap.size w1 w9 := hbw8.trans (hbl9.mono hbw8.size)
  have HX9 := hide (In.carry HX1.out hbw9)
  have hcx9_6 := HC6.out w9 (hbq6.trans (hbl9.mono hbq6.size))
  have hcx9_7 := HC7.out w9 (hbq7.trans (hbl9.mono hbq7.size))
  have hcx9_8 := HC8.out w9 (hbq8.trans (hbl9.mono hbq8.size))
  have HC9 := hide hcv9
  have hcx9_9 := hcv9 w9 (Below.refl _ _)
  have hbq6 := hbq6.trans (hbl9.mono hbq6.size)
  have hbq7 := hbq7.trans (hbl9.mono hbq7.size)
  have hbq8 := hbq8.trans (hbl9.mono hbq8.size)
  have hbq9 := Below.refl w9.heap.size w9
  clear hS hcv9
  go_wp2_with fail
  refine hK.out _ _ ⟨hcx9_8, hcx9_7, hcx9_6⟩ (fun _ => ?_)
  clear hK K
  refine wpAnyH_switch (S' := fun w' => (convert 22 9 (.slice (some ⟨g9, 0, none⟩) B c9)).run Try.prog w' = .ok (.string (str (xs ++ num s.size ++ sb s))) w' ∧ (convert 22 9 (.slice (some ⟨g8, 0, none⟩) B c8)).run Try.prog w' = .ok (.string (str (xs ++ num s.size ++ sb s))) w' ∧ (convert 22 9 (.slice (some ⟨g7, 0, none⟩) A c7)).run Try.prog w' = .ok (.string (str (xs ++ num n))) w' ∧ (convert 22 9 (.slice (some ⟨g6, 0, none⟩) A c6)).run Try.prog w' = .ok (.string (str (xs ++ num n))) w') (fun _ h => h.2) _ _ _ _ ?_
  have hS : (convert 22 9 (.slice (some ⟨g9, 0, none⟩) B c9)).run Try.prog w9 = .ok (.string (str (xs ++ num s.size ++ sb s))) w9 ∧ (convert 22 9 (.slice (some ⟨g8, 0, none⟩) B c8)).run Try.prog w9 = .ok (.string (str (xs ++ num s.size ++ sb s))) w9 ∧ (convert 22 9 (.slice (some ⟨g7, 0, none⟩) A c7)).run Try.prog w9 = .ok (.string (str (xs ++ num n))) w9 ∧ (convert 22 9 (.slice (some ⟨g6, 0, none⟩) A c6)).run Try.prog w9 = .ok (.string (str (xs ++ num n))) w9 := ⟨hcx9_9, hcx9_8, hcx9_7, hcx9_6⟩
  refine takeAt (i := 47) (d := some 111) (v := ?v47) rfl (by rfl) (by kernel_rfl) (by kernel_rfl) (by kernel_rfl) (fun _ _ _ h => h) (Or.inl ⟨by rfl, ?y47⟩) hS ?_
  case y47 => intro wx hSw; (go_simp) <;> with_reducible rfl
  simp only [Act.put, List.setIfInBounds_toArray, List.set_cons_zero, List.set_cons_succ]
  refine takeAt (i := 48) (d := some 112) (v := ?v48) rfl (by rfl) (by kernel_rfl) (by kernel_rfl) (by kernel_rfl) (fun _ _ _ h => h) (Or.inl ⟨by rfl, ?y48⟩) hS ?_
  case y48 => intro wx hSw; (go_simp) <;> with_reducible rfl
  simp only [Act.put, List.setIfInBounds_toArray, List.set_cons_zero, List.set_cons_succ]
  refine takeAt (i := 49) (d := some 113) (v := ?v49) rfl (by rfl) (by kernel_rfl) (by kernel_rfl) (by kernel_rfl) (fun _ _ _ h => h) (Or.inl ⟨by rfl, ?y49⟩) hS ?_
  case y49 => intro wx hSw; (go_simp) <;> with_reducible rfl
  simp only [Act.put, List.setIfInBounds_toArray, List.set_cons_zero, List.set_cons_succ]
  refine takeAt (i := 50) (d := some 10) (v := ?v50) rfl (by rfl) (by kernel_rfl) (by kernel_rfl) (by kernel_rfl) (fun _ _ _ h => h) (Or.inl ⟨by rfl, ?y50⟩) hS ?_
  case y50 => intro wx hSw; (go_simp) <;> with_reducible rfl
  simp only [Act.put, List.setIfInBounds_toArray, List.set_cons_zero, List.set_cons_succ]
  refine wpAnyH_done (by kernel_rfl) ?_ _
  refine NoPanic.normal ?_
  go_wp2_with fail
  go_ret
  exact ⟨rfl, hb1.trans (hbw9.mono hb1.size)⟩

theorem walk_long1 (a : Option Addr) (len cap : Nat) (p most n : Int) (s : ByteArray) (w : World) (h : (400 : Int) < len) :
    Calls Try.prog 3 #[.slice a len cap, .int .i64 p, .int .i64 most, .int .i64 n, .string s] w fun e w' => e = .returned (.bool true) ∧ Below w.heap.size w w' := by
  go_enter Try.func3, Try.ntmps3
  go_wp2_with fail
  refine (first_true _).mono ?_
  rintro e w1 ⟨rfl, hb1⟩
  go_wp2_with fail
  refine (first_true _).mono ?_
  rintro e w2 ⟨rfl, hb2⟩
  go_wp2_with fail
  go_ret
  exact ⟨rfl, hb1.trans (hb2.mono hb1.size)⟩

theorem walk_long2 (a : Option Addr) (len cap : Nat) (p most n : Int) (s : ByteArray) (w : World) (h0 : decide ((400 : Int) < len) = false) (h : (400 : Int) < s.size) :
    Calls Try.prog 3 #[.slice a len cap, .int .i64 p, .int .i64 most, .int .i64 n, .string s] w fun e w' => e = .returned (.bool true) ∧ Below w.heap.size w w' := by
  go_enter Try.func3, Try.ntmps3
  go_wp2_with fail
  refine (first_true _).mono ?_
  rintro e w1 ⟨rfl, hb1⟩
  go_wp2_with fail
  refine (first_true _).mono ?_
  rintro e w2 ⟨rfl, hb2⟩
  go_wp2_with fail
  go_ret
  exact ⟨rfl, hb1.trans (hb2.mono hb1.size)⟩

theorem walk (a0 : Option Addr) (len0 cap0 : Nat) (z0 : List Int) (a1 : Int) (a2 : Int) (a3 : Int) (a4 : ByteArray) (w : World) (w0 : IsRow .u8 w a0 len0 cap0 z0) (w1 : (Lit.int .i64 a1).wf = true) (w2 : (Lit.int .i64 a2).wf = true) (w3 : (Lit.int .i64 a3).wf = true) (w4 : a4.size ≤ maxLen) :
    Calls Try.prog 3 #[.slice a0 len0 cap0, .int .i64 a1, .int .i64 a2, .int .i64 a3, .string a4] w fun e w' => e = .returned (.bool true) ∧ Below w.heap.size w w' := by
  have b3 := bounds_i64 w3
  obtain ⟨xs, hx, hbx⟩ := row_in w0
  by_cases hl : (400 : Int) < len0
  · exact walk_long1 a0 len0 cap0 a1 a2 a3 a4 w hl
  by_cases hs : (400 : Int) < a4.size
  · exact walk_long2 a0 len0 cap0 a1 a2 a3 a4 w (by simpa using hl) hs
  exact walk_in a0 len0 cap0 xs a1 a2 a3 a4 w b3.1 b3.2 (by omega) (by omega) hx

set_option maxRecDepth 100000 in
theorem lifted (os : Os) (started : os.Started) (H : Type) (enc : TypeId × Value → H) :
    ReturnsInHanded {} Try.checked os 3 .any (Rows.wireTellsSpec.pre6 enc Try.prog Try.f3 Rows.wireTellsRow.domain false) (Rows.wireTellsSpec.post enc Try.prog Try.f3 false true false false) := by
  refine returnsInHanded_of_change (C := Try.checked) own started (by kernel_rfl) Try.func3
    (ChangeSpec.witness6 (enc := enc) (C := Try.checked) false ⟨#[], #[.slice none 0 0, .int .i64 0, .int .i64 0, .int .i64 0, .string ByteArray.empty], []⟩ 8 (by kernel_rfl) (by kernel_rfl) (by kernel_rfl) (by kernel_rfl)) ?_
  intro W base args ds gs before hval0 hW hcnd _
  have hval : ∀ (j : Nat) t v, Try.f3.params[j]? = some t → args[j]? = some v → Value.okWide Try.prog W .any base t v := hval0
  have hW' := hW
  obtain ⟨p, q, hA0, hV, rfl, hfz, hnd⟩ := hW
  have hA : DataW.TrodAll enc Try.prog W 0 (fun _ => true) true Try.f3.params.toList args.toList ds p := hA0
  rw [Try.params3] at hA hval
  obtain ⟨v0, vs0, d0, ds0, p0, q0, hargs, rfl, rfl, h0, r0⟩ := trodAll_cons hA
  obtain ⟨v1, vs1, d1, ds1, p1, q1, rfl, rfl, rfl, h1, r1⟩ := trodAll_cons r0
  obtain ⟨v2, vs2, d2, ds2, p2, q2, rfl, rfl, rfl, h2, r2⟩ := trodAll_cons r1
  obtain ⟨v3, vs3, d3, ds3, p3, q3, rfl, rfl, rfl, h3, r3⟩ := trodAll_cons r2
  obtain ⟨v4, vs4, d4, ds4, p4, q4, rfl, rfl, rfl, h4, r4⟩ := trodAll_cons r3
  obtain ⟨rfl, rfl, rfl⟩ := trodAll_nil r4
  obtain rfl : args = #[v0, v1, v2, v3, v4] := by cases args; simp_all
  obtain ⟨rfl, rfl⟩ := trodVars_none hV
  obtain ⟨a0, len0, cap0, rfl⟩ := okWide_slice Try.underlying22 (hval 0 22 v0 rfl rfl)
  have k0 := h0
  have lt0 : ∀ x ∈ p0, x.block < W.heap.size := by obtain ⟨m, hm⟩ := k0; exact DataW.trod_lt m _ _ _ hm
  obtain ⟨z0, w0⟩ : ∃ zs, IsRow .u8 W a0 len0 cap0 zs := by
    obtain ⟨fuel, hf⟩ := h0
    rcases open_ints Try.underlying22 Try.underlying5 (by kernel_rfl) hf with ⟨hcs, _⟩ | ⟨x, l, c, zs, hcs, _, hl, hm, hz, _, hcell, hwz⟩
    · simp [Value.cells] at hcs
      obtain ⟨rfl, rfl, rfl⟩ := hcs
      exact ⟨[], .inl ⟨rfl, rfl, rfl, rfl⟩⟩
    · simp [Value.cells] at hcs
      obtain ⟨rfl, rfl, rfl⟩ := hcs
      exact ⟨zs, .inr ⟨_, rfl, hl, hm, by simpa using hz, hcell, hwz⟩⟩
  obtain ⟨a1, rfl, rfl, rfl, w1⟩ := open_int Try.underlying3 (hval 1 3 v1 rfl rfl) h1
  obtain ⟨a2, rfl, rfl, rfl, w2⟩ := open_int Try.underlying3 (hval 2 3 v2 rfl rfl) h2
  obtain ⟨a3, rfl, rfl, rfl, w3⟩ := open_int Try.underlying2 (hval 3 2 v3 rfl rfl) h3
  obtain ⟨a4, rfl, rfl, rfl, w4⟩ := open_string Try.underlying9 (hval 4 9 v4 rfl rfl) h4
  clear hA0 hval0
  refine (walk a0 len0 cap0 z0 a1 a2 a3 a4 W w0 w1 w2 w3 w4).mono fun e W' ⟨he, bel⟩ => ?_
  subst he
  exact ⟨_, rfl, _, _, _, [], _, [], hW', trodAll_mk1 (shut_bool Try.underlying4 _), (trodAll_cons_mk (Below.trod laidOut (by kernel_rfl) (of_decide_eq_true (by kernel_rfl)) k0 bel lt0) (trodAll_cons_mk (shut_int Try.underlying3 w1) (trodAll_cons_mk (shut_int Try.underlying3 w2) (trodAll_cons_mk (shut_int Try.underlying2 w3) (trodAll_cons_mk (shut_string Try.underlying9 w4) trodAll_mk0))))), rfl, bel.frame _, fun h => by cases h⟩

theorem over : Rows.wireTellsRow.holds Try.pinned (OpenSpec.ofChange Rows.wireTellsSpec) :=
  OpenClaim.holds_of_wide 3 Try.f3 rfl rfl rfl rfl rfl rfl rfl ⟨rfl, rfl, rfl, rfl, rfl⟩ rfl rfl rfl rfl rfl (by kernel_rfl) Try.func3 (by kernel_rfl)
    (of_decide_eq_true (by kernel_rfl)) (by unfold Func.isWrapper; first | (rw [if_pos (by decide +kernel)]; kernel_rfl) | (rw [if_neg (by decide +kernel)]; exact ⟨rfl, rfl⟩))
    (fun os started H enc _ => lifted os started H enc)

theorem proved : Rows.WireTellsSaid := over
#print axioms proved
end Go.Proofs.Ytiepgocbgjdhpaa.wireTells
