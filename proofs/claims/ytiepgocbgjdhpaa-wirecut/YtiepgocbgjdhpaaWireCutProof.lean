/-
  Proved: for every two 64-bit numbers and every text WireCut answers true: a number or a text that is cut off is none, a text above the bound is too long, unlike numbers have unlike bytes. No condition.
-/
import Derived.Test.YtiepgocbgjdhpaaRows
import Derived.Test.YtiepgocbgjdhpaaLaw
import Derived.WalkSpells
import Derived.Deep.Light
import Derived.Deep.RegionHeld3
import Derived.Deep.DrawnRows
import Derived.Below
import Derived.WalkKit
import Derived.ProofKit
import Derived.OpenShut
import Derived.ShutString
namespace Go.Proofs.Ytiepgocbgjdhpaa.wireCut
open Go.ChangeShapes Go.WideShapes Go.ChangeAt Go.RowKit Plain Get Cv Put GetText First Law Math
open Go.ChangeMaps (open_string shut_string)
set_option linter.unusedVariables false

theorem own : ownKnob Try.prog.godebug = none := by kernel_rfl

attribute [local go_sem ↓] Go.wp_at_zero Go.wp_at_succ

/-- An operation is taken first; where it leaves its value is told. -/
theorem takeAt {P : Program} {ops : Array Oper} {Q : Exit → Act → World → Prop} {md : Region.Mode} {S : World → Prop} {i : Nat} {oi : Oper} {d : Option Tmp} {v : Value} {fuel : Nat} {listed : Array Bool} {a : Act} {w : World} (hi : ops[i]? = some oi) (hd : oi.dst = d)
    (hs : Region.noSelect ops = true) (hf : Region.free md ops listed i = true) (hr : (Region.ready md ops listed).contains i = true)
    (hQ : ∀ c a w, Q (.panic c) (a.put d v) w → Q (.panic c) a w) (hy : YieldsIf P ops S oi v a) (hS : S w)
    (h : wpAnyH P md ops Q S fuel (listed.setIfInBounds i true) (a.put d v) w) : wpAnyH P md ops Q S (fuel + 1) listed a w := by
  subst hd
  exact wpAnyH_take hi hs hf hr hQ hy hS h

/-- Another condition, which says more, from here on. -/
theorem wpAnyH_switch {P : Program} {ops : Array Oper} {Q : Exit → Act → World → Prop} {md : Region.Mode} {S S' : World → Prop} (h : ∀ w, S' w → S w) :
    ∀ (fuel : Nat) (listed : Array Bool) (a : Act) (w : World), wpAnyH P md ops Q S' fuel listed a w → wpAnyH P md ops Q S fuel listed a w
  | 0, _, _, _, H => H
  | fuel + 1, _, _, _, H => ⟨H.1, fun i hi => wpOp_mono (fun a' w' h' => ⟨h w' h'.1, wpAnyH_switch h fuel _ a' w' h'.2⟩) (H.2 i hi)⟩

theorem num_bytes {n : Int} (h0 : -9223372036854775808 ≤ n) (h1 : n ≤ 9223372036854775807) : ∀ x ∈ num n, 0 ≤ x ∧ x ≤ 255 := by
  intro x hx
  have := many_le (bare_bd h0 h1).2
  rw [num, List.mem_cons] at hx
  rcases hx with rfl | hx
  · split <;> omega
  · exact digs_bytes _ _ x hx

theorem at_self (l : List Int) : At (fun i => l.getD i 0) 0 l := fun i hi => by rw [Nat.zero_add]

theorem at_app (l r : List Int) : At (fun i => (l ++ r).getD i 0) 0 l := fun i hi => by
  simp only [Nat.zero_add, List.getD, List.getElem?_append_left hi]

theorem num_inj {n m : Int} (h0 : -9223372036854775808 ≤ n) (h1 : n ≤ 9223372036854775807) (h2 : -9223372036854775808 ≤ m) (h3 : m ≤ 9223372036854775807) (h : num n = num m) : n = m := by
  have a := got_num (fun i => (num n).getD i 0) (num n).length 0 n h0 h1 (at_self _) (by omega)
  have b := got_num (fun i => (num m).getD i 0) (num m).length 0 m h2 h3 (at_self _) (by omega)
  rw [h, b] at a
  exact (congrArg Prod.fst a).symm

/-- A number that is cut off is none. -/
theorem got_cut (n : Int) (h0 : -9223372036854775808 ≤ n) (h1 : n ≤ 9223372036854775807) : got (fun i => (num n).getD i 0) ((num n).length - 1) 0 = (0, 0, 1) := by
  have hl := num_length n
  have hb := many_le (bare_bd h0 h1).2
  unfold got
  rw [if_neg (by omega)]
  by_cases hz : (0 : Int) = ((num n).length - 1 : Nat)
  · rw [if_pos hz]
  rw [if_neg hz]
  obtain ⟨hc, _⟩ := head_clr n (many (bare n)) (by omega) (by omega)
  have f0 : (num n).getD (0 : Int).toNat 0 = (if n < 0 then 16 else 0) + (many (bare n) : Int) := by simp [num]
  exact if_pos (by dsimp only; rw [f0, hc]; omega)

/-- A text that is cut off is none. -/
theorem text_cut (s : ByteArray) (hs : s.size ≤ 1000000) : gotText (fun i => (num s.size ++ sb s).getD i 0) ((num s.size).length + s.size - 1) 0 s.size = ([], 0, 1) := by
  by_cases hz : s.size = 0
  · have e : num s.size ++ sb s = num s.size := by
      have : (sb s).length = 0 := by rw [sb_length]; exact hz
      rw [List.eq_nil_of_length_eq_zero this, List.append_nil]
    have e2 : (num s.size).length + s.size - 1 = (num s.size).length - 1 := by omega
    rw [e, e2]
    unfold gotText
    rw [got_cut s.size (by omega) (by omega), if_pos (by simp)]
  · have g : got (fun i => (num s.size ++ sb s).getD i 0) ((num s.size).length + s.size - 1) 0 = ((s.size : Int), ((0 + (num s.size).length : Nat) : Int), 0) := got_num (fun i => (num s.size ++ sb s).getD i 0) ((num s.size).length + s.size - 1) 0 s.size (by omega) (by omega) (at_app _ _) (by omega)
    unfold gotText
    rw [g]
    simp only
    rw [if_neg (by simp), if_neg (by omega), if_neg (by omega), if_pos (by omega)]

theorem text_long (s : ByteArray) (hs : s.size ≤ 1000000) : gotText (fun i => (num s.size ++ sb s).getD i 0) ((num s.size).length + s.size) 0 ((s.size : Int) - 1) = ([], 0, 2) := by
  have g : got (fun i => (num s.size ++ sb s).getD i 0) ((num s.size).length + s.size) 0 = ((s.size : Int), ((0 + (num s.size).length : Nat) : Int), 0) := got_num (fun i => (num s.size ++ sb s).getD i 0) ((num s.size).length + s.size) 0 s.size (by omega) (by omega) (at_app _ _) (by omega)
  unfold gotText
  rw [g]
  simp only
  rw [if_neg (by simp), if_neg (by omega), if_pos (by omega)]

theorem put_nil (n : Int) (L : Nat) (hL : (num n).length = L) (w : World) (h0 : -9223372036854775808 ≤ n) (h1 : n ≤ 9223372036854775807) :
    Calls Try.prog 12 #[.slice none 0 0, .int .i64 n] w fun e w' => ∃ g c, e = .returned (.slice (some ⟨g, 0, none⟩) L c) ∧ Own w.heap.size w' g L c (num n) ∧ Below w.heap.size w w' := by
  subst hL
  have h := put_own none 0 0 [] n w h0 h1 (in_nil w) (by decide)
  rw [Nat.zero_add, List.nil_append] at h
  exact h

theorem putText_nil (s : ByteArray) (T : Nat) (hT : (num s.size).length + s.size = T) (w : World) (hs : s.size ≤ 1000000) :
    Calls Try.prog 14 #[.slice none 0 0, .string s] w fun e w' => ∃ g c, e = .returned (.slice (some ⟨g, 0, none⟩) T c) ∧ Own w.heap.size w' g T c (num s.size ++ sb s) ∧ Below w.heap.size w w' := by
  subst hT
  have h := putText_own none 0 0 [] s w (in_nil w) (by decide) (by omega)
  rw [Nat.zero_add, List.nil_append] at h
  exact h

theorem text_is (a : Option Addr) (n c : Nat) (p most : Int) (f : Nat → Int) (w : World) (h : Reads w a n c f) (t : List Int) (nx e : Int) (hg : gotText f n p most = (t, nx, e)) :
    Calls Try.prog 10 #[.slice a n c, .int .i64 p, .int .i64 most] w fun r w' => r = .returned (.tuple #[.string (str t), .int .i64 nx, .int .i64 e]) ∧ ∃ q, w' = w.drewN q := by
  have := text_any a n c p most f w h
  rw [hg] at this
  exact this

/-- A row that was made, shorter. -/
theorem Reads.shorter {w : World} {a : Option Addr} {n m c : Nat} {f : Nat → Int} (h : Reads w a n c f) (hm : m ≤ n) : Reads w a m c f :=
  ⟨Nat.le_trans hm h.1, h.2.1, h.2.2.1.mono hm, fun h0 => by
    obtain ⟨b, off, ha, hc⟩ := h.2.2.2 (by omega)
    exact ⟨b, off, ha, fun i hi => hc i (by omega)⟩⟩

set_option maxHeartbeats 400000 in
theorem walk_long (n m : Int) (s : ByteArray) (w : World) (h : (200 : Int) < s.size) :
    Calls Try.prog 6 #[.int .i64 n, .int .i64 m, .string s] w fun e w' => e = .returned (.bool true) ∧ Below w.heap.size w w' := by
  go_enter Try.func6, Try.ntmps6
  go_wp2_with fail
  refine (first_true _).mono ?_
  rintro e w1 ⟨rfl, hb1⟩
  go_wp2_with fail
  refine (first_true _).mono ?_
  rintro e w2 ⟨rfl, hb2⟩
  go_wp2_with fail
  go_ret
  exact ⟨rfl, hb1.trans (hb2.mono hb1.size)⟩

set_option maxHeartbeats 1000000 in
theorem walk_in (n m : Int) (s : ByteArray) (w : World) (hs : ¬ (200 : Int) < s.size) (h0 : -9223372036854775808 ≤ n) (h1 : n ≤ 9223372036854775807) (h2 : -9223372036854775808 ≤ m) (h3 : m ≤ 9223372036854775807)
    (hnm : ((str (num n)).toList == (str (num m)).toList) = (n == m)) :
    Calls Try.prog 6 #[.int .i64 n, .int .i64 m, .string s] w fun e w' => e = .returned (.bool true) ∧ Below w.heap.size w w' := by
  have hs' : s.size ≤ 200 := by omega
  obtain ⟨L, hL⟩ : ∃ L, (num n).length = L := ⟨_, rfl⟩
  obtain ⟨M, hM⟩ : ∃ M, (num m).length = M := ⟨_, rfl⟩
  obtain ⟨T, hT⟩ : ∃ T, (num s.size).length + s.size = T := ⟨_, rfl⟩
  have hL0 : 0 < L := hL ▸ num_pos n
  have hL9 : L ≤ 9 := hL ▸ num_le h0 h1
  have hT0 : 0 < T := by have := num_pos s.size; omega
  have hT9 : T ≤ 209 := by have := num_le (n := s.size) (by omega) (by omega); omega
  have hLz : ((L : Int) == 0) = false := by simp; omega
  have hTz : ((T : Int) == 0) = false := by simp; omega
  have hLi : (1 : Int) ≤ L := by omega
  have hTi : (1 : Int) ≤ T := by omega
  have G1 : Hid (got (fun i => (num n).getD i 0) (L - 1) 0 = (0, 0, 1)) := by rw [← hL]; exact got_cut n h0 h1
  have G2 : Hid (gotText (fun i => (num s.size ++ sb s).getD i 0) (T - 1) 0 s.size = ([], 0, 1)) := by rw [← hT]; exact text_cut s (by omega)
  have G3 : Hid (gotText (fun i => (num s.size ++ sb s).getD i 0) T 0 ((s.size : Int) - 1) = ([], 0, 2)) := by rw [← hT]; exact text_long s (by omega)
  have HL := hide hL
  have HM := hide hM
  have HTT := hide hT
  clear hL hM hT
  have B1 := hide (num_bytes h0 h1)
  have B2 : Hid (∀ x ∈ num s.size ++ sb s, 0 ≤ x ∧ x ≤ 255) := fun x hx => by
    rcases List.mem_append.1 hx with hx | hx
    · exact num_bytes (by omega) (by omega) x hx
    · exact sb_bytes s x hx
  go_enter Try.func6, Try.ntmps6
  go_wp2_with fail
  refine (first_true _).mono ?_
  rintro e w1 ⟨rfl, hb1⟩
  go_wp2_with fail
  refine (put_nil n L HL.out _ h0 h1).mono ?_
  rintro e w2 ⟨g1, c1, rfl, ho1, hb2⟩
  go_wp2_with fail
  refine (putText_nil s T HTT.out _ (by omega)).mono ?_
  rintro e w3 ⟨g2, c2, rfl, ho2, hb3⟩
  have ho1' := ho1.below hb3 ho1.hlt
  have HA := hide ho1'
  have HT := hide ho2
  have hlt1 := ho1'.hlt
  have hlt2 := ho2.hlt
  have hcap1 : (L : Int) ≤ c1 := by have := ho1'.hcap; omega
  have hcap2 : (T : Int) ≤ c2 := by have := ho2.hcap; omega
  have hcA := fun q => ho1'.conv (w3.drewN q) (fun _ => rfl)
  clear ho1 ho1' ho2
  go_wp2_with fail
  refine wp_region_noPanic ?_
  refine wp_region_held_drew (S := fun w' => (convert 22 9 (.slice (some ⟨g1, 0, none⟩) L c1)).run Try.prog w' = .ok (.string (str (num n))) w') (by kernel_rfl) (hcA 1) (fun hS => ?_)
  refine takeAt (i := 0) (d := some 28) (v := ?v0) rfl (by rfl) (by kernel_rfl) (by kernel_rfl) (by kernel_rfl) (fun _ _ _ h => h) (Or.inl ⟨by rfl, ?y0⟩) hS ?_
  case y0 => intro wx hSw; (go_simp) <;> with_reducible rfl
  simp only [Act.put, List.setIfInBounds_toArray, List.set_cons_zero, List.set_cons_succ]
  refine takeAt (i := 1) (d := some 29) (v := ?v1) rfl (by rfl) (by kernel_rfl) (by kernel_rfl) (by kernel_rfl) (fun _ _ _ h => h) (Or.inl ⟨by rfl, ?y1⟩) hS ?_
  case y1 => intro wx hSw; (go_simp) <;> with_reducible rfl
  simp only [Act.put, List.setIfInBounds_toArray, List.set_cons_zero, List.set_cons_succ]
  refine takeAt (i := 2) (d := some 30) (v := ?v2) rfl (by rfl) (by kernel_rfl) (by kernel_rfl) (by kernel_rfl) (fun _ _ _ h => h) (Or.inl ⟨by rfl, ?y2⟩) hS ?_
  case y2 => intro wx hSw; (go_simp) <;> with_reducible rfl
  simp only [Act.put, List.setIfInBounds_toArray, List.set_cons_zero, List.set_cons_succ]
  refine takeAt (i := 6) (d := some 34) (v := ?v6) rfl (by rfl) (by kernel_rfl) (by kernel_rfl) (by kernel_rfl) (fun _ _ _ h => h) (Or.inl ⟨by rfl, ?y6⟩) hS ?_
  case y6 => intro wx hSw; (go_simp) <;> with_reducible rfl
  simp only [Act.put, List.setIfInBounds_toArray, List.set_cons_zero, List.set_cons_succ]
  refine takeAt (i := 7) (d := some 35) (v := ?v7) rfl (by rfl) (by kernel_rfl) (by kernel_rfl) (by kernel_rfl) (fun _ _ _ h => h) (Or.inl ⟨by rfl, ?y7⟩) hS ?_
  case y7 => intro wx hSw; (go_simp) <;> with_reducible rfl
  simp only [Act.put, List.setIfInBounds_toArray, List.set_cons_zero, List.set_cons_succ]
  refine takeAt (i := 8) (d := some 36) (v := ?v8) rfl (by rfl) (by kernel_rfl) (by kernel_rfl) (by kernel_rfl) (fun _ _ _ h => h) (Or.inl ⟨by rfl, ?y8⟩) hS ?_
  case y8 => intro wx hSw; (go_simp) <;> with_reducible rfl
  simp only [Act.put, List.setIfInBounds_toArray, List.set_cons_zero, List.set_cons_succ]
  refine wpAnyH_ready (rs := [3]) (by kernel_rfl) (by simp) ?_
  refine AllReadyH.cons rfl (fun K hK => ?_) AllReadyH.nil
  go_simp
  refine (put_nil m M HM.out _ h2 h3).mono ?_
  rintro e w4 ⟨g3, c3, rfl, ho3, hb4⟩
  have hb4' : Below w3.heap.size w3 w4 := (Below.refl w3.heap.size w3).drew.trans hb4
  have HA4 := hide (HA.out.below hb4' hlt1)
  have HT4 := hide (HT.out.below hb4' hlt2)
  have hcA4 := HA4.out.conv w4 (fun _ => rfl)
  have hcM4 := ho3.conv w4 (fun _ => rfl)
  clear hS
  go_wp2_with fail
  refine hK.out _ _ hcA4 (fun _ => ?_)
  clear hK K
  refine wpAnyH_switch (S' := fun w' => (convert 22 9 (.slice (some ⟨g3, 0, none⟩) M c3)).run Try.prog w' = .ok (.string (str (num m))) w' ∧ (convert 22 9 (.slice (some ⟨g1, 0, none⟩) L c1)).run Try.prog w' = .ok (.string (str (num n))) w') (fun _ h => h.2) _ _ _ _ ?_
  have hS : (convert 22 9 (.slice (some ⟨g3, 0, none⟩) M c3)).run Try.prog w4 = .ok (.string (str (num m))) w4 ∧ (convert 22 9 (.slice (some ⟨g1, 0, none⟩) L c1)).run Try.prog w4 = .ok (.string (str (num n))) w4 := ⟨hcM4, hcA4⟩
  refine takeAt (i := 4) (d := some 32) (v := ?v4) rfl (by rfl) (by kernel_rfl) (by kernel_rfl) (by kernel_rfl) (fun _ _ _ h => h) (Or.inl ⟨by rfl, ?y4⟩) hS ?_
  case y4 => intro wx hSw; (go_simp) <;> with_reducible rfl
  simp only [Act.put, List.setIfInBounds_toArray, List.set_cons_zero, List.set_cons_succ]
  refine takeAt (i := 5) (d := some 33) (v := ?v5) rfl (by rfl) (by kernel_rfl) (by kernel_rfl) (by kernel_rfl) (fun _ _ _ h => h) (Or.inl ⟨by rfl, ?y5⟩) hS ?_
  case y5 => intro wx hSw; (go_simp) <;> with_reducible rfl
  simp only [Act.put, List.setIfInBounds_toArray, List.set_cons_zero, List.set_cons_succ]
  refine takeAt (i := 9) (d := some 37) (v := ?v9) rfl (by rfl) (by kernel_rfl) (by kernel_rfl) (by kernel_rfl) (fun _ _ _ h => h) (Or.inl ⟨by rfl, ?y9⟩) hS ?_
  case y9 => intro wx hSw; (go_simp) <;> with_reducible rfl
  simp only [Act.put, List.setIfInBounds_toArray, List.set_cons_zero, List.set_cons_succ]
  refine takeAt (i := 10) (d := some 38) (v := ?v10) rfl (by rfl) (by kernel_rfl) (by kernel_rfl) (by kernel_rfl) (fun _ _ _ h => h) (Or.inl ⟨by rfl, ?y10⟩) hS ?_
  case y10 => intro wx hSw; (go_simp) <;> with_reducible rfl
  simp only [Act.put, List.setIfInBounds_toArray, List.set_cons_zero, List.set_cons_succ]
  refine takeAt (i := 11) (d := some 39) (v := ?v11) rfl (by rfl) (by kernel_rfl) (by kernel_rfl) (by kernel_rfl) (fun _ _ _ h => h) (Or.inl ⟨by rfl, ?y11⟩) hS ?_
  case y11 => intro wx hSw; (go_simp) <;> with_reducible rfl
  simp only [Act.put, List.setIfInBounds_toArray, List.set_cons_zero, List.set_cons_succ]
  refine takeAt (i := 12) (d := some 40) (v := ?v12) rfl (by rfl) (by kernel_rfl) (by kernel_rfl) (by kernel_rfl) (fun _ _ _ h => h) (Or.inl ⟨by rfl, ?y12⟩) hS ?_
  case y12 => intro wx hSw; (go_simp) <;> with_reducible rfl
  simp only [Act.put, List.setIfInBounds_toArray, List.set_cons_zero, List.set_cons_succ]
  refine takeAt (i := 13) (d := some 41) (v := ?v13) rfl (by rfl) (by kernel_rfl) (by kernel_rfl) (by kernel_rfl) (fun _ _ _ h => h) (Or.inl ⟨by rfl, ?y13⟩) hS ?_
  case y13 => intro wx hSw; (go_simp) <;> with_reducible rfl
  simp only [Act.put, List.setIfInBounds_toArray, List.set_cons_zero, List.set_cons_succ]
  refine takeAt (i := 14) (d := some 42) (v := ?v14) rfl (by rfl) (by kernel_rfl) (by kernel_rfl) (by kernel_rfl) (fun _ _ _ h => h) (Or.inl ⟨by rfl, ?y14⟩) hS ?_
  case y14 => intro wx hSw; (go_simp) <;> with_reducible rfl
  simp only [Act.put, List.setIfInBounds_toArray, List.set_cons_zero, List.set_cons_succ]
  refine takeAt (i := 15) (d := some 43) (v := ?v15) rfl (by rfl) (by kernel_rfl) (by kernel_rfl) (by kernel_rfl) (fun _ _ _ h => h) (Or.inl ⟨by rfl, ?y15⟩) hS ?_
  case y15 => intro wx hSw; (go_simp) <;> with_reducible rfl
  simp only [Act.put, List.setIfInBounds_toArray, List.set_cons_zero, List.set_cons_succ]
  refine takeAt (i := 16) (d := some 44) (v := ?v16) rfl (by rfl) (by kernel_rfl) (by kernel_rfl) (by kernel_rfl) (fun _ _ _ h => h) (Or.inl ⟨by rfl, ?y16⟩) hS ?_
  case y16 => intro wx hSw; (go_simp) <;> with_reducible rfl
  simp only [Act.put, List.setIfInBounds_toArray, List.set_cons_zero, List.set_cons_succ]
  refine takeAt (i := 17) (d := some 45) (v := ?v17) rfl (by rfl) (by kernel_rfl) (by kernel_rfl) (by kernel_rfl) (fun _ _ _ h => h) (Or.inl ⟨by rfl, ?y17⟩) hS ?_
  case y17 => intro wx hSw; (go_simp) <;> with_reducible rfl
  simp only [Act.put, List.setIfInBounds_toArray, List.set_cons_zero, List.set_cons_succ]
  refine takeAt (i := 18) (d := some 46) (v := ?v18) rfl (by rfl) (by kernel_rfl) (by kernel_rfl) (by kernel_rfl) (fun _ _ _ h => h) (Or.inl ⟨by rfl, ?y18⟩) hS ?_
  case y18 => intro wx hSw; (go_simp) <;> with_reducible rfl
  simp only [Act.put, List.setIfInBounds_toArray, List.set_cons_zero, List.set_cons_succ]
  refine takeAt (i := 19) (d := some 47) (v := ?v19) rfl (by rfl) (by kernel_rfl) (by kernel_rfl) (by kernel_rfl) (fun _ _ _ h => h) (Or.inl ⟨by rfl, ?y19⟩) hS ?_
  case y19 => intro wx hSw; (go_simp) <;> with_reducible rfl
  simp only [Act.put, List.setIfInBounds_toArray, List.set_cons_zero, List.set_cons_succ]
  refine wpAnyH_done (by kernel_rfl) ?_ _
  refine NoPanic.normal ?_
  go_wp2_with fail
  refine (get_is _ (L - 1) c1 0 _ _ (Reads.shorter (HA4.out.reads B1.out) (by omega)) 0 0 1 G1.out).mono ?_
  rintro e w5 ⟨rfl, q1, rfl⟩
  go_wp2_with fail
  refine (text_is _ (T - 1) c2 0 s.size _ _ (by exact Reads.shorter (HT4.out.reads B2.out) (by omega)) [] 0 1 G2.out).mono ?_
  rintro e w6 ⟨rfl, q2, rfl⟩
  go_wp2_with fail
  refine (text_is _ T c2 0 _ _ _ (by exact HT4.out.reads B2.out) [] 0 2 G3.out).mono ?_
  rintro e w7 ⟨rfl, q3, rfl⟩
  go_wp2_with fail
  go_ret
  have hz1 := hb1.size
  have hz2 := hb2.size
  have hz3 := hb3.size
  refine ⟨rfl, ?_⟩
  exact below_drewN (((hb1.trans (hb2.mono (by omega))).trans (hb3.mono (by omega))).trans (hb4'.mono (by omega))) _

theorem walk (a0 : Int) (a1 : Int) (a2 : ByteArray) (w0 : (Lit.int .i64 a0).wf = true) (w1 : (Lit.int .i64 a1).wf = true) (w2 : a2.size ≤ maxLen) (w : World) :
    Calls Try.prog 6 #[.int .i64 a0, .int .i64 a1, .string a2] w fun e w' => e = .returned (.bool true) ∧ Below w.heap.size w w' := by
  by_cases hs : (200 : Int) < a2.size
  · exact walk_long a0 a1 a2 w hs
  have b0 := bounds_i64 w0
  have b1 := bounds_i64 w1
  refine walk_in a0 a1 a2 w hs b0.1 b0.2 b1.1 b1.2 ?_
  by_cases h : a0 = a1
  · subst h; simp
  · rw [beq_eq_false_iff_ne.2 h, beq_eq_false_iff_ne]
    intro e
    rw [ByteArray.toList_eq, ByteArray.toList_eq] at e
    exact h (num_inj b0.1 b0.2 b1.1 b1.2 (str_inj (num_bytes b0.1 b0.2) (num_bytes b1.1 b1.2) (ext_list e)))

set_option maxRecDepth 100000 in
theorem lifted (os : Os) (started : os.Started) (H : Type) (enc : TypeId × Value → H) :
    ReturnsInHanded {} Try.checked os 6 .any (Rows.wireCutSpec.pre6 enc Try.prog Try.f6 Rows.wireCutRow.domain false) (Rows.wireCutSpec.post enc Try.prog Try.f6 false true false false) := by
  refine returnsInHanded_of_change (C := Try.checked) own started (by kernel_rfl) Try.func6
    (ChangeSpec.witness6 (enc := enc) (C := Try.checked) false ⟨#[], #[.int .i64 0, .int .i64 0, .string ByteArray.empty], []⟩ 8 (by kernel_rfl) (by kernel_rfl) (by kernel_rfl) (by kernel_rfl)) ?_
  intro W base args ds gs before hval0 hW hcnd _
  have hval : ∀ (j : Nat) t v, Try.f6.params[j]? = some t → args[j]? = some v → Value.okWide Try.prog W .any base t v := hval0
  have hW' := hW
  obtain ⟨p, q, hA0, hV, rfl, hfz, hnd⟩ := hW
  have hA : DataW.TrodAll enc Try.prog W 0 (fun _ => true) true Try.f6.params.toList args.toList ds p := hA0
  rw [Try.params6] at hA hval
  obtain ⟨v0, vs0, d0, ds0, p0, q0, hargs, rfl, rfl, h0, r0⟩ := trodAll_cons hA
  obtain ⟨v1, vs1, d1, ds1, p1, q1, rfl, rfl, rfl, h1, r1⟩ := trodAll_cons r0
  obtain ⟨v2, vs2, d2, ds2, p2, q2, rfl, rfl, rfl, h2, r2⟩ := trodAll_cons r1
  obtain ⟨rfl, rfl, rfl⟩ := trodAll_nil r2
  obtain rfl : args = #[v0, v1, v2] := by cases args; simp_all
  obtain ⟨rfl, rfl⟩ := trodVars_none hV
  obtain ⟨a0, rfl, rfl, rfl, w0⟩ := open_int Try.underlying2 (hval 0 2 v0 rfl rfl) h0
  obtain ⟨a1, rfl, rfl, rfl, w1⟩ := open_int Try.underlying2 (hval 1 2 v1 rfl rfl) h1
  obtain ⟨a2, rfl, rfl, rfl, w2⟩ := open_string Try.underlying9 (hval 2 9 v2 rfl rfl) h2
  clear hA0 hval0
  simp only [List.append_nil] at hW'
  refine (walk a0 a1 a2 w0 w1 w2 W).mono fun e W' ⟨he, bel⟩ => ?_
  subst he
  exact ⟨_, rfl, _, _, _, [], _, [], hW', trodAll_mk1 (shut_bool Try.underlying4 _), (trodAll_cons_mk (shut_int Try.underlying2 w0) (trodAll_cons_mk (shut_int Try.underlying2 w1) (trodAll_cons_mk (shut_string Try.underlying9 w2) trodAll_mk0))), rfl, bel.frame _, fun h => by cases h⟩

theorem over : Rows.wireCutRow.holds Try.pinned (OpenSpec.ofChange Rows.wireCutSpec) :=
  OpenClaim.holds_of_wide 6 Try.f6 rfl rfl rfl rfl rfl rfl rfl ⟨rfl, rfl, rfl, rfl, rfl⟩ rfl rfl rfl rfl rfl (by kernel_rfl) Try.func6 (by kernel_rfl)
    (of_decide_eq_true (by kernel_rfl)) (by unfold Func.isWrapper; first | (rw [if_pos (by decide +kernel)]; kernel_rfl) | (rw [if_neg (by decide +kernel)]; exact ⟨rfl, rfl⟩))
    (fun os started H enc _ => lifted os started H enc)

theorem proved : Rows.WireCutSaid :=
  over
#print axioms proved
end Go.Proofs.Ytiepgocbgjdhpaa.wireCut
