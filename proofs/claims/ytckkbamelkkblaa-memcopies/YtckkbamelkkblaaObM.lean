/-
  MemCopies, walked.
-/
import Derived.Test.YtckkbamelkkblaaObl
namespace Go.Proofs.Ytckkbamelkkblaa.Ob
open Go.RowKit View

set_option linter.unusedVariables false

set_option maxRecDepth 10000 in
set_option maxHeartbeats 2000000 in
theorem copies_small (sa : Sl) (fa : Nat → Int) (off v : Int) (w : World) (ha : Ints w sa fa) (hn : sa.n ≤ 20) (h0 : sa.n ≠ 0) :
    Calls Try.prog 5 #[.slice sa.a sa.n sa.c, .int .i64 off, .int .i64 v] w fun e w' => e = .returned (.bool true) ∧ Below w.heap.size w w' := by
  have HA := hid ha
  have t1 : decide ((20 : Int) < (sa.n : Int)) = false := by simp; omega
  have t2 : ((sa.n : Int) == 0) = false := by simp; omega
  clear ha
  go_enter Try.func5, Try.ntmps5
  go_upto_region 8 with (first
    | (go_at_call 6; refine (first_any _).mono ?_; rintro e w1 ⟨rfl, hb⟩; have st1 := hid hb; clear hb)
    | (go_at_call 7; refine (new_mem _).mono ?_; rintro e w2 ⟨rfl, hw2⟩; have HW := hid hw2; clear hw2))
  clear t1 t2
  have z2 : w2.heap.size = w1.heap.size + 1 := by rw [HW.out]; simp
  have b2 : Below w1.heap.size w1 w2 := by rw [HW.out]; exact new (same _) _
  have b02 : Below w.heap.size w w2 := more st1.out b2
  obtain ⟨s2, w3, hrun, e3, i3, m3, b3⟩ := app_in (w := w2) (w1 := w2.alloc (.cells #[] 2)) (new (same _) _) (by simp) (by show (w2.heap.push _)[w2.heap.size]? = _; simp) sa fa (HA.out.on b02) (by omega) 30
  obtain ⟨g, hg, hg1, hg2, hg3⟩ := m3 (by omega)
  have O3 := obs_laid (base := w3.heap.size) (w' := w3) S0 f0 (by rw [← z2, ← HW.out]; exact b3) (by have := b3.size; omega) (Nat.le_refl _)
  obtain ⟨M, hM⟩ : ∃ M, w1.heap.size = M := ⟨_, rfl⟩
  rw [hM] at O3 z2 ⊢
  obtain ⟨B, hB⟩ : ∃ B, w3.heap.size = B := ⟨_, rfl⟩
  rw [hB] at O3 hg2
  have HMM := hid (show w.heap.size ≤ M ∧ M < g ∧ g < B ∧ M < B from ⟨by rw [← hM]; exact st1.out.size, by omega, hg2, by omega⟩)
  have H3 := hid (show Obs B w3 M 0 ⟨none, 0, 0⟩ 0 S0 f0 ∧ Below w.heap.size w w3 ∧ Ints w3 s2 fa ∧ s2.n = sa.n ∧ s2.a = some ⟨g, 0, none⟩ ∧ ∀ i, w3.frozen? ⟨g, i, none⟩ = false from ⟨O3, more b02 b3, i3, e3, hg, hg3⟩)
  clear hM z2 b2 b02 HW st1 e3 i3 m3 b3 hg hg1 hg2 hg3 O3
  go_upto_region 9 with (at_builtin; refine wpList_app (.tmp 30) (.tmp 31) (by rfl) (by rfl) (by rfl) (by rfl) (by rfl) hrun ?_)
  go_wp2_with fail
  refine (make_mem H3.out.1 (by omega) s2 fa H3.out.2.2.1 (by have := H3.out.2.2.2.1; omega)).mono ?_
  rintro e w4 ⟨rfl, v4, s4, hs4, O4, C4, F4⟩
  have b4 : Below w.heap.size w w4 := C4.below H3.out.2.1 H3.out.2.1.size (fun x hx => by rcases H3.out.1.ge hx with rfl | h; exact HMM.out.1; have := HMM.out; omega)
  have i4 : Ints w4 s2 fa ∧ ∀ i, w4.frozen? ⟨g, i, none⟩ = false := by
    have hb : w4.heap[g]? = w3.heap[g]? := C4.block g (by have := HMM.out; omega) (fun hx => by rcases H3.out.1.ge hx with h | h <;> have := HMM.out <;> omega)
    refine ⟨?_, fun i => by rw [World.frozen?_of_block (w := w3) hb]; exact H3.out.2.2.2.2.2 i⟩
    obtain ⟨p1, p2, p3, p4⟩ := H3.out.2.2.1
    refine ⟨p1, p2, p3, fun q => ?_⟩
    obtain ⟨b, o, ha, hc⟩ := p4 q
    have e := H3.out.2.2.2.2.1
    rw [e] at ha
    obtain ⟨rfl, rfl⟩ : g = b ∧ 0 = o := by simpa using ha
    exact ⟨g, 0, e, fun i hi => by rw [World.cell?_of_block (w := w3) hb]; exact hc i hi⟩
  have H4 := hid (And.intro hs4 (And.intro O4 (And.intro b4 i4)))
  clear hs4 O4 C4 F4 b4 i4
  go_wp2_with fail
  refine (make_mem H4.out.2.1 (by omega) s2 fa H4.out.2.2.2.1 (by have := H3.out.2.2.2.1; omega)).mono ?_
  rintro e w5 ⟨rfl, v5, s5, hs5, O5, C5, F5⟩
  have b5 : Below w.heap.size w w5 := C5.below H4.out.2.2.1 H4.out.2.2.1.size (fun x hx => by rcases H4.out.2.1.ge hx with rfl | h; exact HMM.out.1; have := HMM.out; omega)
  have gB : ¬ Fp M v4 (0 + 1) (fun i => if i = 0 then s4 else S0 i) g := fun hx => by rcases H4.out.2.1.ge hx with h | h <;> have := HMM.out <;> omega
  have gz : g < w4.heap.size := by have := H4.out.2.1.le; have := HMM.out; omega
  have hb5 : w5.heap[g]? = w4.heap[g]? := C5.block g gz gB
  have fz5 : ∀ i, w5.frozen? ⟨g, i, none⟩ = false := fun i => by rw [World.frozen?_of_block (w := w4) hb5]; exact H4.out.2.2.2.2 i
  obtain ⟨sL, cL⟩ : s2.a = some ⟨g, 0, none⟩ ∧ ∀ i, i < s2.n → w5.cell? ⟨g, i, none⟩ = some (.int .i64 (fa i)) := by
    have e := H3.out.2.2.2.2.1
    refine ⟨e, fun i hi => ?_⟩
    obtain ⟨b, o, ha, hc⟩ := H4.out.2.2.2.1.2.2.2 (by omega)
    rw [e] at ha
    obtain ⟨rfl, rfl⟩ : g = b ∧ 0 = o := by simpa using ha
    rw [World.cell?_of_block (w := w4) hb5]
    have := hc i hi
    rwa [Nat.zero_add] at this
  obtain ⟨S, hS⟩ : ∃ S : Nat → Sl, S = fun i => if i = 0 + 1 then s5 else if i = 0 then s4 else S0 i := ⟨_, rfl⟩
  obtain ⟨f, hf⟩ : ∃ f : Nat → Nat → Int, f = fun i => if i = 0 + 1 then fa else if i = 0 then fa else f0 i := ⟨_, rfl⟩
  rw [← hS, ← hf] at O5
  have en := H3.out.2.2.2.1
  have z0 : (S 0).n = sa.n := by rw [hS]; exact H4.out.1.trans en
  have z1 : (S 1).n = sa.n := by rw [hS]; exact hs5.trans en
  have g0 : f 0 = fa := by rw [hf]; rfl
  have g1 : f 1 = fa := by rw [hf]; rfl
  have H5 := hid (show Obs B w5 M 0 v5 2 S f ∧ Below w.heap.size w w5 ∧ (S 0).n = sa.n ∧ (S 1).n = sa.n ∧ f 0 = fa ∧ f 1 = fa ∧ s2.a = some ⟨g, 0, none⟩ ∧ s2.n = sa.n from ⟨O5, b5, z0, z1, g0, g1, sL, en⟩)
  have HC := hid (And.intro cL fz5)
  clear hs5 O5 C5 F5 b5 hS hf z0 z1 g0 g1 H3 H4 sL cL fz5 gB gz hb5 en
  go_upto_region 11 with fail
  obtain ⟨k, hk, ek⟩ : ∃ k : Nat, k < sa.n ∧ wrap64 ((IntKind.u64.wrap off).tmod (sa.n : Int)) = (k : Int) := by
    have h1 : 0 ≤ IntKind.u64.wrap off := by
      unfold IntKind.wrap
      exact Int.emod_nonneg _ (by decide)
    generalize IntKind.u64.wrap off = U at h1
    have h2 : U.tmod (sa.n : Int) = U % (sa.n : Int) := Int.tmod_eq_emod_of_nonneg h1
    rw [h2]
    have h3 := Int.emod_nonneg U (show (sa.n : Int) ≠ 0 by omega)
    have h4 := Int.emod_lt_of_pos U (show 0 < (sa.n : Int) by omega)
    exact ⟨(U % (sa.n : Int)).toNat, by omega, by unfold wrap64; omega⟩
  rw [ek]
  have hix : ∀ wx, (Instr.indexAt 30 (.slice s2.a s2.n s2.c) (.int .i64 k)).run Try.prog wx = .ok (.pointer (some ⟨g, k, none⟩)) wx := by
    have := index_row H5.out.2.2.2.2.2.2.1 underlying30 size2 (k := k) (by have := H5.out.2.2.2.2.2.2.2; omega)
    simpa using this
  have hck := HC.out.1 k (by have := H5.out.2.2.2.2.2.2.2; omega)
  have hfz := HC.out.2 k
  have HK := hid hk
  clear ek
  go_upto_region 12 with fail
  obtain ⟨x, hx⟩ : ∃ x, bits .xor .i64 v 5 = x := ⟨_, rfl⟩
  rw [hx]
  obtain ⟨w6, hw6⟩ : ∃ w6, w5.setCell ⟨g, k, none⟩ (.int .i64 x) = w6 := ⟨_, rfl⟩
  rw [hw6]
  have C6 : Chg (fun b => b = g) w5 w6 := by
    rw [← hw6]
    exact ⟨rfl, rfl, rfl, by rw [World.size_setCell]; exact Nat.le_refl _, fun b _ hb => Below.heap_setCell _ _ _ _ hb⟩
  have O6 := H5.out.1.chg C6 (fun b hb hF => by rcases H5.out.1.ge hF with h | h <;> have := HMM.out <;> omega)
  have b6 : Below w.heap.size w w6 := C6.below H5.out.2.1 H5.out.2.1.size (fun b hb => by have := HMM.out; omega)
  have H6 := hid (And.intro O6 b6)
  have e0 : hasC 2 S ((0 : Nat) : Int) (k : Int) = true := hasC_iff.2 ⟨0, k, rfl, rfl, by omega, by rw [H5.out.2.2.1]; exact hk⟩
  have e1 : hasC 2 S ((1 : Nat) : Int) (k : Int) = true := hasC_iff.2 ⟨1, k, rfl, rfl, by omega, by rw [H5.out.2.2.2.1]; exact hk⟩
  have ST := hid (store_mem O6 (by omega) ((0 : Nat) : Int) (k : Int) v)
  have E0 := hid (And.intro e0 e1)
  clear hx hw6 C6 O6 b6 hix hck hfz e0 e1
  go_wp2_with fail
  refine ST.out.mono ?_
  rintro e w7 ⟨rfl, O7, C7⟩
  have b7 : Below w.heap.size w w7 := C7.below H6.out.2 H6.out.2.size (fun x hx => by rcases H6.out.1.ge hx with rfl | h; exact HMM.out.1; have := HMM.out; omega)
  have L0 := hid (show Calls Try.prog 10 #[.pointer (some ⟨M, 0, none⟩), .int .i64 0, .int .i64 k] w7 fun e w' => e = .returned (.tuple #[.int .i64 v, .bool true]) ∧ w' = w7 by
    have := load_mem O7 (by omega) ((0 : Nat) : Int) (k : Int)
    unfold cellV at this
    rw [E0.out.1] at this
    simpa using this)
  have L1 := hid (show Calls Try.prog 10 #[.pointer (some ⟨M, 0, none⟩), .int .i64 1, .int .i64 k] w7 fun e w' => e = .returned (.tuple #[.int .i64 (fa k), .bool true]) ∧ w' = w7 by
    have := load_mem O7 (by omega) ((1 : Nat) : Int) (k : Int)
    unfold cellV at this
    rw [E0.out.2, E0.out.1] at this
    simpa [H5.out.2.2.2.2.2.1] using this)
  obtain ⟨b1, o1, hiy, hcj⟩ := int_at (HA.out.on b7) hk
  have B7 := hid b7
  clear O7 C7 b7
  go_wp2_with fail
  refine L0.out.mono ?_
  rintro e w8 ⟨rfl, hw8⟩
  replace hw8 := hw8.symm
  subst hw8
  go_wp2_with fail
  refine L1.out.mono ?_
  rintro e w8 ⟨rfl, hw8⟩
  replace hw8 := hw8.symm
  subst hw8
  go_wp2_with fail
  go_ret
  exact ⟨rfl, B7.out⟩

set_option maxRecDepth 10000 in
set_option maxHeartbeats 1000000 in
theorem copies_any (sa : Sl) (fa : Nat → Int) (off v : Int) (w : World) (ha : Ints w sa fa) :
    Calls Try.prog 5 #[.slice sa.a sa.n sa.c, .int .i64 off, .int .i64 v] w fun e w' => e = .returned (.bool true) ∧ Below w.heap.size w w' := by
  by_cases h1 : sa.n ≤ 20
  · by_cases h2 : sa.n = 0
    · have t1 : decide ((20 : Int) < (sa.n : Int)) = false := by simp; omega
      have t2 : ((sa.n : Int) == 0) = true := by simp; omega
      clear ha h2
      go_enter Try.func5, Try.ntmps5
      go_wp2_with (first
        | (go_at_call 6; refine (first_any _).mono ?_; rintro e w1 ⟨rfl, hb⟩; have st2 := st1; have st3 := hid hb; clear hb)
        | (go_at_call 6; refine (first_any _).mono ?_; rintro e w1 ⟨rfl, hb⟩; have st1 := hid hb; clear hb))
      go_ret
      exact ⟨rfl, more st1.out st3.out⟩
    · exact copies_small sa fa off v w ha h1 h2
  · have t1 : decide ((20 : Int) < (sa.n : Int)) = true := by simp; omega
    clear ha
    go_enter Try.func5, Try.ntmps5
    go_wp2_with (first
      | (go_at_call 6; refine (first_any _).mono ?_; rintro e w1 ⟨rfl, hb⟩; have st2 := st1; have st3 := hid hb; clear hb)
      | (go_at_call 6; refine (first_any _).mono ?_; rintro e w1 ⟨rfl, hb⟩; have st1 := hid hb; clear hb))
    go_ret
    exact ⟨rfl, more st1.out st3.out⟩

end Go.Proofs.Ytckkbamelkkblaa.Ob
