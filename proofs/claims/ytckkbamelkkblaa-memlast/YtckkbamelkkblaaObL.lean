/-
  MemLast, walked.
-/
import Derived.Test.YtckkbamelkkblaaObl
namespace Go.Proofs.Ytckkbamelkkblaa.Ob
open Go.RowKit View

set_option linter.unusedVariables false

theorem Ints.onb {w w' : World} {s : Sl} {f : Nat → Int} (hb : Below w.heap.size w w') (h : Ints w s f) : Ints w' s f := h.on hb

/-- A loop's number, in a world that stays. -/
def Rnd (n : Nat) (W : World) (iv : Value) (wx : World) : Prop := ∃ k : Nat, k ≤ n ∧ iv = .int .i64 k ∧ wx = W

theorem rnd_mk {n k : Nat} {W : World} {i : Int} (h : k ≤ n) (hi : i = (k : Int)) : Rnd n W (.int .i64 i) W := ⟨k, h, by rw [hi], rfl⟩

set_option maxRecDepth 10000 in
set_option maxHeartbeats 2000000 in
theorem last_small (sa sb : Sl) (fa fb : Nat → Int) (obj off v : Int) (w : World) (ha : Ints w sa fa) (hb : Ints w sb fb) (hn : sa.n ≤ 20) (hm : sb.n ≤ 20) :
    Calls Try.prog 4 #[.slice sa.a sa.n sa.c, .slice sb.a sb.n sb.c, .int .i64 obj, .int .i64 off, .int .i64 v] w fun e w' => e = .returned (.bool true) ∧ Below w.heap.size w w' := by
  have HA := hid (And.intro ha hb)
  have t1 : decide ((20 : Int) < (sa.n : Int)) = false := by simp; omega
  have t2 : decide ((20 : Int) < (sb.n : Int)) = false := by simp; omega
  clear ha hb
  go_enter Try.func4, Try.ntmps4
  go_wp2_with (first
    | (go_at_call 6; refine (first_any _).mono ?_; rintro e w1 ⟨rfl, hb⟩; have st1 := hid hb; clear hb)
    | (go_at_call 7; refine (new_mem _).mono ?_; rintro e w2 ⟨rfl, hw2⟩; have HW := hid hw2; clear hw2))
  clear t1 t2
  have z2 : w2.heap.size = w1.heap.size + 1 := by rw [HW.out]; simp
  have b2 : Below w1.heap.size w1 w2 := by rw [HW.out]; exact new (same _) _
  have b02 : Below w.heap.size w w2 := more st1.out b2
  have O2 := obs_laid (base := w2.heap.size) (w' := w2) S0 f0 (by rw [HW.out]; exact Below.refl _ _) (by omega) (Nat.le_refl _)
  obtain ⟨M, hM⟩ : ∃ M, w1.heap.size = M := ⟨_, rfl⟩
  rw [hM] at O2 ⊢
  have hMw : w.heap.size ≤ M := by rw [← hM]; exact st1.out.size
  have HMM := hid (And.intro hMw (show M < w2.heap.size by omega))
  obtain ⟨B, hB⟩ : ∃ B, w2.heap.size = B := ⟨_, rfl⟩
  rw [hB] at O2 HMM
  have HB2 := hid b02
  have OO := hid O2
  clear hM hMw z2 b2 b02 HW st1
  refine (make_mem O2 (by omega) sa fa (HA.out.1.on HB2.out) (by omega)).mono ?_
  rintro e w3 ⟨rfl, v3, s3, hs3, O3, C3, F3⟩
  have b3 : Below w.heap.size w w3 := C3.below HB2.out HB2.out.size (fun x hx => by rcases O2.ge hx with rfl | h; exact HMM.out.1; have := HMM.out; omega)
  have H3 := hid (And.intro hs3 (And.intro O3 b3))
  clear hs3 O3 C3 F3 b3 O2
  go_wp2_with fail
  refine (make_mem H3.out.2.1 (by omega) sb fb (HA.out.2.on H3.out.2.2) (by omega)).mono ?_
  rintro e w4 ⟨rfl, v4, s4, hs4, O4, C4, F4⟩
  have b4 : Below w.heap.size w w4 := C4.below H3.out.2.2 H3.out.2.2.size (fun x hx => by rcases H3.out.2.1.ge hx with rfl | h; exact HMM.out.1; have := HMM.out; omega)
  obtain ⟨S, hS⟩ : ∃ S : Nat → Sl, S = fun i => if i = 0 + 1 then s4 else if i = 0 then s3 else S0 i := ⟨_, rfl⟩
  obtain ⟨f, hf⟩ : ∃ f : Nat → Nat → Int, f = fun i => if i = 0 + 1 then fb else if i = 0 then fa else f0 i := ⟨_, rfl⟩
  rw [← hS, ← hf] at O4
  have z0 : (S 0).n = sa.n := by rw [hS]; exact H3.out.1
  have z1 : (S 1).n = sb.n := by rw [hS]; exact hs4
  have g0 : f 0 = fa := by rw [hf]; rfl
  have g1 : f 1 = fb := by rw [hf]; rfl
  have H4 := hid (show Obs B w4 M 0 v4 2 S f ∧ Below w.heap.size w w4 ∧ (S 0).n = sa.n ∧ (S 1).n = sb.n ∧ f 0 = fa ∧ f 1 = fb from ⟨O4, b4, z0, z1, g0, g1⟩)
  clear hs4 O4 C4 F4 b4 hS hf z0 z1 g0 g1 H3 OO
  go_wp2_with fail
  refine (store_mem H4.out.1 (by omega) obj off v).mono ?_
  rintro e w5 ⟨rfl, O5, C5⟩
  have b5 : Below w.heap.size w w5 := C5.below H4.out.2.1 H4.out.2.1.size (fun x hx => by rcases H4.out.1.ge hx with rfl | h; exact HMM.out.1; have := HMM.out; omega)
  obtain ⟨ok, hok⟩ : ∃ ok, hasC 2 S obj off = ok := ⟨_, rfl⟩
  rw [hok] at O5 ⊢
  obtain ⟨W, hW⟩ : ∃ W, w5.alloc (.cells #[.slice sa.a sa.n sa.c, .slice sb.a sb.n sb.c] 30) = W := ⟨_, rfl⟩
  have bW : Below w5.heap.size w5 W := by rw [← hW]; exact new (same _) _
  have OW := O5.on bW
  have bw : Below w.heap.size w W := more b5 bW
  have hc0 : W.cell? ⟨w5.heap.size, 0, none⟩ = some (.slice sa.a sa.n sa.c) := by rw [← hW]; simp
  have hc1 : W.cell? ⟨w5.heap.size, 1, none⟩ = some (.slice sb.a sb.n sb.c) := by rw [← hW]; simp
  have HC := hid (And.intro hc0 hc1)
  have HW := hid (And.intro OW bw)
  have LEN := hid (show Calls Try.prog 14 #[.pointer (some ⟨M, 0, none⟩)] W fun e w' => e = .returned (.int .i64 2) ∧ w' = W by have := len_mem OW (by omega); exact this)
  obtain ⟨z, hz⟩ : ∃ z, szOf 2 S obj = z := ⟨_, rfl⟩
  have SIZ := hid (show Calls Try.prog 15 #[.pointer (some ⟨M, 0, none⟩), .int .i64 obj] W fun e w' => e = .returned (.int .i64 z) ∧ w' = W by have := size_mem OW (by omega) obj; rw [hz] at this; exact this)
  have LOA := hid (show ∀ k j : Nat, ∀ sk fk, ((k = 0 ∧ sk = sa ∧ fk = fa) ∨ (k = 1 ∧ sk = sb ∧ fk = fb)) → j < sk.n → Calls Try.prog 10 #[.pointer (some ⟨M, 0, none⟩), .int .i64 k, .int .i64 j] W fun e w' => e = .returned (.tuple #[.int .i64 (if ok = true ∧ (k : Int) = obj ∧ (j : Int) = off then v else fk j), .bool true]) ∧ w' = W from fun k j sk fk hk hj => by
    have h2 : k < 2 := by rcases hk with h | h <;> omega
    have hSk : (S k).n = sk.n := by rcases hk with ⟨rfl, rfl, _⟩ | ⟨rfl, rfl, _⟩; exact H4.out.2.2.1; exact H4.out.2.2.2.1
    have hfk : f k = fk := by rcases hk with ⟨rfl, _, rfl⟩ | ⟨rfl, _, rfl⟩; exact H4.out.2.2.2.2.1; exact H4.out.2.2.2.2.2
    have e : hasC 2 S k j = true := hasC_iff.2 ⟨k, j, rfl, rfl, h2, by omega⟩
    have := load_mem OW (by omega) k j
    unfold cellV at this
    rw [if_pos e, e] at this
    simp only [Int.toNat_natCast, hfk] at this
    exact this)
  have OKS := hid (show ok = (decide (0 ≤ obj) && (decide (obj < 2) && (decide (0 ≤ off) && decide (off < (z : Int))))) by
    rw [← hok, ← hz]
    unfold hasC szOf
    by_cases h1 : 0 ≤ obj
    · by_cases h2 : obj < 2
      · simp [h1, h2]
      · have : ¬ (0 ≤ obj ∧ obj < (2 : Nat)) := by omega
        rw [if_neg this]
        simp [h2]
    · have : ¬ (0 ≤ obj ∧ obj < (2 : Nat)) := by omega
      rw [if_neg this]
      simp [h1])
  clear hc0 hc1 OW bW O5 C5 b5 H4 hok hz bw
  have fin : ∀ b : Bool, ok = b → (decide (0 ≤ obj) = false ∨ (decide (0 ≤ obj) = true ∧ (decide (obj < 2) = false ∨ (decide (obj < 2) = true ∧ (decide (0 ≤ off) = false ∨ (decide (0 ≤ off) = true ∧ (decide (off < (z : Int)) = false ∨ decide (off < (z : Int)) = true))))))) := by
    intro b _
    cases decide (0 ≤ obj) <;> cases decide (obj < 2) <;> cases decide (0 ≤ off) <;> cases decide (off < (z : Int)) <;> simp
  rcases fin ok rfl with q1 | ⟨q1, q2 | ⟨q2, q3 | ⟨q3, q4 | q4⟩⟩⟩
  rotate_left 4
  · clear fin
    have e := OKS.out
    simp only [*, Bool.true_and] at e
    subst e
    clear OKS
    go_wp2_with (first
      | (go_at_call 14; refine LEN.out.mono ?_; rintro e w6 ⟨rfl, hw6⟩; replace hw6 := hw6.symm; subst hw6)
      | (go_at_call 15; refine SIZ.out.mono ?_; rintro e w7 ⟨rfl, hw7⟩; replace hw7 := hw7.symm; subst hw7))
    go_loopw [16] (fun iv wx => Rnd 2 W iv wx) (fun iv _ => 2 - (intOf iv).toNat)
    case atStart => exact rnd_mk (k := 0) (by omega) rfl
    case round =>
      obtain ⟨k, hk, rfl, hwr⟩ := hrel
      replace hwr := hwr.symm
      subst hwr
      by_cases hlt : k < 2
      · obtain ⟨sk, fk, hsel, hck, hik⟩ : ∃ (sk : Sl) (fk : Nat → Int), ((k = 0 ∧ sk = sa ∧ fk = fa) ∨ (k = 1 ∧ sk = sb ∧ fk = fb)) ∧ W.cell? ⟨w5.heap.size, k, none⟩ = some (.slice sk.a sk.n sk.c) ∧ Ints w sk fk := by
          obtain rfl | rfl : k = 0 ∨ k = 1 := by omega
          · exact ⟨sa, fa, .inl ⟨rfl, rfl, rfl⟩, HC.out.1, HA.out.1⟩
          · exact ⟨sb, fb, .inr ⟨rfl, rfl, rfl⟩, HC.out.2, HA.out.2⟩
        have hkn : sk.n ≤ 20 := by rcases hsel with ⟨_, rfl, _⟩ | ⟨_, rfl, _⟩ <;> omega
        have hix := index_row (s := ⟨some ⟨w5.heap.size, 0, none⟩, 2, 2⟩) rfl underlying27 size30 (k := k) hlt
        simp only [Nat.zero_add, Nat.mul_one] at hix
        have HS := hid (And.intro hsel hik)
        have r0 : decide ((k : Int) < 2) = true := by simp; omega
        clear hsel hik
        go_wp2_with fail
        go_loopw [17] (fun iv wx => Rnd sk.n W iv wx) (fun iv _ => sk.n - (intOf iv).toNat)
        case atStart => exact rnd_mk (k := 0) (by omega) rfl
        case round =>
          obtain ⟨j, hj, rfl, hwr⟩ := hrel
          replace hwr := hwr.symm
          subst hwr
          by_cases hjl : j < sk.n
          · obtain ⟨b1, o1, hiy, hcj⟩ := int_at (HS.out.2.on HW.out.2) hjl
            have LO := hid (LOA.out k j sk fk HS.out.1 hjl)
            have HE := LO.out
            by_cases e1 : (k : Int) = obj
            · subst e1
              by_cases e2 : (j : Int) = off
              · subst e2
                rw [if_pos ⟨trivial, rfl, rfl⟩] at HE
                have LO := hid HE
                clear HE
                go_wp2_with (go_at_call 10; refine LO.out.mono ?_; rintro e w8 ⟨rfl, hw8⟩; replace hw8 := hw8.symm; subst hw8)
                go_round
                case rel => first | exact rnd_mk (k := j + 1) (by omega) (by go_num) | ((repeat apply Exists.intro); exact ⟨rnd_mk (k := j + 1) (by omega) (by go_num), rfl⟩)
                case measure => simp [intOf]; omega
              · have r2 : ((j : Int) == off) = false := by simpa using e2
                rw [if_neg (fun h => e2 h.2.2)] at HE
                have LO := hid HE
                clear HE
                go_wp2_with (go_at_call 10; refine LO.out.mono ?_; rintro e w8 ⟨rfl, hw8⟩; replace hw8 := hw8.symm; subst hw8)
                go_round
                case rel => first | exact rnd_mk (k := j + 1) (by omega) (by go_num) | ((repeat apply Exists.intro); exact ⟨rnd_mk (k := j + 1) (by omega) (by go_num), rfl⟩)
                case measure => simp [intOf]; omega
            · have r1 : ((k : Int) == obj) = false := by simpa using e1
              rw [if_neg (fun h => e1 h.2.1)] at HE
              have LO := hid HE
              clear HE
              go_wp2_with (go_at_call 10; refine LO.out.mono ?_; rintro e w8 ⟨rfl, hw8⟩; replace hw8 := hw8.symm; subst hw8)
              go_round
              case rel => first | exact rnd_mk (k := j + 1) (by omega) (by go_num) | ((repeat apply Exists.intro); exact ⟨rnd_mk (k := j + 1) (by omega) (by go_num), rfl⟩)
              case measure => simp [intOf]; omega
          · obtain rfl : j = sk.n := by omega
            go_wp2_with fail
            go_round
            case rel => first | exact rnd_mk (k := k + 1) (by omega) (by go_num) | ((repeat apply Exists.intro); exact ⟨rnd_mk (k := k + 1) (by omega) (by go_num), rfl⟩)
            case measure => simp [intOf]; omega
      · obtain rfl : k = 2 := by omega
        go_wp2_with fail
        go_ret
        exact ⟨rfl, HW.out.2⟩
  all_goals
    clear fin
    have e := OKS.out
    simp only [*, Bool.false_and, Bool.true_and] at e
    subst e
    clear OKS
    go_wp2_with (first
      | (go_at_call 14; refine LEN.out.mono ?_; rintro e w6 ⟨rfl, hw6⟩; replace hw6 := hw6.symm; subst hw6)
      | (go_at_call 15; refine SIZ.out.mono ?_; rintro e w7 ⟨rfl, hw7⟩; replace hw7 := hw7.symm; subst hw7))
    go_loopw [16] (fun iv wx => Rnd 2 W iv wx) (fun iv _ => 2 - (intOf iv).toNat)
    case atStart => exact rnd_mk (k := 0) (by omega) rfl
    case round =>
      obtain ⟨k, hk, rfl, hwr⟩ := hrel
      replace hwr := hwr.symm
      subst hwr
      by_cases hlt : k < 2
      · obtain ⟨sk, fk, hsel, hck, hik⟩ : ∃ (sk : Sl) (fk : Nat → Int), ((k = 0 ∧ sk = sa ∧ fk = fa) ∨ (k = 1 ∧ sk = sb ∧ fk = fb)) ∧ W.cell? ⟨w5.heap.size, k, none⟩ = some (.slice sk.a sk.n sk.c) ∧ Ints w sk fk := by
          obtain rfl | rfl : k = 0 ∨ k = 1 := by omega
          · exact ⟨sa, fa, .inl ⟨rfl, rfl, rfl⟩, HC.out.1, HA.out.1⟩
          · exact ⟨sb, fb, .inr ⟨rfl, rfl, rfl⟩, HC.out.2, HA.out.2⟩
        have hkn : sk.n ≤ 20 := by rcases hsel with ⟨_, rfl, _⟩ | ⟨_, rfl, _⟩ <;> omega
        have hix := index_row (s := ⟨some ⟨w5.heap.size, 0, none⟩, 2, 2⟩) rfl underlying27 size30 (k := k) hlt
        simp only [Nat.zero_add, Nat.mul_one] at hix
        have HS := hid (And.intro hsel hik)
        have r0 : decide ((k : Int) < 2) = true := by simp; omega
        clear hsel hik
        go_wp2_with fail
        go_loopw [17] (fun iv wx => Rnd sk.n W iv wx) (fun iv _ => sk.n - (intOf iv).toNat)
        case atStart => exact rnd_mk (k := 0) (by omega) rfl
        case round =>
          obtain ⟨j, hj, rfl, hwr⟩ := hrel
          replace hwr := hwr.symm
          subst hwr
          by_cases hjl : j < sk.n
          · obtain ⟨b1, o1, hiy, hcj⟩ := int_at (HS.out.2.on HW.out.2) hjl
            have LO := hid (LOA.out k j sk fk HS.out.1 hjl)
            have HE := LO.out
            by_cases e1 : (k : Int) = obj
            · subst e1
              by_cases e2 : (j : Int) = off
              · subst e2
                rw [if_neg (fun h => Bool.noConfusion h.1)] at HE
                have LO := hid HE
                clear HE
                go_wp2_with (go_at_call 10; refine LO.out.mono ?_; rintro e w8 ⟨rfl, hw8⟩; replace hw8 := hw8.symm; subst hw8)
                go_round
                case rel => first | exact rnd_mk (k := j + 1) (by omega) (by go_num) | ((repeat apply Exists.intro); exact ⟨rnd_mk (k := j + 1) (by omega) (by go_num), rfl⟩)
                case measure => simp [intOf]; omega
              · have r2 : ((j : Int) == off) = false := by simpa using e2
                rw [if_neg (fun h => e2 h.2.2)] at HE
                have LO := hid HE
                clear HE
                go_wp2_with (go_at_call 10; refine LO.out.mono ?_; rintro e w8 ⟨rfl, hw8⟩; replace hw8 := hw8.symm; subst hw8)
                go_round
                case rel => first | exact rnd_mk (k := j + 1) (by omega) (by go_num) | ((repeat apply Exists.intro); exact ⟨rnd_mk (k := j + 1) (by omega) (by go_num), rfl⟩)
                case measure => simp [intOf]; omega
            · have r1 : ((k : Int) == obj) = false := by simpa using e1
              rw [if_neg (fun h => e1 h.2.1)] at HE
              have LO := hid HE
              clear HE
              go_wp2_with (go_at_call 10; refine LO.out.mono ?_; rintro e w8 ⟨rfl, hw8⟩; replace hw8 := hw8.symm; subst hw8)
              go_round
              case rel => first | exact rnd_mk (k := j + 1) (by omega) (by go_num) | ((repeat apply Exists.intro); exact ⟨rnd_mk (k := j + 1) (by omega) (by go_num), rfl⟩)
              case measure => simp [intOf]; omega
          · obtain rfl : j = sk.n := by omega
            go_wp2_with fail
            go_round
            case rel => first | exact rnd_mk (k := k + 1) (by omega) (by go_num) | ((repeat apply Exists.intro); exact ⟨rnd_mk (k := k + 1) (by omega) (by go_num), rfl⟩)
            case measure => simp [intOf]; omega
      · obtain rfl : k = 2 := by omega
        go_wp2_with fail
        go_ret
        exact ⟨rfl, HW.out.2⟩

set_option maxRecDepth 10000 in
set_option maxHeartbeats 1000000 in
theorem last_any (sa sb : Sl) (fa fb : Nat → Int) (obj off v : Int) (w : World) (ha : Ints w sa fa) (hb : Ints w sb fb) :
    Calls Try.prog 4 #[.slice sa.a sa.n sa.c, .slice sb.a sb.n sb.c, .int .i64 obj, .int .i64 off, .int .i64 v] w fun e w' => e = .returned (.bool true) ∧ Below w.heap.size w w' := by
  by_cases h : sa.n ≤ 20 ∧ sb.n ≤ 20
  · exact last_small sa sb fa fb obj off v w ha hb h.1 h.2
  · by_cases h1 : sa.n ≤ 20
    · have t1 : decide ((20 : Int) < (sa.n : Int)) = false := by simp; omega
      have t2 : decide ((20 : Int) < (sb.n : Int)) = true := by simp; omega
      clear ha hb h
      go_enter Try.func4, Try.ntmps4
      go_wp2_with (first
        | (go_at_call 6; refine (first_any _).mono ?_; rintro e w1 ⟨rfl, hb⟩; have st2 := st1; have st3 := hid hb; clear hb)
        | (go_at_call 6; refine (first_any _).mono ?_; rintro e w1 ⟨rfl, hb⟩; have st1 := hid hb; clear hb))
      go_ret
      exact ⟨rfl, more st1.out st3.out⟩
    · have t1 : decide ((20 : Int) < (sa.n : Int)) = true := by simp; omega
      clear ha hb h
      go_enter Try.func4, Try.ntmps4
      go_wp2_with (first
        | (go_at_call 6; refine (first_any _).mono ?_; rintro e w1 ⟨rfl, hb⟩; have st2 := st1; have st3 := hid hb; clear hb)
        | (go_at_call 6; refine (first_any _).mono ?_; rintro e w1 ⟨rfl, hb⟩; have st1 := hid hb; clear hb))
      go_ret
      exact ⟨rfl, more st1.out st3.out⟩

end Go.Proofs.Ytckkbamelkkblaa.Ob
