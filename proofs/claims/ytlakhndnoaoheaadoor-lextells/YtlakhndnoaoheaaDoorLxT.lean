/-
  The document's own Num, walked.
-/
import Derived.Test.YtlakhndnoaoheaaDoorLxS2
namespace Go.Proofs.YtlakhndnoaoheaaDoor.Lx
open Go.RowKit

set_option linter.unusedVariables false

def Sg (l : List UInt8) (neg : Bool) : Prop := neg = true ↔ l.head? = some 45

set_option maxHeartbeats 4000000 in
theorem rnum_neg (s : ByteArray) (w : World) (hs : s.size ≤ 1000) (h0 : 0 < s.size) (h45 : byteAt s 0 = 45) :
    Calls Tryd.prog 9 #[.string s] w fun e w' => NumIs s w e w' := by
  obtain ⟨c0, hc0, hb0⟩ := head_list s h0
  have hneg : (true : Bool) = true ↔ s.data.toList.head? = some 45 := by
    rw [hc0]
    have e : (45 : UInt8).toNat = 45 := rfl
    constructor
    · intro h
      simp; apply UInt8.toNat_inj.1; omega
    · intro h
      rfl
  have HNEG := hid (show Sg s.data.toList true from hneg)
  have NO := hid (show (∀ v, ¬ IsShow s.data.toList v) → ∀ w', Below w.heap.size w w' → NumIs s w (.returned (.tuple #[.int .i64 0, .bool false])) w' from fun h w' hb => ⟨by rw [numV_no h], hb⟩)
  have e45 : (byteAt s 0 == 45) = true := by simpa using h45
  have t0 : decide ((0 : Int) < (s.size : Int)) = true := by simpa using h0
  have t0' : decide (0 < s.size) = true := by simpa using h0
  have hx : ∀ wx, (Instr.index 9 (.string s) (.int .i64 0)).run Tryd.prog wx = .ok (.int .u8 (byteAt s 0)) wx := index_str s h0
  have hsz := ba_size s
  have HSZ := hid hsz
  clear hneg hc0 hb0 hsz h45
  obtain ⟨L, hL⟩ : ∃ L, L = s.size - 1 := ⟨_, rfl⟩
  have eL : (s.size : Int) - 1 = (L : Int) := by omega
  have HLL := hid (show s.size = L + 1 by omega)
  clear hL
  by_cases hl0 : L = 0
  · have t1 : decide ((L : Int) < 1) = true := by simp; omega
    have t1' : decide (L < 1) = true := by simp; omega
    have HR := hid (NO.out (no_empty (neg := true) HNEG.out (by
      have := HLL.out
      rw [HSZ.out] at this
      exact List.drop_eq_nil_of_le (by simp only [sgA]; simp; omega))))
    clear hl0
    go_enter Tryd.func9, Tryd.ntmps9
    go_wp2_with fail
    go_quiet (fail)
    go_wp2_with fail
    go_ret2
    exact HR.out _ (below_drewN (Below.refl _ _) _)
  have t1 : decide ((L : Int) < 1) = false := decide_eq_false (by omega)
  have t1' : decide (L < 1) = false := decide_eq_false (by omega)
  have hdl : (s.data.toList.drop (sgA true)).length = L := by
    have := HLL.out
    rw [List.length_drop, ← HSZ.out]
    simp only [sgA]; simp; try omega
  have HDL := hid hdl
  clear hdl
  by_cases h19 : 19 < L
  · have t2 : decide ((19 : Int) < (L : Int)) = true := by simp; omega
    have t2' : decide (19 < L) = true := by simpa using h19
    have HR := hid (NO.out (no_long (neg := true) HNEG.out (by rw [HDL.out]; exact h19)))
    clear h19
    go_enter Tryd.func9, Tryd.ntmps9
    go_wp2_with fail
    go_quiet (fail)
    go_wp2_with fail
    go_ret2
    exact HR.out _ (below_drewN (Below.refl _ _) _)
  have t2 : decide ((19 : Int) < (L : Int)) = false := by simp; omega
  have t2' : decide (19 < L) = false := by simpa using h19
  have hA : 1 < s.size := by have := HLL.out; omega
  obtain ⟨c, hc, hcb⟩ := byte_list s hA
  have hdr : s.data.toList.drop (sgA true) = c :: s.data.toList.drop (1 + 1) := by
    have hlt : 1 < s.data.toList.length := by rw [← HSZ.out]; exact hA
    rw [show sgA true = 1 from rfl, List.drop_eq_getElem_cons hlt]
    rw [List.getElem?_eq_getElem hlt] at hc
    rw [Option.some.inj hc]
  have HDR := hid hdr
  have HCB := hid hcb
  have hx1 : ∀ wx, (Instr.index 9 (.string s) (.int .i64 1)).run Tryd.prog wx = .ok (.int .u8 (byteAt s 1)) wx := index_str s hA
  clear hc hcb hdr
  by_cases hz : byteAt s 1 = 48
  · have t3 : (byteAt s 1 == 48) = true := by simpa using hz
    have HR := hid (NO.out (no_zero (neg := true) HNEG.out HDR.out (by have := HCB.out; omega) (.inl rfl)))
    clear hz
    go_enter Tryd.func9, Tryd.ntmps9
    go_wp2_with fail
    go_quiet (fail)
    go_wp2_with fail
    go_ret2
    exact HR.out _ (below_drewN (Below.refl _ _) _)
  have t3 : (byteAt s 1 == 48) = false := by simpa using hz
  have H48 := hid (show c.toNat ≠ 48 ∨ (s.data.toList.drop (1 + 1) = [] ∧ (true : Bool) = false) from .inl (by have := HCB.out; omega))
  clear hz
  have hL19 : L ≤ 19 := by omega
  go_enter Tryd.func9, Tryd.ntmps9
  go_wp2_with fail
  go_quiet (fail)
  generalize hW : w.drewN nq = W
  have LOW := hid (show Below w.heap.size w W by rw [← hW]; exact below_drewN (Below.refl _ _) _)
  clear hW
  go_wp2_with fail
  go_loop [6, 7] (fun x y => ∃ (j : Nat) (a : Int), x = .int .u64 a ∧ y = .int .i64 j ∧ 1 ≤ j ∧ j ≤ s.size ∧ Hid (a = ((valA 0 ((s.data.toList.drop (sgA true)).take (j - 1)) : Nat) : Int) ∧ ∀ x ∈ (s.data.toList.drop (sgA true)).take (j - 1), isDig x) ∧ 0 ≤ a ∧ a ≤ 9999999999999999999) (fun x y => s.size - (intOf y).toNat)
  case atStart => exact ⟨1, 0, rfl, rfl, Nat.le_refl _, by omega, hid ⟨by simp [valA_nil], by simp⟩, by omega, by omega⟩
  case round =>
    obtain ⟨j, a, rfl, rfl, ja, js, HV, b0, b1⟩ := hrel
    have hjl : j - 1 ≤ L := by have := HLL.out; omega
    by_cases lj : j < s.size
    · obtain ⟨c1, hc1, hcb1⟩ := byte_list s lj
      have hxj := index_str s lj
      have hcj := at_str s lj
      have hget : (s.data.toList.drop (sgA true))[j - 1]? = some c1 := by
        rw [List.getElem?_drop, show sgA true + (j - 1) = j by simp only [sgA]; simp; try omega]
        exact hc1
      by_cases hd : 48 ≤ byteAt s j ∧ byteAt s j ≤ 57
      · obtain ⟨hd0, hd1⟩ := hd
        have hdig : isDig c1 := by unfold isDig; omega
        have h18 : a ≤ 999999999999999999 := by
          have := val_small (k := 18) HV.out.2 (by rw [List.length_take]; have := HLL.out; omega)
          have := HV.out.1
          omega
        have HN := hid (show a * 10 + (byteAt s j - 48) = ((valA 0 ((s.data.toList.drop (sgA true)).take (j + 1 - 1)) : Nat) : Int) ∧ ∀ x ∈ (s.data.toList.drop (sgA true)).take (j + 1 - 1), isDig x from by
          rw [show j + 1 - 1 = j - 1 + 1 by omega, take_step hget, valA_snoc]
          refine ⟨by have := HV.out.1; omega, fun x hx => ?_⟩
          rcases List.mem_append.1 hx with hx | hx
          · exact HV.out.2 x hx
          · rw [List.mem_singleton.1 hx]; exact hdig)
        have u1 : decide (byteAt s j < 48) = false := by simp; omega
        have u2 : decide (57 < byteAt s j) = false := by simp; omega
        clear hget hdig hc1 hcb1
        go_wp2_with fail
        go_round
        case rel => exact ⟨j + 1, _, rfl, by go_num, by omega, by omega, HN, by omega, by omega⟩
        case measure => simp [intOf]; omega
      · have HR := hid (NO.out (no_digit (neg := true) HNEG.out (x := c1) (List.mem_of_getElem? hget) (by unfold isDig; omega)))
        clear hget hc1 hcb1
        by_cases h48 : byteAt s j < 48
        · have u1 : decide (byteAt s j < 48) = true := by simpa using h48
          clear hd
          go_wp2_with fail
          go_ret2
          exact HR.out _ LOW.out
        · have u1 : decide (byteAt s j < 48) = false := by simpa using h48
          have u2 : decide (57 < byteAt s j) = true := by simp; omega
          clear hd
          go_wp2_with fail
          go_ret2
          exact HR.out _ LOW.out
    · obtain rfl : j = s.size := by omega
      have htk : (s.data.toList.drop (sgA true)).take (s.size - 1) = s.data.toList.drop (sgA true) := List.take_of_length_le (by rw [HDL.out]; have := HLL.out; omega)
      have HV2 := hid (show a = ((valA 0 (s.data.toList.drop (sgA true)) : Nat) : Int) ∧ ∀ x ∈ s.data.toList.drop (sgA true), isDig x by rw [← htk]; exact HV.out)
      clear htk HV
      by_cases hg : (9223372036854775808 : Int) < a
      · have u1 : decide ((9223372036854775808 : Int) < a) = true := by simpa using hg
        have HR := hid (NO.out (no_great (neg := true) HNEG.out (by have := HV2.out.1; simp only [sgB] at *; simp; omega)))
        clear hg
        go_wp2_with fail
        go_ret2
        exact HR.out _ LOW.out
      · have u1 : decide ((9223372036854775808 : Int) < a) = false := by simpa using hg
        have HY := hid (show numV s.data.toList = (sgn true (valA 0 (s.data.toList.drop (sgA true))), true) from numV_yes (by
          rw [HDR.out]
          refine show_yes (neg := true) ?_ (by rw [← HDR.out]; exact HV2.out.2) H48.out (by rw [← HDR.out]; have := HV2.out.1; simp only [sgB]; simp; omega)
          obtain ⟨c2, hc2, hcb2⟩ := head_list s h0
          have e45' := Iff.mp HNEG.out rfl
          rw [hc2] at e45' ⊢
          simp at e45'
          subst e45'
          have := HDR.out
          rw [hc2] at this
          rw [← this]
          rfl))
        have ha1 : 1 ≤ a := by
          have h1 := (val_dec _ c _ rfl (by rw [← HDR.out]; exact HV2.out.2) (H48.out.imp id fun h => h.1)).2 (H48.out.resolve_right fun h => by cases h.2)
          rw [← HDR.out] at h1
          have := HV2.out.1
          omega
        have hg2 : a ≤ 9223372036854775808 := by omega
        clear hg
        go_wp2_with fail
        go_ret2
        exact ⟨by rw [HY.out]; exact congrArg (fun z => Ending.returned (Value.tuple #[.int .i64 z, .bool true])) (by have := HV2.out.1; simp only [sgn]; simp; try omega), LOW.out⟩

set_option maxHeartbeats 4000000 in
theorem rnum_pos (s : ByteArray) (w : World) (hs : s.size ≤ 1000) (h0 : 0 < s.size) (h45 : byteAt s 0 ≠ 45) :
    Calls Tryd.prog 9 #[.string s] w fun e w' => NumIs s w e w' := by
  obtain ⟨c0, hc0, hb0⟩ := head_list s h0
  have hneg : (false : Bool) = true ↔ s.data.toList.head? = some 45 := by
    rw [hc0]
    have e : (45 : UInt8).toNat = 45 := rfl
    constructor
    · intro h
      cases h
    · intro h
      simp at h
      subst h
      exact absurd (by omega) h45
  have HNEG := hid (show Sg s.data.toList false from hneg)
  have NO := hid (show (∀ v, ¬ IsShow s.data.toList v) → ∀ w', Below w.heap.size w w' → NumIs s w (.returned (.tuple #[.int .i64 0, .bool false])) w' from fun h w' hb => ⟨by rw [numV_no h], hb⟩)
  have e45 : (byteAt s 0 == 45) = false := by simpa using h45
  have t0 : decide ((0 : Int) < (s.size : Int)) = true := by simpa using h0
  have t0' : decide (0 < s.size) = true := by simpa using h0
  have hx : ∀ wx, (Instr.index 9 (.string s) (.int .i64 0)).run Tryd.prog wx = .ok (.int .u8 (byteAt s 0)) wx := index_str s h0
  have hsz := ba_size s
  have HSZ := hid hsz
  clear hneg hc0 hb0 hsz h45
  have HLL := hid (show s.size = s.size + 0 from rfl)
  have t1 : decide ((s.size : Int) < 1) = false := decide_eq_false (by omega)
  have t1' : decide (s.size < 1) = false := decide_eq_false (by omega)
  have hdl : (s.data.toList.drop (sgA false)).length = s.size := by
    have := HLL.out
    rw [List.length_drop, ← HSZ.out]
    simp only [sgA]; simp; try omega
  have HDL := hid hdl
  clear hdl
  by_cases h19 : 19 < s.size
  · have t2 : decide ((19 : Int) < (s.size : Int)) = true := by simp; omega
    have t2' : decide (19 < s.size) = true := by simpa using h19
    have HR := hid (NO.out (no_long (neg := false) HNEG.out (by rw [HDL.out]; exact h19)))
    clear h19
    go_enter Tryd.func9, Tryd.ntmps9
    go_wp2_with fail
    go_quiet (fail)
    go_wp2_with fail
    go_ret2
    exact HR.out _ (below_drewN (Below.refl _ _) _)
  have t2 : decide ((19 : Int) < (s.size : Int)) = false := by simp; omega
  have t2' : decide (19 < s.size) = false := by simpa using h19
  have hA : 0 < s.size := by have := HLL.out; omega
  obtain ⟨c, hc, hcb⟩ := byte_list s hA
  have hdr : s.data.toList.drop (sgA false) = c :: s.data.toList.drop (0 + 1) := by
    have hlt : 0 < s.data.toList.length := by rw [← HSZ.out]; exact hA
    rw [show sgA false = 0 from rfl, List.drop_eq_getElem_cons hlt]
    rw [List.getElem?_eq_getElem hlt] at hc
    rw [Option.some.inj hc]
  have HDR := hid hdr
  have HCB := hid hcb
  have hx1 : ∀ wx, (Instr.index 9 (.string s) (.int .i64 0)).run Tryd.prog wx = .ok (.int .u8 (byteAt s 0)) wx := index_str s hA
  clear hc hcb hdr
  by_cases hz : byteAt s 0 = 48 ∧ 1 < s.size
  · obtain ⟨hz, h1⟩ := hz
    have t3 : (byteAt s 0 == 48) = true := by simpa using hz
    have t4 : decide ((1 : Int) < (s.size : Int)) = true := by simp; omega
    have t4' : decide (1 < s.size) = true := by simpa using h1
    have HR := hid (NO.out (no_zero (neg := false) HNEG.out HDR.out (by have := HCB.out; omega) (.inr (fun e => by
      have := congrArg List.length e
      rw [List.length_drop, ← HSZ.out] at this
      simp at this
      omega))))
    clear hz
    go_enter Tryd.func9, Tryd.ntmps9
    go_wp2_with fail
    go_quiet (fail)
    go_wp2_with fail
    go_ret2
    exact HR.out _ (below_drewN (Below.refl _ _) _)
  have H48 := hid (show c.toNat ≠ 48 ∨ (s.data.toList.drop (0 + 1) = [] ∧ (false : Bool) = false) from by
    by_cases h : byteAt s 0 = 48
    · exact .inr ⟨List.drop_eq_nil_of_le (by rw [← HSZ.out]; have : ¬ 1 < s.size := fun h1 => hz ⟨h, h1⟩; omega), rfl⟩
    · exact .inl (by have := HCB.out; omega))
  by_cases hz0 : byteAt s 0 = 48
  · have t3 : (byteAt s 0 == 48) = true := by simpa using hz0
    have t4 : decide ((1 : Int) < (s.size : Int)) = false := by simp; omega
    have t4' : decide (1 < s.size) = false := by simp; omega
    clear hz hz0
    have hL19 : s.size ≤ 19 := by omega
    go_enter Tryd.func9, Tryd.ntmps9
    go_wp2_with fail
    go_quiet (fail)
    generalize hW : w.drewN nq = W
    have LOW := hid (show Below w.heap.size w W by rw [← hW]; exact below_drewN (Below.refl _ _) _)
    clear hW
    go_wp2_with fail
    go_loop [6, 7] (fun x y => ∃ (j : Nat) (a : Int), x = .int .u64 a ∧ y = .int .i64 j ∧ 0 ≤ j ∧ j ≤ s.size ∧ Hid (a = ((valA 0 ((s.data.toList.drop (sgA false)).take (j - 0)) : Nat) : Int) ∧ ∀ x ∈ (s.data.toList.drop (sgA false)).take (j - 0), isDig x) ∧ 0 ≤ a ∧ a ≤ 9999999999999999999) (fun x y => s.size - (intOf y).toNat)
    case atStart => exact ⟨0, 0, rfl, rfl, Nat.le_refl _, by omega, hid ⟨by simp [valA_nil], by simp⟩, by omega, by omega⟩
    case round =>
      obtain ⟨j, a, rfl, rfl, ja, js, HV, b0, b1⟩ := hrel
      have hjl : j - 0 ≤ s.size := by have := HLL.out; omega
      by_cases lj : j < s.size
      · obtain ⟨c1, hc1, hcb1⟩ := byte_list s lj
        have hxj := index_str s lj
        have hcj := at_str s lj
        have hget : (s.data.toList.drop (sgA false))[j - 0]? = some c1 := by
          rw [List.getElem?_drop, show sgA false + (j - 0) = j by simp only [sgA]; simp; try omega]
          exact hc1
        by_cases hd : 48 ≤ byteAt s j ∧ byteAt s j ≤ 57
        · obtain ⟨hd0, hd1⟩ := hd
          have hdig : isDig c1 := by unfold isDig; omega
          have h18 : a ≤ 999999999999999999 := by
            have := val_small (k := 18) HV.out.2 (by rw [List.length_take]; have := HLL.out; omega)
            have := HV.out.1
            omega
          have HN := hid (show a * 10 + (byteAt s j - 48) = ((valA 0 ((s.data.toList.drop (sgA false)).take (j + 1 - 0)) : Nat) : Int) ∧ ∀ x ∈ (s.data.toList.drop (sgA false)).take (j + 1 - 0), isDig x from by
            rw [show j + 1 - 0 = j - 0 + 1 by omega, take_step hget, valA_snoc]
            refine ⟨by have := HV.out.1; omega, fun x hx => ?_⟩
            rcases List.mem_append.1 hx with hx | hx
            · exact HV.out.2 x hx
            · rw [List.mem_singleton.1 hx]; exact hdig)
          have u1 : decide (byteAt s j < 48) = false := by simp; omega
          have u2 : decide (57 < byteAt s j) = false := by simp; omega
          clear hget hdig hc1 hcb1
          go_wp2_with fail
          go_round
          case rel => exact ⟨j + 1, _, rfl, by go_num, by omega, by omega, HN, by omega, by omega⟩
          case measure => simp [intOf]; omega
        · have HR := hid (NO.out (no_digit (neg := false) HNEG.out (x := c1) (List.mem_of_getElem? hget) (by unfold isDig; omega)))
          clear hget hc1 hcb1
          by_cases h48 : byteAt s j < 48
          · have u1 : decide (byteAt s j < 48) = true := by simpa using h48
            clear hd
            go_wp2_with fail
            go_ret2
            exact HR.out _ LOW.out
          · have u1 : decide (byteAt s j < 48) = false := by simpa using h48
            have u2 : decide (57 < byteAt s j) = true := by simp; omega
            clear hd
            go_wp2_with fail
            go_ret2
            exact HR.out _ LOW.out
      · obtain rfl : j = s.size := by omega
        have htk : (s.data.toList.drop (sgA false)).take (s.size - 0) = s.data.toList.drop (sgA false) := List.take_of_length_le (by rw [HDL.out]; have := HLL.out; omega)
        have HV2 := hid (show a = ((valA 0 (s.data.toList.drop (sgA false)) : Nat) : Int) ∧ ∀ x ∈ s.data.toList.drop (sgA false), isDig x by rw [← htk]; exact HV.out)
        clear htk HV
        by_cases hg : (9223372036854775807 : Int) < a
        · have u1 : decide ((9223372036854775807 : Int) < a) = true := by simpa using hg
          have HR := hid (NO.out (no_great (neg := false) HNEG.out (by have := HV2.out.1; simp only [sgB] at *; simp; omega)))
          clear hg
          go_wp2_with fail
          go_ret2
          exact HR.out _ LOW.out
        · have u1 : decide ((9223372036854775807 : Int) < a) = false := by simpa using hg
          have HY := hid (show numV s.data.toList = (sgn false (valA 0 (s.data.toList.drop (sgA false))), true) from numV_yes (by
            rw [HDR.out]
            refine show_yes (neg := false) ?_ (by rw [← HDR.out]; exact HV2.out.2) (H48.out.imp id fun h => ⟨h.1, rfl⟩) (by rw [← HDR.out]; have := HV2.out.1; simp only [sgB]; simp; omega)
            rw [← HDR.out]; rfl))
          have hg2 : a ≤ 9223372036854775807 := by omega
          clear hg
          go_wp2_with fail
          go_ret2
          exact ⟨by rw [HY.out]; exact congrArg (fun z => Ending.returned (Value.tuple #[.int .i64 z, .bool true])) (by have := HV2.out.1; simp only [sgn]; simp; try omega), LOW.out⟩
  · have t3 : (byteAt s 0 == 48) = false := by simpa using hz0
    clear hz hz0
    have hL19 : s.size ≤ 19 := by omega
    go_enter Tryd.func9, Tryd.ntmps9
    go_wp2_with fail
    go_quiet (fail)
    generalize hW : w.drewN nq = W
    have LOW := hid (show Below w.heap.size w W by rw [← hW]; exact below_drewN (Below.refl _ _) _)
    clear hW
    go_wp2_with fail
    go_loop [6, 7] (fun x y => ∃ (j : Nat) (a : Int), x = .int .u64 a ∧ y = .int .i64 j ∧ 0 ≤ j ∧ j ≤ s.size ∧ Hid (a = ((valA 0 ((s.data.toList.drop (sgA false)).take (j - 0)) : Nat) : Int) ∧ ∀ x ∈ (s.data.toList.drop (sgA false)).take (j - 0), isDig x) ∧ 0 ≤ a ∧ a ≤ 9999999999999999999) (fun x y => s.size - (intOf y).toNat)
    case atStart => exact ⟨0, 0, rfl, rfl, Nat.le_refl _, by omega, hid ⟨by simp [valA_nil], by simp⟩, by omega, by omega⟩
    case round =>
      obtain ⟨j, a, rfl, rfl, ja, js, HV, b0, b1⟩ := hrel
      have hjl : j - 0 ≤ s.size := by have := HLL.out; omega
      by_cases lj : j < s.size
      · obtain ⟨c1, hc1, hcb1⟩ := byte_list s lj
        have hxj := index_str s lj
        have hcj := at_str s lj
        have hget : (s.data.toList.drop (sgA false))[j - 0]? = some c1 := by
          rw [List.getElem?_drop, show sgA false + (j - 0) = j by simp only [sgA]; simp; try omega]
          exact hc1
        by_cases hd : 48 ≤ byteAt s j ∧ byteAt s j ≤ 57
        · obtain ⟨hd0, hd1⟩ := hd
          have hdig : isDig c1 := by unfold isDig; omega
          have h18 : a ≤ 999999999999999999 := by
            have := val_small (k := 18) HV.out.2 (by rw [List.length_take]; have := HLL.out; omega)
            have := HV.out.1
            omega
          have HN := hid (show a * 10 + (byteAt s j - 48) = ((valA 0 ((s.data.toList.drop (sgA false)).take (j + 1 - 0)) : Nat) : Int) ∧ ∀ x ∈ (s.data.toList.drop (sgA false)).take (j + 1 - 0), isDig x from by
            rw [show j + 1 - 0 = j - 0 + 1 by omega, take_step hget, valA_snoc]
            refine ⟨by have := HV.out.1; omega, fun x hx => ?_⟩
            rcases List.mem_append.1 hx with hx | hx
            · exact HV.out.2 x hx
            · rw [List.mem_singleton.1 hx]; exact hdig)
          have u1 : decide (byteAt s j < 48) = false := by simp; omega
          have u2 : decide (57 < byteAt s j) = false := by simp; omega
          clear hget hdig hc1 hcb1
          go_wp2_with fail
          go_round
          case rel => exact ⟨j + 1, _, rfl, by go_num, by omega, by omega, HN, by omega, by omega⟩
          case measure => simp [intOf]; omega
        · have HR := hid (NO.out (no_digit (neg := false) HNEG.out (x := c1) (List.mem_of_getElem? hget) (by unfold isDig; omega)))
          clear hget hc1 hcb1
          by_cases h48 : byteAt s j < 48
          · have u1 : decide (byteAt s j < 48) = true := by simpa using h48
            clear hd
            go_wp2_with fail
            go_ret2
            exact HR.out _ LOW.out
          · have u1 : decide (byteAt s j < 48) = false := by simpa using h48
            have u2 : decide (57 < byteAt s j) = true := by simp; omega
            clear hd
            go_wp2_with fail
            go_ret2
            exact HR.out _ LOW.out
      · obtain rfl : j = s.size := by omega
        have htk : (s.data.toList.drop (sgA false)).take (s.size - 0) = s.data.toList.drop (sgA false) := List.take_of_length_le (by rw [HDL.out]; have := HLL.out; omega)
        have HV2 := hid (show a = ((valA 0 (s.data.toList.drop (sgA false)) : Nat) : Int) ∧ ∀ x ∈ s.data.toList.drop (sgA false), isDig x by rw [← htk]; exact HV.out)
        clear htk HV
        by_cases hg : (9223372036854775807 : Int) < a
        · have u1 : decide ((9223372036854775807 : Int) < a) = true := by simpa using hg
          have HR := hid (NO.out (no_great (neg := false) HNEG.out (by have := HV2.out.1; simp only [sgB] at *; simp; omega)))
          clear hg
          go_wp2_with fail
          go_ret2
          exact HR.out _ LOW.out
        · have u1 : decide ((9223372036854775807 : Int) < a) = false := by simpa using hg
          have HY := hid (show numV s.data.toList = (sgn false (valA 0 (s.data.toList.drop (sgA false))), true) from numV_yes (by
            rw [HDR.out]
            refine show_yes (neg := false) ?_ (by rw [← HDR.out]; exact HV2.out.2) (H48.out.imp id fun h => ⟨h.1, rfl⟩) (by rw [← HDR.out]; have := HV2.out.1; simp only [sgB]; simp; omega)
            rw [← HDR.out]; rfl))
          have hg2 : a ≤ 9223372036854775807 := by omega
          clear hg
          go_wp2_with fail
          go_ret2
          exact ⟨by rw [HY.out]; exact congrArg (fun z => Ending.returned (Value.tuple #[.int .i64 z, .bool true])) (by have := HV2.out.1; simp only [sgn]; simp; try omega), LOW.out⟩

end Go.Proofs.YtlakhndnoaoheaaDoor.Lx
