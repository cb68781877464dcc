/-
  Names, by the document: plnref3.Name.
-/
import Derived.Test.YtclioagemjpnoaaChkL
namespace Go.Proofs.Ytclioagemjpnoaa.Chk
open Go.RowKit View Rd Num Opn Copy Go.Proofs.Ytclioagemjpnoaa.Mod

set_option linter.unusedVariables false

def byteAt (s : ByteArray) (i : Nat) : Int := if h : i < s.size then ((s[i]'h).toNat : Int) else 0

def chOk (c : Int) : Bool := (decide (97 ≤ c) && decide (c ≤ 122)) || (decide (48 ≤ c) && decide (c ≤ 57)) || decide (c = 95)

def NameOk (s : ByteArray) : Prop := 1 ≤ s.size ∧ s.size ≤ 12 ∧ 97 ≤ byteAt s 0 ∧ byteAt s 0 ≤ 122 ∧ ∀ i, i < s.size → chOk (byteAt s i) = true

theorem index_str (s : ByteArray) {i : Nat} (hi : i < s.size) : ∀ wx, (Instr.index 9 (.string s) (.int .i64 i)).run Try.prog wx = .ok (.int .u8 (byteAt s i)) wx := by
  intro wx
  rw [run_index_string wx 9 s .i64 i (by kernel_rfl), dif_pos ⟨by omega, by omega⟩]
  unfold byteAt
  rw [dif_pos hi]
  simp

def NameIs (s : ByteArray) (w : World) (e : Ending) (w' : World) : Prop := ∃ r : Bool, e = .returned (.bool r) ∧ (r = true ↔ NameOk s) ∧ w' = w

set_option maxRecDepth 10000 in
set_option maxHeartbeats 4000000 in
theorem name_any (s : ByteArray) (w : World) (hs : s.size ≤ 40) : Calls Try.prog 117 #[.string s] w fun e w' => NameIs s w e w' := by
  have HNO := hid (show ¬ NameOk s → NameIs s w (.returned (.bool false)) w from fun h => ⟨false, rfl, by simp [h], rfl⟩)
  by_cases h1 : (s.size : Int) < 1
  · have t1 : decide ((s.size : Int) < 1) = true := by simpa using h1
    have HN := hid (show ¬ NameOk s from fun h => by have := h.1; omega)
    clear h1
    go_enter Try.func117, Try.ntmps117
    go_wp2_with fail
    go_ret
    exact HNO.out HN.out
  have t1 : decide ((s.size : Int) < 1) = false := by simpa using h1
  by_cases h2 : (12 : Int) < s.size
  · have t2 : decide ((12 : Int) < s.size) = true := by simpa using h2
    have HN := hid (show ¬ NameOk s from fun h => by have := h.2.1; omega)
    clear h1 h2
    go_enter Try.func117, Try.ntmps117
    go_wp2_with fail
    go_ret
    exact HNO.out HN.out
  have t2 : decide ((12 : Int) < s.size) = false := by simpa using h2
  have l0 : 0 < s.size := by omega
  obtain ⟨c0, hc0⟩ : ∃ c0 : Int, ((s[0]'l0).toNat : Int) = c0 := ⟨_, rfl⟩
  have HB0 := hid (show byteAt s 0 = c0 by unfold byteAt; rw [dif_pos l0]; exact hc0)
  by_cases h3 : c0 < 97
  · have t3 : decide (c0 < 97) = true := by simpa using h3
    have HN := hid (show ¬ NameOk s from fun h => by have := h.2.2.1; rw [HB0.out] at this; omega)
    clear h1 h2 h3
    go_enter Try.func117, Try.ntmps117
    go_wp2_with fail
    go_ret
    exact HNO.out HN.out
  have t3 : decide (c0 < 97) = false := by simpa using h3
  by_cases h4 : 122 < c0
  · have t4 : decide (122 < c0) = true := by simpa using h4
    have HN := hid (show ¬ NameOk s from fun h => by have := h.2.2.2.1; rw [HB0.out] at this; omega)
    clear h1 h2 h3 h4
    go_enter Try.func117, Try.ntmps117
    go_wp2_with fail
    go_ret
    exact HNO.out HN.out
  have t4 : decide (122 < c0) = false := by simpa using h4
  have HH := hid (show 1 ≤ s.size ∧ s.size ≤ 12 ∧ 97 ≤ byteAt s 0 ∧ byteAt s 0 ≤ 122 by rw [HB0.out]; omega)
  clear h1 h2 h3 h4
  go_enter Try.func117, Try.ntmps117
  go_wp2_with fail
  clear t1 t2 t3 t4 hc0
  go_loop [3] (fun iv => ∃ k : Nat, k ≤ s.size ∧ iv = .int .i64 k ∧ ∀ i, i < k → chOk (byteAt s i) = true) (fun iv => s.size - (intOf iv).toNat)
  case atStart => exact ⟨0, Nat.zero_le _, rfl, fun i hi => by omega⟩
  case round =>
    obtain ⟨k, hk, rfl, hall⟩ := hrel
    have HA := hid hall
    clear hall
    by_cases lk : k < s.size
    · obtain ⟨c, hc⟩ : ∃ c : Int, ((s[k]'lk).toNat : Int) = c := ⟨_, rfl⟩
      have HC := hid (show byteAt s k = c by unfold byteAt; rw [dif_pos lk]; exact hc)
      cases hok : chOk c with
      | true =>
        have HO := hid (show chOk (byteAt s k) = true by rw [HC.out]; exact hok)
        go_wp2
        all_goals first
          | (go_round; (case rel => exact ⟨k + 1, by omega, by go_num, upto2 HA.out HO.out⟩); (case measure => simp [intOf]; omega))
          | (exfalso; clear HA HO HC HH HNO; go_light; simp_all [chOk] <;> omega)
      | false =>
        have HN := hid (show ¬ NameOk s from fun h => by have := h.2.2.2.2 k lk; rw [HC.out, hok] at this; cases this)
        go_wp2
        all_goals first
          | (go_ret; exact HNO.out HN.out)
          | (exfalso; clear HA HN HC HH HNO; go_light; simp_all [chOk] <;> omega)
    · obtain rfl : k = s.size := by omega
      go_wp2
      go_ret
      exact (⟨true, rfl, by simp; exact ⟨HH.out.1, HH.out.2.1, HH.out.2.2.1, HH.out.2.2.2, HA.out⟩, rfl⟩ : NameIs s w (.returned (.bool true)) w)

end Go.Proofs.Ytclioagemjpnoaa.Chk
