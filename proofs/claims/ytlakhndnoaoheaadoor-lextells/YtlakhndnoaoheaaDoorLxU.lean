/-
  The document's own Num and Ref, whole.
-/
import Derived.Test.YtlakhndnoaoheaaDoorLxT
namespace Go.Proofs.YtlakhndnoaoheaaDoor.Lx
open Go.RowKit

set_option linter.unusedVariables false

theorem rnum_any (s : ByteArray) (w : World) (hs : s.size ≤ 1000) : Calls Tryd.prog 9 #[.string s] w fun e w' => NumIs s w e w' := by
  by_cases h0 : 0 < s.size
  · by_cases h45 : byteAt s 0 = 45
    · exact rnum_neg s w hs h0 h45
    · exact rnum_pos s w hs h0 h45
  · have hz : s.size = 0 := by omega
    have HR := hid (show numV s.data.toList = (0, false) by rw [nil_list s hz]; rfl)
    have t0 : decide ((0 : Int) < (s.size : Int)) = false := decide_eq_false (by omega)
    have t0' : decide (0 < s.size) = false := decide_eq_false (by omega)
    have t1 : decide ((s.size : Int) < 1) = true := decide_eq_true (by omega)
    have t1' : decide (s.size < 1) = true := decide_eq_true (by omega)
    clear h0
    go_enter Tryd.func9, Tryd.ntmps9
    go_wp2_with fail
    go_quiet (fail)
    go_wp2_with fail
    go_ret2
    exact ⟨by rw [HR.out]; rfl, below_drewN (Below.refl _ _) _⟩

theorem tail_len (s : ByteArray) : s.data.toList.tail.length = s.size - 1 := by
  rw [List.length_tail, ← ba_size]

set_option maxHeartbeats 1000000 in
theorem rref_any (s : ByteArray) (mark : Int) (w : World) (hs : s.size ≤ 1000) : Calls Tryd.prog 11 #[.string s, .int .u8 mark] w fun e w' => RefIs s mark w e w' := by
  by_cases h2 : s.size < 2
  · have HR := hid (show refV s.data.toList mark = (0, false) by
      by_cases h0 : s.size = 0
      · rw [nil_list s h0]; rfl
      · have h0' : 0 < s.size := by omega
        have ht : s.data.toList.tail = [] := List.eq_nil_of_length_eq_zero (by rw [tail_len]; omega)
        by_cases hm : byteAt s 0 = mark
        · rw [refV_head h0' hm, ht, numV_nil, if_neg (by simp)]
        · exact refV_other h0' hm)
    have t1 : decide ((s.size : Int) < 2) = true := decide_eq_true (by omega)
    have t1' : decide (s.size < 2) = true := decide_eq_true (by omega)
    clear h2
    go_enter Tryd.func11, Tryd.ntmps11
    go_wp2_with fail
    go_ret2
    exact ⟨by rw [HR.out]; rfl, Below.refl _ _⟩
  have t1 : decide ((s.size : Int) < 2) = false := decide_eq_false (by omega)
  have t1' : decide (s.size < 2) = false := decide_eq_false (by omega)
  have h0' : 0 < s.size := by omega
  by_cases h5 : 5 < s.size
  · have HR := hid (show refV s.data.toList mark = (0, false) by
      by_cases hm : byteAt s 0 = mark
      · obtain ⟨c, hl, hc⟩ := head_list s h0'
        rw [refV_head h0' hm, if_neg (refV_long (c := c) (by rw [tail_len]; omega))]
      · exact refV_other h0' hm)
    have t2 : decide ((5 : Int) < (s.size : Int)) = true := decide_eq_true (by omega)
    have t2' : decide (5 < s.size) = true := decide_eq_true (by omega)
    clear h5 h2
    go_enter Tryd.func11, Tryd.ntmps11
    go_wp2_with fail
    go_ret2
    exact ⟨by rw [HR.out]; rfl, Below.refl _ _⟩
  have t2 : decide ((5 : Int) < (s.size : Int)) = false := decide_eq_false (by omega)
  have t2' : decide (5 < s.size) = false := decide_eq_false (by omega)
  have hx : ∀ wx, (Instr.index 9 (.string s) (.int .i64 0)).run Tryd.prog wx = .ok (.int .u8 (byteAt s 0)) wx := index_str s h0'
  have hcc := at_str s h0'
  by_cases hm : byteAt s 0 = mark
  · have HR := hid (refV_head h0' hm)
    have t3 : (byteAt s 0 != mark) = false := by simpa using hm
    obtain ⟨u, hu⟩ : ∃ u, s.extract 1 s.size = u := ⟨_, rfl⟩
    have hus : u.size ≤ 1000 := by rw [← hu, ByteArray.size_extract]; omega
    have HU := hid (show u.data.toList = s.data.toList.tail by rw [← hu]; exact tail_list s h0')
    have hsl : ∀ wx, (Instr.slice 9 (.string s) (some (.int .i64 1)) none none).run Tryd.prog wx = .ok (.string u) wx := fun wx => by
      rw [run_slice_string_l (ht := by kernel_rfl) (h0 := by omega) (h1 := by omega), ← hu]
      rfl
    clear hu
    rcases numV_cases s.data.toList.tail with ⟨v, hv, e⟩ | ⟨_, e⟩
    · have HV := hid e
      have hw := hv.1
      clear e hv
      by_cases hr : 0 ≤ v ∧ v ≤ 9999
      · obtain ⟨r1, r2⟩ := hr
        have t4 : decide (v < 0) = false := by simp; omega
        have t5 : decide (9999 < v) = false := by simp; omega
        have HF := hid (show refV s.data.toList mark = (v, true) by rw [HR.out, HV.out, if_pos ⟨rfl, r1, r2⟩])
        go_enter Tryd.func11, Tryd.ntmps11
        go_wp2_with (go_at_call 9; refine (rnum_any u _ hus).mono ?_; unfold NumIs; rw [HU.out, HV.out]; rintro e w1 ⟨rfl, hb⟩; have HB := hid hb; clear hb)
        go_ret2
        exact ⟨by rw [HF.out]; rfl, HB.out⟩
      · have HF := hid (show refV s.data.toList mark = (0, false) by rw [HR.out, HV.out, if_neg (fun h => hr ⟨h.2.1, h.2.2⟩)])
        by_cases r1 : v < 0
        · have t4 : decide (v < 0) = true := by simpa using r1
          go_enter Tryd.func11, Tryd.ntmps11
          go_wp2_with (go_at_call 9; refine (rnum_any u _ hus).mono ?_; unfold NumIs; rw [HU.out, HV.out]; rintro e w1 ⟨rfl, hb⟩; have HB := hid hb; clear hb)
          go_ret2
          exact ⟨by rw [HF.out]; rfl, HB.out⟩
        · have t4 : decide (v < 0) = false := by simpa using r1
          have t5 : decide (9999 < v) = true := by simp; omega
          go_enter Tryd.func11, Tryd.ntmps11
          go_wp2_with (go_at_call 9; refine (rnum_any u _ hus).mono ?_; unfold NumIs; rw [HU.out, HV.out]; rintro e w1 ⟨rfl, hb⟩; have HB := hid hb; clear hb)
          go_ret2
          exact ⟨by rw [HF.out]; rfl, HB.out⟩
    · have HV := hid e
      have HF := hid (show refV s.data.toList mark = (0, false) by rw [HR.out, e, if_neg (by simp)])
      clear e
      go_enter Tryd.func11, Tryd.ntmps11
      go_wp2_with (go_at_call 9; refine (rnum_any u _ hus).mono ?_; unfold NumIs; rw [HU.out, HV.out]; rintro e w1 ⟨rfl, hb⟩; have HB := hid hb; clear hb)
      go_ret2
      exact ⟨by rw [HF.out]; rfl, HB.out⟩
  · have HR := hid (refV_other h0' hm)
    have t3 : (byteAt s 0 != mark) = true := by simpa using hm
    clear hm
    go_enter Tryd.func11, Tryd.ntmps11
    go_wp2_with fail
    go_ret2
    exact ⟨by rw [HR.out]; rfl, Below.refl _ _⟩

end Go.Proofs.YtlakhndnoaoheaaDoor.Lx
