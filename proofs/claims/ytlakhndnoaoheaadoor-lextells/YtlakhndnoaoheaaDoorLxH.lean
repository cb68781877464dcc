/-
  lex: Show, Num, Ref.
-/
import Derived.Test.YtlakhndnoaoheaaDoorLxF
import Derived.Test.YtlakhndnoaoheaaDoorLxN
import Derived.Shelf.Strconv.Itoa4
import Derived.Shelf.Strconv.ErrVarParseInt
import Derived.Lib.AppendIntMem
namespace Go.Proofs.YtlakhndnoaoheaaDoor.Lx
open Go.RowKit Go.Shelf

set_option linter.unusedVariables false

theorem var_on {w w' : World} {n : String} {cs : Array Value} (hb : Below w.heap.size w w') (h : w.var? Tryd.prog n = some cs) : w'.var? Tryd.prog n = some cs := by
  unfold World.var? at *
  cases hg : Tryd.prog.globalNamed n with
  | none => simp [hg] at h
  | some g =>
    simp only [hg, Option.bind_some] at h ⊢
    have hlt : g < w.heap.size := by
      rcases Nat.lt_or_ge g w.heap.size with h' | h'
      · exact h'
      · rw [Array.getElem?_eq_none h'] at h; simp at h
    rw [hb.block g hlt]
    exact h

/-- What the library's three variables hold. -/
structure Laid (w : World) : Prop where
  tab : Lib.TabIs Tryd.prog w "internal/strconv.uint64pow10" .u64 Lib.pow10Tab
  syn : ∃ tp p, w.var? Tryd.prog "strconv.ErrSyntax" = some #[.iface tp p]
  rng : ∃ tp p, w.var? Tryd.prog "strconv.ErrRange" = some #[.iface tp p]

theorem Laid.on {w w' : World} (hb : Below w.heap.size w w') (h : Laid w) : Laid w' := by
  obtain ⟨h1, ⟨tp, p, h2⟩, ⟨tp', p', h3⟩⟩ := h
  exact ⟨var_on hb h1, ⟨tp, p, var_on hb h2⟩, ⟨tp', p', var_on hb h3⟩⟩

def shown (n : Int) : ByteArray := ⟨(Lib.itoa n).toArray⟩

theorem shown_list (n : Int) : (shown n).data.toList = Lib.itoa n := by simp [shown]

theorem shown_size (n : Int) : (shown n).size = (Lib.itoa n).length := by
  have : (shown n).size = (shown n).data.size := rfl
  rw [this, ← Array.length_toList, shown_list]

theorem shown_small {n : Int} (h : W64 n) : (shown n).size ≤ 21 := by rw [shown_size]; exact Lib.itoa_length_le n h.1 h.2

theorem ba_ext {s t : ByteArray} (h : s.data.toList = t.data.toList) : s = t := by
  cases s; cases t; congr 1; exact Array.ext' h

set_option maxRecDepth 10000 in
theorem show_any (n : Int) (w : World) (hn : W64 n) (L : Laid w) : Calls Tryd.prog 12 #[.int .i64 n] w fun e w' => e = .returned (.string (shown n)) ∧ Below w.heap.size w w' := by
  have HT := hid L.tab
  have HN := hid hn
  obtain ⟨s, hs⟩ : ∃ s, shown n = s := ⟨_, rfl⟩
  have c1 : Hid (∀ w1, w1 = w → Calls Tryd.prog 18 #[.int .i64 n, .int .i64 10] w1 fun e w' => e = .returned (.string s) ∧ Below w.heap.size w w') := by
    intro w1 e
    subst e
    refine (Any.strconv_FormatInt_10 lays173 n hn.1 hn.2 _ L.tab).mono ?_
    rintro e w' ⟨rfl, k, os, rfl⟩
    exact ⟨by rw [← hs]; rfl, Lib.below_grow _ _ (Nat.le_refl _) k os⟩
  rw [hs]
  clear L hn hs
  go_enter Tryd.func12, Tryd.ntmps12
  go_wp2_with (go_at_call 18; refine (c1.out _ rfl).mono ?_; rintro e w' ⟨rfl, hb⟩)
  go_ret
  exact ⟨rfl, hb⟩

theorem parse_yes (s : ByteArray) (w : World) (hs : s.size ≤ 281474976710656) (L : Laid w) (v : Int) (h : Lib.parseIntB 64 s.data.toList = .ok v) :
    Calls Tryd.prog 17 #[.string s, .int .i64 10, .int .i64 64] w fun e w' => e = .returned (.tuple #[.int .i64 v, .nilIface]) ∧ Below w.heap.size w w' := by
  refine (Any.strconv_ParseInt_10_at64_ok lays174 s (by omega) v h w).mono ?_
  rintro e w' ⟨rfl, hw⟩
  refine ⟨rfl, ?_⟩
  rcases hw with rfl | ⟨t, rfl⟩
  · exact Below.refl _ _
  · exact Lib.bytesWorld_below _ _ _

theorem parse_no (s : ByteArray) (w : World) (hs : s.size ≤ 281474976710656) (L : Laid w) (h : ∀ v, Lib.parseIntB 64 s.data.toList ≠ .ok v) :
    Calls Tryd.prog 17 #[.string s, .int .i64 10, .int .i64 64] w fun e w' => ∃ v t p, e = .returned (.tuple #[.int .i64 v, .iface t p]) ∧ Below w.heap.size w w' := by
  cases h' : Lib.parseIntB 64 s.data.toList with
  | ok v => exact absurd h' (h v)
  | «syntax» =>
    obtain ⟨tp, p, hv⟩ := L.syn
    refine (Any.strconv_ParseInt_10_at64_syntax_var lays174 s hs h' tp p w hv).mono ?_
    rintro e w' ⟨N, rfl, _, _, hb⟩
    exact ⟨_, _, _, rfl, hb⟩
  | range =>
    obtain ⟨tp, p, hv⟩ := L.rng
    refine (Any.strconv_ParseInt_10_at64_range_var lays174 s hs h' tp p w hv).mono ?_
    rintro e w' ⟨N, rfl, _, _, hb⟩
    exact ⟨_, _, _, rfl, hb⟩

def NumIs (s : ByteArray) (w : World) (e : Ending) (w' : World) : Prop := e = .returned (.tuple #[.int .i64 (numV s.data.toList).1, .bool (numV s.data.toList).2]) ∧ Below w.heap.size w w'

theorem num_any (s : ByteArray) (w : World) (hs : s.size ≤ 281474976710656) (L : Laid w) : Calls Tryd.prog 8 #[.string s] w fun e w' => NumIs s w e w' := by
  have HL := hid L
  clear L
  by_cases hex : ∃ v, Lib.parseIntB 64 s.data.toList = .ok v
  · obtain ⟨v, hv⟩ := hex
    have hw := parse_w64 hv
    have HV := hid hv
    clear hv
    by_cases he : shown v = s
    · have HR := hid (show numV s.data.toList = (v, true) from numV_yes (v := v) ⟨hw, by rw [← he, shown_list]⟩)
      subst he
      go_enter Tryd.func8, Tryd.ntmps8
      go_wp2_with (first
        | (go_at_call 17; refine (parse_yes _ _ hs HL.out v HV.out).mono ?_; rintro e w1 ⟨rfl, hb⟩; have HB := hid hb; clear hb)
        | (go_at_call 12; refine (show_any v _ hw (HL.out.on HB.out)).mono ?_; rintro e w2 ⟨rfl, hb2⟩; have HB2 := hid (more HB.out hb2); clear hb2))
      go_ret2
      exact ⟨by rw [HR.out]; rfl, HB2.out⟩
    · have HR := hid (show numV s.data.toList = (0, false) from numV_no fun v' hv' => he (by
        have e1 := parse_itoa hv'.1
        rw [hv'.2, HV.out] at e1
        injection e1 with e1
        subst e1
        exact ba_ext (by rw [shown_list]; exact hv'.2)))
      obtain ⟨t, ht⟩ : ∃ t, shown v = t := ⟨_, rfl⟩
      rw [ht] at he
      have hq : (t.toList == s.toList) = false := by
        rw [beq_eq_false_iff_ne, Go.ByteArray.toList_eq, Go.ByteArray.toList_eq]
        exact fun e => he (ba_ext e)
      have HT := hid ht
      clear he
      clear ht
      go_enter Tryd.func8, Tryd.ntmps8
      go_wp2_with (first
        | (go_at_call 17; refine (parse_yes _ _ hs HL.out v HV.out).mono ?_; rintro e w1 ⟨rfl, hb⟩; have HB := hid hb; clear hb)
        | (go_at_call 12; refine (show_any v _ hw (HL.out.on HB.out)).mono ?_; rw [HT.out]; rintro e w2 ⟨rfl, hb2⟩; have HB2 := hid (more HB.out hb2); clear hb2))
      go_ret2
      exact ⟨by rw [HR.out]; rfl, HB2.out⟩
  · have HR := hid (show numV s.data.toList = (0, false) from numV_no fun v' hv' => by
      have := parse_itoa hv'.1
      rw [hv'.2] at this
      exact hex ⟨v', this⟩)
    have HX := hid (show ∀ v, Lib.parseIntB 64 s.data.toList ≠ .ok v from fun v h => hex ⟨v, h⟩)
    clear hex
    go_enter Tryd.func8, Tryd.ntmps8
    go_wp2_with (go_at_call 17; refine (parse_no s _ hs HL.out HX.out).mono ?_; rintro e w1 ⟨v, t, p, rfl, hb⟩; have HB := hid hb; clear hb)
    go_ret2
    exact ⟨by rw [HR.out]; rfl, HB.out⟩

/-- What stands behind the first byte. -/
theorem tail_list (s : ByteArray) (h : 1 ≤ s.size) : (s.extract 1 s.size).data.toList = s.data.toList.tail := by
  rw [ByteArray.data_extract, Array.toList_extract, List.extract_eq_take_drop]
  have e : s.size = s.data.toList.length := by rw [Array.length_toList]; rfl
  rw [e, List.take_of_length_le (by simp), List.drop_one]

theorem head_list (s : ByteArray) (h : 0 < s.size) : ∃ c, s.data.toList = c :: s.data.toList.tail ∧ (c.toNat : Int) = byteAt s 0 := by
  have hd : 0 < s.data.toList.length := by rw [Array.length_toList]; exact h
  cases hl : s.data.toList with
  | nil => rw [hl] at hd; simp at hd
  | cons c r =>
    refine ⟨c, rfl, ?_⟩
    unfold byteAt
    rw [dif_pos h]
    have : s[0] = s.data.toList[0] := rfl
    rw [this]
    simp [hl]

theorem nil_list (s : ByteArray) (h : s.size = 0) : s.data.toList = [] := by
  apply List.eq_nil_of_length_eq_zero
  rw [Array.length_toList]; exact h

def RefIs (s : ByteArray) (mark : Int) (w : World) (e : Ending) (w' : World) : Prop := e = .returned (.tuple #[.int .i64 (refV s.data.toList mark).1, .bool (refV s.data.toList mark).2]) ∧ Below w.heap.size w w'

theorem refV_head {s : ByteArray} {mark : Int} (h : 0 < s.size) (e : byteAt s 0 = mark) :
    refV s.data.toList mark = if (numV s.data.toList.tail).2 = true ∧ 0 ≤ (numV s.data.toList.tail).1 ∧ (numV s.data.toList.tail).1 ≤ 9999 then ((numV s.data.toList.tail).1, true) else (0, false) := by
  obtain ⟨c, hl, hc⟩ := head_list s h
  rw [hl, refV, if_pos (by omega)]
  rfl

theorem refV_other {s : ByteArray} {mark : Int} (h : 0 < s.size) (e : byteAt s 0 ≠ mark) : refV s.data.toList mark = (0, false) := by
  obtain ⟨c, hl, hc⟩ := head_list s h
  rw [hl, refV, if_neg (by omega)]

set_option maxHeartbeats 1000000 in
theorem ref_any (s : ByteArray) (mark : Int) (w : World) (hs : s.size ≤ 1000) (L : Laid w) : Calls Tryd.prog 10 #[.string s, .int .u8 mark] w fun e w' => RefIs s mark w e w' := by
  have HL := hid L
  clear L
  by_cases h0 : s.size = 0
  · have HR := hid (show refV s.data.toList mark = (0, false) by rw [nil_list s h0]; rfl)
    have t0 : s.toList.isEmpty = true := by
      rw [Go.ByteArray.toList_eq, nil_list s h0]; rfl
    clear h0
    go_enter Tryd.func10, Tryd.ntmps10
    go_wp2_with fail
    go_ret2
    exact ⟨by rw [HR.out]; rfl, Below.refl _ _⟩
  have h0' : 0 < s.size := by omega
  have t0 : s.toList.isEmpty = false := by
    rw [Go.ByteArray.toList_eq]
    obtain ⟨c, hl, _⟩ := head_list s h0'
    rw [hl]; rfl
  have hx : ∀ wx, (Instr.index 9 (.string s) (.int .i64 0)).run Tryd.prog wx = .ok (.int .u8 (byteAt s 0)) wx := index_str s h0'
  have hcc := at_str s h0'
  by_cases hm : byteAt s 0 = mark
  · have HR := hid (refV_head h0' hm)
    have t1 : (byteAt s 0 != mark) = false := by simpa using hm
    obtain ⟨u, hu⟩ : ∃ u, s.extract 1 s.size = u := ⟨_, rfl⟩
    have hus : u.size ≤ 281474976710656 := by rw [← hu, ByteArray.size_extract]; omega
    have HU := hid (show u.data.toList = s.data.toList.tail by rw [← hu]; exact tail_list s h0')
    have hsl : ∀ wx, (Instr.slice 9 (.string s) (some (.int .i64 1)) none none).run Tryd.prog wx = .ok (.string u) wx := fun wx => by
      rw [run_slice_string_l (ht := by kernel_rfl) (h0 := by omega) (h1 := by omega), ← hu]
      rfl
    clear hu h0
    rcases numV_cases s.data.toList.tail with ⟨v, hv, e⟩ | ⟨_, e⟩
    · have HV := hid e
      have hw := hv.1
      clear e hv
      by_cases hr : 0 ≤ v ∧ v ≤ 9999
      · obtain ⟨r1, r2⟩ := hr
        have t2 : decide (v < 0) = false := by simp; omega
        have t3 : decide (9999 < v) = false := by simp; omega
        have HF := hid (show refV s.data.toList mark = (v, true) by rw [HR.out, HV.out, if_pos ⟨rfl, r1, r2⟩])
        go_enter Tryd.func10, Tryd.ntmps10
        go_wp2_with (go_at_call 8; refine (num_any u _ hus HL.out).mono ?_; unfold NumIs; rw [HU.out, HV.out]; rintro e w1 ⟨rfl, hb⟩; have HB := hid hb; clear hb)
        go_ret2
        exact ⟨by rw [HF.out]; rfl, HB.out⟩
      · have HF := hid (show refV s.data.toList mark = (0, false) by rw [HR.out, HV.out, if_neg (fun h => hr ⟨h.2.1, h.2.2⟩)])
        by_cases r1 : v < 0
        · have t2 : decide (v < 0) = true := by simpa using r1
          go_enter Tryd.func10, Tryd.ntmps10
          go_wp2_with (go_at_call 8; refine (num_any u _ hus HL.out).mono ?_; unfold NumIs; rw [HU.out, HV.out]; rintro e w1 ⟨rfl, hb⟩; have HB := hid hb; clear hb)
          go_ret2
          exact ⟨by rw [HF.out]; rfl, HB.out⟩
        · have t2 : decide (v < 0) = false := by simpa using r1
          have t3 : decide (9999 < v) = true := by simp; omega
          go_enter Tryd.func10, Tryd.ntmps10
          go_wp2_with (go_at_call 8; refine (num_any u _ hus HL.out).mono ?_; unfold NumIs; rw [HU.out, HV.out]; rintro e w1 ⟨rfl, hb⟩; have HB := hid hb; clear hb)
          go_ret2
          exact ⟨by rw [HF.out]; rfl, HB.out⟩
    · have HV := hid e
      have HF := hid (show refV s.data.toList mark = (0, false) by rw [HR.out, e, if_neg (by simp)])
      clear e
      go_enter Tryd.func10, Tryd.ntmps10
      go_wp2_with (go_at_call 8; refine (num_any u _ hus HL.out).mono ?_; unfold NumIs; rw [HU.out, HV.out]; rintro e w1 ⟨rfl, hb⟩; have HB := hid hb; clear hb)
      go_ret2
      exact ⟨by rw [HF.out]; rfl, HB.out⟩
  · have HR := hid (refV_other h0' hm)
    have t1 : (byteAt s 0 != mark) = true := by simpa using hm
    clear hm
    go_enter Tryd.func10, Tryd.ntmps10
    go_wp2_with fail
    go_ret2
    exact ⟨by rw [HR.out]; rfl, Below.refl _ _⟩

end Go.Proofs.YtlakhndnoaoheaaDoor.Lx
