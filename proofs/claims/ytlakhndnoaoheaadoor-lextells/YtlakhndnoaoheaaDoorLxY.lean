/-
  LexTells, walked.
-/
import Derived.Test.YtlakhndnoaoheaaDoorLxX
import Derived.Test.YtlakhndnoaoheaaDoorLxU
import Derived.BigRegion
namespace Go.Proofs.YtlakhndnoaoheaaDoor.Lx
open Go.RowKit

set_option linter.unusedVariables false

theorem good_or_bad (s : ByteArray) : Good s ∨ ∃ k, Bad s k := by
  have h : ∀ n, n ≤ s.size → (∀ i, i < n → okC (byteAt s i) = true) ∨ ∃ k, Bad s k := by
    intro n
    induction n with
    | zero => exact fun _ => .inl fun i hi => by omega
    | succ n ih =>
      intro hn
      rcases ih (by omega) with h | h
      · cases hc : okC (byteAt s n) with
        | true =>
          refine .inl fun i hi => ?_
          rcases Nat.lt_or_eq_of_le (Nat.le_of_lt_succ hi) with h' | rfl
          · exact h i h'
          · exact hc
        | false => exact .inr ⟨n, hn, hc, h⟩
      · exact .inr h
  exact h s.size (Nat.le_refl _)

theorem bad_same {s : ByteArray} {i k : Nat} (h : Bad s i) (h' : Bad s k) : i = k := by
  rcases Nat.lt_trichotomy i k with q | q | q
  · have := h'.2.2 i q; rw [h.2.1] at this; cases this
  · exact q
  · have := h.2.2 k q; rw [h'.2.1] at this; cases this

theorem lines_at' (s : ByteArray) (i : Nat) (hi : i < (linesOf (bts s) s.size).length) : 0 < ((linesOf (bts s) s.size).getD i []).length ∧ ((linesOf (bts s) s.size).getD i []).length ≤ s.size := by
  have e : (linesOf (bts s) s.size).getD i [] = (linesOf (bts s) s.size)[i] := by simp [List.getD, hi]
  rw [e]
  exact ⟨List.length_pos_iff.2 (lines_pos _ _ _ (List.getElem_mem hi)).1, line_len _ _ _ (List.getElem_mem hi)⟩

def BadIs (k0 : Nat) (w : World) (e : Ending) (w' : World) : Prop := e = .returned (.tuple #[.slice none 0 0, .int .i64 k0, .int .i64 1]) ∧ Below w.heap.size w w'
def GoodIs (s : ByteArray) (w : World) (e : Ending) (w' : World) : Prop := ∃ sl : Sl, e = .returned (.tuple #[.slice sl.a sl.n sl.c, .int .i64 0, .int .i64 0]) ∧ Below w.heap.size w w' ∧ LinesAt s w' sl

theorem LinesIs.bad {s : ByteArray} {w w' : World} {e : Ending} {k0 : Nat} (hb : Bad s k0) (h : LinesIs s w e w') : BadIs k0 w e w' := by
  obtain ⟨sl, at_, er, rfl, hlow, h⟩ := h
  rcases h with ⟨k, hk, rfl, rfl, rfl⟩ | ⟨hg, _⟩
  · obtain rfl := bad_same hk hb
    exact ⟨rfl, hlow⟩
  · exact (good_not_bad hg hb).elim

theorem LinesIs.good {s : ByteArray} {w w' : World} {e : Ending} (hg : Good s) (h : LinesIs s w e w') : GoodIs s w e w' := by
  obtain ⟨sl, at_, er, rfl, hlow, h⟩ := h
  rcases h with ⟨k, hk, rfl, rfl, rfl⟩ | ⟨_, rfl, rfl, h⟩
  · exact (good_not_bad hg hk).elim
  · exact ⟨sl, rfl, hlow, h⟩

set_option maxRecDepth 10000 in
set_option maxHeartbeats 2000000 in
theorem tellsLong (s v : ByteArray) (n mark : Int) (w : World) (hl : (1000 : Int) < s.size ∨ (100 : Int) < v.size) :
    Calls Tryd.prog 3 #[.string s, .string v, .int .i64 n, .int .u8 mark] w fun e w' => e = .returned (.bool true) ∧ Below w.heap.size w w' := by
  by_cases h1 : (1000 : Int) < s.size
  · have t0 : decide ((1000 : Int) < (s.size : Int)) = true := decide_eq_true h1
    go_enter Tryd.func3, Tryd.ntmps3
    go_wp2_with fail
    refine (first_true _).mono ?_
    rintro e w1 ⟨rfl, hb1⟩
    go_wp2_with fail
    refine (first_true _).mono ?_
    rintro e w2 ⟨rfl, hb2⟩
    go_wp2_with fail
    go_ret
    exact ⟨rfl, more hb1 hb2⟩
  · have h2 : (100 : Int) < v.size := by omega
    have t0 : decide ((1000 : Int) < (s.size : Int)) = false := decide_eq_false h1
    have t1 : decide ((100 : Int) < (v.size : Int)) = true := decide_eq_true h2
    go_enter Tryd.func3, Tryd.ntmps3
    go_wp2_with fail
    refine (first_true _).mono ?_
    rintro e w1 ⟨rfl, hb1⟩
    go_wp2_with fail
    refine (first_true _).mono ?_
    rintro e w2 ⟨rfl, hb2⟩
    go_wp2_with fail
    go_ret
    exact ⟨rfl, more hb1 hb2⟩

set_option maxRecDepth 10000 in
set_option maxHeartbeats 4000000 in
theorem tellsBad (s v : ByteArray) (n mark : Int) (w : World) (hs : s.size ≤ 1000) (hv : v.size ≤ 100) (hn : W64 n) (L : Laid w) (k0 : Nat) (hbad : Bad s k0) :
    Calls Tryd.prog 3 #[.string s, .string v, .int .i64 n, .int .u8 mark] w fun e w' => e = .returned (.bool true) ∧ Below w.heap.size w w' := by
  have t0 : decide ((1000 : Int) < (s.size : Int)) = false := decide_eq_false (by omega)
  have t0' : decide ((100 : Int) < (v.size : Int)) = false := decide_eq_false (by omega)
  have HL := hid L
  obtain ⟨⟨x, xb⟩, hxb⟩ : ∃ x, numV v.data.toList = x := ⟨_, rfl⟩
  obtain ⟨⟨pp, pb⟩, hpc⟩ : ∃ x, refV v.data.toList mark = x := ⟨_, rfl⟩
  obtain ⟨sh, hsh⟩ : ∃ t, shown n = t := ⟨_, rfl⟩
  have XB := hid hxb
  have PC := hid hpc
  have SH := hid hsh
  clear hxb hpc hsh L
  have HB := hid hbad
  clear hbad
  go_enter Tryd.func3, Tryd.ntmps3
  go_wp2_with fail
  refine (first_true _).mono ?_
  rintro e w1 ⟨rfl, hb1⟩
  have B1 := hid hb1
  clear hb1
  go_wp2_with fail
  refine ((lines_any s _ (by omega)).mono fun e w' h => h.bad HB.out).mono ?_
  rintro e w2 ⟨rfl, hb2⟩
  have B2 := hid (more B1.out hb2)
  clear hb2
  go_wp2_with fail
  refine ((rlines_any s _ (by omega)).mono fun e w' h => h.bad HB.out).mono ?_
  rintro e w3 ⟨rfl, hb3⟩
  have B3 := hid (more B2.out hb3)
  clear hb3
  go_wp2_with fail
  go_loop [15] (fun x => x = .int .i64 0) (fun x => 0)
  case atStart => rfl
  case round =>
    obtain rfl := hrel
    go_wp2_with fail
    refine (num_any v _ (by omega) (HL.out.on (B3.out))).mono ?_
    unfold NumIs
    rw [XB.out]
    rintro e wa ⟨rfl, hba⟩
    have BA := hid (more (B3.out) hba)
    clear hba
    go_wp2_with fail
    refine (rnum_any v _ (by omega)).mono ?_
    unfold NumIs
    rw [XB.out]
    rintro e wb ⟨rfl, hbb⟩
    have BB := hid (more BA.out hbb)
    clear hbb
    go_wp2_with fail
    refine (ref_any v mark _ (by omega) (HL.out.on BB.out)).mono ?_
    unfold RefIs
    rw [PC.out]
    rintro e wc ⟨rfl, hbc⟩
    have BC := hid (more BB.out hbc)
    clear hbc
    go_wp2_with fail
    refine (rref_any v mark _ (by omega)).mono ?_
    unfold RefIs
    rw [PC.out]
    rintro e wd ⟨rfl, hbd⟩
    have BD := hid (more BC.out hbd)
    clear hbd
    go_wp2_with fail
    refine (show_any n _ hn (HL.out.on BD.out)).mono ?_
    rw [SH.out]
    rintro e we ⟨rfl, hbe⟩
    have BE := hid (more BD.out hbe)
    clear hbe
    go_wp2_with fail
    refine (rshow_any n _ hn).mono ?_
    rw [SH.out]
    rintro e wf ⟨rfl, hbf⟩
    have BF := hid (more BE.out hbf)
    clear hbf
    go_wp2_with fail
    go_ret
    exact ⟨rfl, BF.out⟩

set_option maxRecDepth 10000 in
set_option maxHeartbeats 8000000 in
theorem tellsGood (s v : ByteArray) (n mark : Int) (w : World) (hs : s.size ≤ 1000) (hv : v.size ≤ 100) (hn : W64 n) (L : Laid w) (hgood : Good s) :
    Calls Tryd.prog 3 #[.string s, .string v, .int .i64 n, .int .u8 mark] w fun e w' => e = .returned (.bool true) ∧ Below w.heap.size w w' := by
  have t0 : decide ((1000 : Int) < (s.size : Int)) = false := decide_eq_false (by omega)
  have t0' : decide ((100 : Int) < (v.size : Int)) = false := decide_eq_false (by omega)
  have HL := hid L
  obtain ⟨⟨x, xb⟩, hxb⟩ : ∃ x, numV v.data.toList = x := ⟨_, rfl⟩
  obtain ⟨⟨pp, pb⟩, hpc⟩ : ∃ x, refV v.data.toList mark = x := ⟨_, rfl⟩
  obtain ⟨sh, hsh⟩ : ∃ t, shown n = t := ⟨_, rfl⟩
  have XB := hid hxb
  have PC := hid hpc
  have SH := hid hsh
  clear hxb hpc hsh L
  have HG := hid hgood
  clear hgood
  go_enter Tryd.func3, Tryd.ntmps3
  go_wp2_with fail
  refine (first_true _).mono ?_
  rintro e w1 ⟨rfl, hb1⟩
  have B1 := hid hb1
  clear hb1
  go_wp2_with fail
  refine ((lines_any s _ (by omega)).mono fun e w' h => h.good HG.out).mono ?_
  rintro e w2 ⟨⟨xa, xn, xc⟩, rfl, hb2, hx, f, hxr, hxe⟩
  have B2 := hid (more B1.out hb2)
  have X0 := hid (show xn = (linesOf (bts s) s.size).length from hx)
  have XR := hid (show Row 1 SAt w2 ⟨xa, xn, xc⟩ f from hxr)
  have XE := hid (show ∀ i, i < xn → ElW s (linesOf (bts s) s.size) w2 i (f i) from hxe)
  clear hb2 hx hxr hxe
  go_wp2_with fail
  refine ((rlines_any s _ (by omega)).mono fun e w' h => h.good HG.out).mono ?_
  rintro e w3 ⟨⟨ya, yn, yc⟩, rfl, hb3, hy, g, hyr, hye⟩
  have B23 := hid hb3
  have B3 := hid (more B2.out hb3)
  obtain rfl : yn = xn := by rw [X0.out]; exact hy
  have YR := hid (show Row 1 SAt w3 ⟨ya, yn, yc⟩ g from hyr)
  have YE := hid (show ∀ i, i < yn → ElW s (linesOf (bts s) s.size) w3 i (g i) from hye)
  have hyn : yn ≤ 1000 := by have := lines_len (bts s) s.size; rw [X0.out]; omega
  clear hb3 hy hyr hye
  go_wp2_with fail
  go_loopg [15] yn (fun g x wr => ∃ i : Nat, g = yn - i ∧ x = .int .i64 i ∧ i ≤ yn ∧ Below w3.heap.size w3 wr)
  case atStart => exact ⟨0, rfl, rfl, Nat.zero_le _, Below.refl _ _⟩
  case round =>
    obtain ⟨i, hg, rfl, hi, hb⟩ := hrel
    have HB := hid hb
    clear hb
    by_cases li : i < yn
    · obtain ⟨bx, ox, ixx, hcx⟩ := XR.out.idx undLines sizeLine i i rfl li
      obtain ⟨by_, oy, ixy, hcy⟩ := YR.out.idx undRLs sizeRL i i rfl li
      obtain ⟨⟨ua, un, uc⟩, hu⟩ : ∃ t, f i = t := ⟨_, rfl⟩
      obtain ⟨⟨va, vn, vc⟩, hv'⟩ : ∃ t, g i = t := ⟨_, rfl⟩
      have heu := XE.out i li
      have hev := YE.out i li
      rw [hu] at hcx heu
      rw [hv'] at hcy hev
      obtain ⟨hun, hur⟩ := heu
      obtain ⟨hvn, hvr⟩ := hev
      obtain rfl : vn = un := by rw [show un = _ from hun]; exact hvn
      have hlen : vn ≤ 1000 := by
        have := (lines_at' s i (by rw [← X0.out]; exact li)).2
        rw [show vn = _ from hvn]
        omega
      have CX := hid (cell_on B23.out hcx)
      have CY := hid (show w3.cell? ⟨by_, oy, none⟩ = some (slv ⟨va, vn, vc⟩) from hcy)
      have UR := hid hur
      have VR := hid hvr
      have cx : wr.cell? ⟨bx, ox, none⟩ = some (.slice ua vn uc) := cell_on HB.out CX.out
      have cy : wr.cell? ⟨by_, oy, none⟩ = some (.slice va vn vc) := cell_on HB.out CY.out
      clear hcx hcy hu hv' hun hur hvn hvr
      go_wp2_with fail
      go_region
      go_wp2_with fail
      clear cx cy
      go_loopg [16] vn (fun g x wx => ∃ k : Nat, g = vn - k ∧ x = .int .i64 k ∧ k ≤ vn ∧ Below w3.heap.size w3 wx)
      case atStart => exact ⟨0, rfl, rfl, Nat.zero_le _, below_drewN HB.out _⟩
      case round =>
        obtain ⟨k, hg3, rfl, hk, hbx⟩ := hrel
        have HX := hid hbx
        have cx : wr.cell? ⟨bx, ox, none⟩ = some (.slice ua vn uc) := cell_on HX.out CX.out
        have cy : wr.cell? ⟨by_, oy, none⟩ = some (.slice va vn vc) := cell_on HX.out CY.out
        clear hbx
        by_cases lk : k < vn
        · obtain ⟨b1, o1, i1, h1⟩ := UR.out.idx undWords sizeWord k k rfl lk
          obtain ⟨b2, o2, i2, h2⟩ := VR.out.idx undRWs sizeRW k k rfl lk
          obtain ⟨⟨p, q⟩, hF⟩ : ∃ x, ((linesOf (bts s) s.size).getD i []).getD k (0, 0) = x := ⟨_, rfl⟩
          replace h1 : WAt s w2 b1 o1 (((linesOf (bts s) s.size).getD i []).getD k (0, 0)) := h1
          replace h2 : WAt s w3 b2 o2 (((linesOf (bts s) s.size).getD i []).getD k (0, 0)) := h2
          rw [hF] at h1 h2
          obtain ⟨tx, htx⟩ : ∃ tx, s.extract p q = tx := ⟨_, rfl⟩
          have c0 : wr.cell? ⟨b1, o1, none⟩ = some (.string tx) := by rw [← htx]; exact cell_on (more B23.out HX.out) h1.c0
          have c1 : wr.cell? ⟨b1, o1 + 1, none⟩ = some (.int .i64 p) := cell_on (more B23.out HX.out) h1.c1
          have c2 : wr.cell? ⟨b2, o2, none⟩ = some (.string tx) := by rw [← htx]; exact cell_on HX.out h2.c0
          have c3 : wr.cell? ⟨b2, o2 + 1, none⟩ = some (.int .i64 p) := cell_on HX.out h2.c1
          clear h1 h2 hF htx
          go_wp2_with fail
          go_quiet (fail)
          go_wp2_with fail
          go_roundg (vn - (k + 1))
          case measure => omega
          case rel => exact ⟨k + 1, rfl, by go_num, by omega, below_drewN HX.out _⟩
        · obtain rfl : k = vn := by omega
          go_wp2_with fail
          go_roundg (yn - (i + 1))
          case measure => omega
          case rel => exact ⟨i + 1, rfl, by go_num, by omega, HX.out⟩
    · obtain rfl : i = yn := by omega
      clear li
      have B4 := hid (more B3.out HB.out)
      go_wp2_with fail
      refine (num_any v _ (by omega) (HL.out.on (B4.out))).mono ?_
      unfold NumIs
      rw [XB.out]
      rintro e wa ⟨rfl, hba⟩
      have BA := hid (more (B4.out) hba)
      clear hba
      go_wp2_with fail
      refine (rnum_any v _ (by omega)).mono ?_
      unfold NumIs
      rw [XB.out]
      rintro e wb ⟨rfl, hbb⟩
      have BB := hid (more BA.out hbb)
      clear hbb
      go_wp2_with fail
      refine (ref_any v mark _ (by omega) (HL.out.on BB.out)).mono ?_
      unfold RefIs
      rw [PC.out]
      rintro e wc ⟨rfl, hbc⟩
      have BC := hid (more BB.out hbc)
      clear hbc
      go_wp2_with fail
      refine (rref_any v mark _ (by omega)).mono ?_
      unfold RefIs
      rw [PC.out]
      rintro e wd ⟨rfl, hbd⟩
      have BD := hid (more BC.out hbd)
      clear hbd
      go_wp2_with fail
      refine (show_any n _ hn (HL.out.on BD.out)).mono ?_
      rw [SH.out]
      rintro e we ⟨rfl, hbe⟩
      have BE := hid (more BD.out hbe)
      clear hbe
      go_wp2_with fail
      refine (rshow_any n _ hn).mono ?_
      rw [SH.out]
      rintro e wf ⟨rfl, hbf⟩
      have BF := hid (more BE.out hbf)
      clear hbf
      go_wp2_with fail
      go_ret
      exact ⟨rfl, BF.out⟩

theorem lexTells_any (s v : ByteArray) (n mark : Int) (w : World) (hn : W64 n) (L : Laid w) :
    Calls Tryd.prog 3 #[.string s, .string v, .int .i64 n, .int .u8 mark] w fun e w' => e = .returned (.bool true) ∧ Below w.heap.size w w' := by
  by_cases hl : (1000 : Int) < s.size ∨ (100 : Int) < v.size
  · exact tellsLong s v n mark w hl
  rcases good_or_bad s with h | ⟨k, h⟩
  · exact tellsGood s v n mark w (by omega) (by omega) hn L h
  · exact tellsBad s v n mark w (by omega) (by omega) hn L k h

end Go.Proofs.YtlakhndnoaoheaaDoor.Lx
