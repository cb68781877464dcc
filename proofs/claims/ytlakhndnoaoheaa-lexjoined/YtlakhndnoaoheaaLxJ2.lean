/-
  LexJoined, walked.
-/
import Derived.Test.YtlakhndnoaoheaaLxJ
namespace Go.Proofs.Ytlakhndnoaoheaa.Lx
open Go.RowKit

set_option linter.unusedVariables false

/-- A word as it lies: its text, its place. -/
structure TAt (w : World) (b o : Nat) (x : ByteArray × Nat) : Prop where
  c0 : w.cell? ⟨b, o, none⟩ = some (.string x.1)
  c1 : w.cell? ⟨b, o + 1, none⟩ = some (.int .i64 x.2)

theorem TAt.on {w w' : World} {b o : Nat} {x : ByteArray × Nat} (hb : Below w.heap.size w w') (h : TAt w b o x) : TAt w' b o x := ⟨cell_on hb h.c0, cell_on hb h.c1⟩

/-- Two lines, word by word the same, the later one by m further on. -/
structure Pair (w : World) (u v : Sl) (m : Nat) (f : Nat → ByteArray × Nat) : Prop where
  n : v.n = u.n
  small : u.n ≤ 4000
  at_ : ∀ k, k < u.n → (f k).2 ≤ 4000
  u : Row 2 TAt w u f
  v : Row 2 TAt w v (fun k => ((f k).1, (f k).2 + m))

theorem row_map {α β : Type} {z : Nat} {p : World → Nat → Nat → α → Prop} {p' : World → Nat → Nat → β → Prop} {w : World} {s : Sl} {f : Nat → α} {g : Nat → β} (h : Row z p w s f) (e : ∀ i b o, i < s.n → p w b o (f i) → p' w b o (g i)) : Row z p' w s g :=
  ⟨h.1, h.2.1, h.2.2.1, fun h0 => by
    obtain ⟨b, off, ha, hc⟩ := h.2.2.2 h0
    exact ⟨b, off, ha, fun i hi => e _ _ _ hi (hc i hi)⟩⟩

theorem word_in {s : ByteArray} {i k : Nat} (hi : i < (linesOf (bts s) s.size).length) (hk : k < ((linesOf (bts s) s.size).getD i []).length) :
    (((linesOf (bts s) s.size).getD i []).getD k (0, 0)).1 < (((linesOf (bts s) s.size).getD i []).getD k (0, 0)).2 ∧ (((linesOf (bts s) s.size).getD i []).getD k (0, 0)).2 ≤ s.size := by
  have e : (linesOf (bts s) s.size).getD i [] = (linesOf (bts s) s.size)[i] := by simp [List.getD, hi]
  rw [e] at hk ⊢
  have e' : ((linesOf (bts s) s.size)[i]).getD k (0, 0) = ((linesOf (bts s) s.size)[i])[k] := by simp [List.getD, hk]
  rw [e']
  exact (lines_pos (bts s) s.size _ (List.getElem_mem hi)).2 _ (List.getElem_mem hk)

theorem map_getD {f : Nat × Nat → Nat × Nat} {l : List (Nat × Nat)} {k : Nat} (hk : k < l.length) : (l.map f).getD k (0, 0) = f (l.getD k (0, 0)) := by
  simp [List.getD, hk]

theorem pair_a {a b : ByteArray} {w : World} {i : Nat} {u v : Sl} (ha : a.size ≤ 500) (hi : i < (linesOf (bts a) a.size).length) (hu : ElW a (linesOf (bts a) a.size) w i u) (hv : ElW (joined a b) (linesOf (bts (joined a b)) (joined a b).size) w i v) :
    Pair w u v 0 (fun k => (a.extract (((linesOf (bts a) a.size).getD i []).getD k (0, 0)).1 (((linesOf (bts a) a.size).getD i []).getD k (0, 0)).2, (((linesOf (bts a) a.size).getD i []).getD k (0, 0)).1)) := by
  have e : (linesOf (bts (joined a b)) (joined a b).size).getD i [] = (linesOf (bts a) a.size).getD i [] := by
    rw [lines_c, List.getD, List.getD, List.getElem?_append_left hi]
  obtain ⟨u1, u2⟩ := hu
  obtain ⟨v1, v2⟩ := hv
  rw [e] at v1 v2
  have hl := (lines_at (b := bts a) (n := a.size) hi).2
  refine ⟨by rw [v1, u1], by omega, fun k hk => ?_, row_map u2 (fun k b o hk h => ⟨h.c0, h.c1⟩), row_map v2 (fun k b' o hk h => ⟨?_, h.c1⟩)⟩
  · have := word_in hi (k := k) (by omega)
    simp only; omega
  · have := word_in hi (k := k) (by omega)
    have h0 := h.c0
    rw [text_a a b this.2] at h0
    exact h0

theorem pair_b {a b : ByteArray} {w : World} {i : Nat} {u v : Sl} (ha : a.size ≤ 500) (hb : b.size ≤ 500) (hi : i < (linesOf (bts b) b.size).length) (hu : ElW b (linesOf (bts b) b.size) w i u) (hv : ElW (joined a b) (linesOf (bts (joined a b)) (joined a b).size) w ((linesOf (bts a) a.size).length + i) v) :
    Pair w u v (a.size + 1) (fun k => (b.extract (((linesOf (bts b) b.size).getD i []).getD k (0, 0)).1 (((linesOf (bts b) b.size).getD i []).getD k (0, 0)).2, (((linesOf (bts b) b.size).getD i []).getD k (0, 0)).1)) := by
  have e : (linesOf (bts (joined a b)) (joined a b).size).getD ((linesOf (bts a) a.size).length + i) [] = ((linesOf (bts b) b.size).getD i []).map (sh (a.size + 1)) := by
    rw [lines_c, List.getD, List.getD, List.getElem?_append_right (by omega), show (linesOf (bts a) a.size).length + i - (linesOf (bts a) a.size).length = i by omega, List.getElem?_map]
    cases (linesOf (bts b) b.size)[i]? <;> rfl
  obtain ⟨u1, u2⟩ := hu
  obtain ⟨v1, v2⟩ := hv
  rw [e] at v1 v2
  rw [List.length_map] at v1
  have hl := (lines_at (b := bts b) (n := b.size) hi).2
  refine ⟨by rw [v1, u1], by omega, fun k hk => ?_, row_map u2 (fun k b o hk h => ⟨h.c0, h.c1⟩), row_map v2 (fun k b' o hk h => ?_)⟩
  · have := word_in hi (k := k) (by omega)
    simp only; omega
  · have hk' : k < ((linesOf (bts b) b.size).getD i []).length := by omega
    have e2 : (List.map (sh (a.size + 1)) ((linesOf (bts b) b.size).getD i [])).getD k (0, 0) = sh (a.size + 1) (((linesOf (bts b) b.size).getD i []).getD k (0, 0)) := by
      exact map_getD hk'
    rw [e2] at h
    have h0 := h.c0
    simp only [sh] at h0
    rw [text_b a b] at h0
    exact ⟨h0, h.c1⟩

set_option maxRecDepth 10000 in
set_option maxHeartbeats 4000000 in
theorem joinedGood (a b : ByteArray) (w : World) (ha : a.size ≤ 500) (hb : b.size ≤ 500) (hgood : Good (joined a b)) :
    Calls Try.prog 4 #[.string a, .string b] w fun e w' => e = .returned (.bool true) ∧ Below w.heap.size w w' := by
  have t0 : decide ((500 : Int) < (a.size : Int)) = false := by simp; omega
  have t1 : decide ((500 : Int) < (b.size : Int)) = false := by simp; omega
  have HG := hid hgood
  have GA := hid (good_joined.1 hgood).1
  have GB := hid (good_joined.1 hgood).2
  have hcs : (joined a b).size ≤ 4000 := by rw [joined_size]; omega
  clear hgood
  go_enter Try.func4, Try.ntmps4
  go_wp2_with fail
  refine (first_true _).mono ?_
  rintro e w1 ⟨rfl, hb1⟩
  go_wp2_with fail
  refine (lines_good a _ (by omega) GA.out).mono ?_
  rintro e w2 ⟨⟨xa, xn, xc⟩, rfl, hb2, hx, f, hxr, hxe⟩
  have X0 := hid (show xn = (linesOf (bts a) a.size).length from hx)
  have HXR := hid hxr
  have HXE := hid hxe
  clear hx hxr hxe
  go_wp2_with fail
  refine (lines_good b _ (by omega) GB.out).mono ?_
  rintro e w3 ⟨⟨ya, yn, yc⟩, rfl, hb3, hy, g, hyr, hye⟩
  have Y0 := hid (show yn = (linesOf (bts b) b.size).length from hy)
  have HYR := hid hyr
  have HYE := hid hye
  clear hy hyr hye
  go_wp2_with fail
  refine (lines_good (joined a b) _ hcs HG.out).mono ?_
  rintro e w4 ⟨⟨za, zn, zc⟩, rfl, hb4, hz, h, hzr, hze⟩
  have LOW := hid (more (more (more hb1 hb2) hb3) hb4)
  have hzn : zn = xn + yn := by
    rw [X0.out, Y0.out, show zn = _ from hz, lines_c, List.length_append, List.length_map]
  have hb24 := more hb3 hb4
  have XR := hid (show Row 1 SAt w4 ⟨xa, xn, xc⟩ f from HXR.out.on (fun _ _ _ h => cell_on hb24 h))
  have YR := hid (show Row 1 SAt w4 ⟨ya, yn, yc⟩ g from HYR.out.on (fun _ _ _ h => cell_on hb4 h))
  have ZR := hid (show Row 1 SAt w4 ⟨za, zn, zc⟩ h from hzr)
  have XE := hid (show ∀ i, i < xn → ElW a (linesOf (bts a) a.size) w4 i (f i) from fun i hi => (HXE.out i hi).on hb24)
  have YE := hid (show ∀ i, i < yn → ElW b (linesOf (bts b) b.size) w4 i (g i) from fun i hi => (HYE.out i hi).on hb4)
  have ZE := hid (show ∀ i, i < zn → ElW (joined a b) (linesOf (bts (joined a b)) (joined a b).size) w4 i (h i) from hze)
  have hxn : xn ≤ 500 := by have := lines_len (bts a) a.size; rw [X0.out]; omega
  have hyn : yn ≤ 500 := by have := lines_len (bts b) b.size; rw [Y0.out]; omega
  have ZN := hid hzn
  have t2 : ((zn : Int) != (xn : Int) + (yn : Int)) = false := by simp; omega
  have hzn2 : zn ≤ 1000 := by omega
  clear hb1 hb2 hb3 hb4 hb24 hz hzr hze hzn
  go_wp2_with fail
  go_loopg [14] zn (fun g x wr => ∃ i : Nat, g = zn - i ∧ x = .int .i64 i ∧ i ≤ zn ∧ Below w4.heap.size w4 wr)
  case atStart => exact ⟨0, rfl, rfl, Nat.zero_le _, Below.refl _ _⟩
  case round =>
    obtain ⟨i, hg, rfl, hi, hb⟩ := hrel
    have HB := hid hb
    clear hb
    by_cases li : i < zn
    · obtain ⟨bz, oz, ixz, hcz⟩ := ZR.out.idx undLines sizeLine i i rfl li
      have hev := ZE.out i li
      obtain ⟨⟨va, vn, vc⟩, hv⟩ : ∃ t, h i = t := ⟨_, rfl⟩
      rw [hv] at hcz hev
      have cz : wr.cell? ⟨bz, oz, none⟩ = some (.slice va vn vc) := cell_on HB.out hcz
      have bzl : bz < wr.heap.size := World.block_lt_of_cell? _ _ cz
      clear hcz hv
      by_cases lx : i < xn
      · obtain ⟨bx, ox, ixx, hcx⟩ := XR.out.idx undLines sizeLine i i rfl lx
        obtain ⟨⟨ua, un, uc⟩, hu⟩ : ∃ t, f i = t := ⟨_, rfl⟩
        have heu := XE.out i lx
        rw [hu] at hcx heu
        have cx : wr.cell? ⟨bx, ox, none⟩ = some (.slice ua un uc) := cell_on HB.out hcx
        have bxl : bx < wr.heap.size := World.block_lt_of_cell? _ _ cx
        obtain ⟨F, hP⟩ : ∃ F, Pair w4 ⟨ua, un, uc⟩ ⟨va, vn, vc⟩ 0 F := ⟨_, pair_a ha (by rw [← X0.out]; exact lx) heu hev⟩
        obtain rfl : vn = un := hP.n
        have hsm : vn ≤ 4000 := hP.small
        have t3 : decide (i < xn) = true := by simpa using lx
        have P := hid hP
        clear hcx hu heu hev hP
        go_wp2_with fail
        generalize hW : wr.alloc (.cells #[.slice ua vn uc] 29) = W
        have d0 : W.cell? ⟨wr.heap.size, 0, none⟩ = some (.slice ua vn uc) := by rw [← hW]; simp
        have HBW := hid (show Below wr.heap.size wr W by rw [← hW]; exact new (same wr) _)
        have ez : W.cell? ⟨bz, oz, none⟩ = some (.slice va vn vc) := cell_on HBW.out cz
        generalize wr.heap.size = B at d0
        have HD0 := hid d0
        have HEZ := hid ez
        clear hW
        go_region
        go_wp2_with fail
        clear d0 ez
        go_loopg [17] vn (fun g x wx => ∃ k : Nat, g = vn - k ∧ x = .int .i64 k ∧ k ≤ vn ∧ Below W.heap.size W wx)
        case atStart => exact ⟨0, rfl, rfl, Nat.zero_le _, below_drewN (Below.refl _ _) _⟩
        case round =>
          obtain ⟨k, hg3, rfl, hk, hbx⟩ := hrel
          have HX := hid hbx
          have d0 := cell_on HX.out HD0.out
          have ez := cell_on HX.out HEZ.out
          clear hbx
          by_cases lk : k < vn
          · obtain ⟨b1, o1, i1, h1⟩ := P.out.u.idx undWords sizeWord k k rfl lk
            obtain ⟨b2, o2, i2, h2⟩ := P.out.v.idx undWords sizeWord k k rfl lk
            have hsm2 := P.out.at_ k lk
            obtain ⟨⟨tx, p⟩, hF⟩ : ∃ x, F k = x := ⟨_, rfl⟩
            rw [hF] at h1 h2 hsm2
            simp only at hsm2
            have lo := more (more HB.out HBW.out) HX.out
            have c0 : wr.cell? ⟨b1, o1, none⟩ = some (.string tx) := cell_on lo h1.c0
            have c1 : wr.cell? ⟨b1, o1 + 1, none⟩ = some (.int .i64 p) := cell_on lo h1.c1
            have c2 : wr.cell? ⟨b2, o2, none⟩ = some (.string tx) := cell_on lo h2.c0
            have c3 : wr.cell? ⟨b2, o2 + 1, none⟩ = some (.int .i64 (p : Int)) := cell_on lo h2.c1
            have t9 : IntKind.i64.wrap ((p : Int) - (0 : Int)) = (p : Int) := by rw [IntKind.wrap_i64]; omega
            clear h1 h2 hF lo
            go_wp2_with fail
            go_quiet (fail)
            go_wp2_with fail
            go_roundg (vn - (k + 1))
            case measure => omega
            case rel => exact ⟨k + 1, rfl, by go_num, by omega, below_drewN HX.out _⟩
          · obtain rfl : k = vn := by omega
            have HF := hid (show Below w4.heap.size w4 wr from more (more HB.out HBW.out) HX.out)
            go_wp2_with fail
            go_roundg (zn - (i + 1))
            case measure => omega
            case rel => exact ⟨i + 1, rfl, by go_num, by omega, HF.out⟩
      · obtain ⟨d, rfl⟩ : ∃ d, i = xn + d := ⟨i - xn, by omega⟩
        have ly : d < yn := by have := ZN.out; omega
        rw [show ((xn + d : Nat) : Int) = (xn : Int) + (d : Int) from rfl] at ixz
        obtain ⟨bx, ox, ixx, hcx⟩ := YR.out.idx undLines sizeLine d ((xn : Int) + (d : Int) - (xn : Int)) (by omega) ly
        obtain ⟨⟨ua, un, uc⟩, hu⟩ : ∃ t, g d = t := ⟨_, rfl⟩
        have heu := YE.out d ly
        rw [hu] at hcx heu
        have cx : wr.cell? ⟨bx, ox, none⟩ = some (.slice ua un uc) := cell_on HB.out hcx
        have bxl : bx < wr.heap.size := World.block_lt_of_cell? _ _ cx
        obtain ⟨F, hP⟩ : ∃ F, Pair w4 ⟨ua, un, uc⟩ ⟨va, vn, vc⟩ (a.size + 1) F := ⟨_, pair_b ha hb (by rw [← Y0.out]; exact ly) heu (by rw [← X0.out]; exact hev)⟩
        obtain rfl : vn = un := hP.n
        have hsm : vn ≤ 4000 := hP.small
        have t3 : decide (xn + d < xn) = false := by simp
        have P := hid hP
        clear hcx hu heu hev hP
        go_wp2_with fail
        generalize hW : wr.alloc (.cells #[.slice ua vn uc] 29) = W
        have d0 : W.cell? ⟨wr.heap.size, 0, none⟩ = some (.slice ua vn uc) := by rw [← hW]; simp
        have HBW := hid (show Below wr.heap.size wr W by rw [← hW]; exact new (same wr) _)
        have ez : W.cell? ⟨bz, oz, none⟩ = some (.slice va vn vc) := cell_on HBW.out cz
        generalize wr.heap.size = B at d0
        have HD0 := hid d0
        have HEZ := hid ez
        clear hW
        go_region
        go_wp2_with fail
        clear d0 ez
        go_loopg [17] vn (fun g x wx => ∃ k : Nat, g = vn - k ∧ x = .int .i64 k ∧ k ≤ vn ∧ Below W.heap.size W wx)
        case atStart => exact ⟨0, rfl, rfl, Nat.zero_le _, below_drewN (Below.refl _ _) _⟩
        case round =>
          obtain ⟨k, hg3, rfl, hk, hbx⟩ := hrel
          have HX := hid hbx
          have d0 := cell_on HX.out HD0.out
          have ez := cell_on HX.out HEZ.out
          clear hbx
          by_cases lk : k < vn
          · obtain ⟨b1, o1, i1, h1⟩ := P.out.u.idx undWords sizeWord k k rfl lk
            obtain ⟨b2, o2, i2, h2⟩ := P.out.v.idx undWords sizeWord k k rfl lk
            have hsm2 := P.out.at_ k lk
            obtain ⟨⟨tx, p⟩, hF⟩ : ∃ x, F k = x := ⟨_, rfl⟩
            rw [hF] at h1 h2 hsm2
            simp only at hsm2
            have lo := more (more HB.out HBW.out) HX.out
            have c0 : wr.cell? ⟨b1, o1, none⟩ = some (.string tx) := cell_on lo h1.c0
            have c1 : wr.cell? ⟨b1, o1 + 1, none⟩ = some (.int .i64 p) := cell_on lo h1.c1
            have c2 : wr.cell? ⟨b2, o2, none⟩ = some (.string tx) := cell_on lo h2.c0
            have c3 : wr.cell? ⟨b2, o2 + 1, none⟩ = some (.int .i64 ((p : Int) + ((a.size : Int) + 1))) := cell_on lo h2.c1
            have t9 : IntKind.i64.wrap (((p : Int) + ((a.size : Int) + 1)) - ((a.size : Int) + 1)) = (p : Int) := by rw [IntKind.wrap_i64]; omega
            clear h1 h2 hF lo
            go_wp2_with fail
            go_quiet (fail)
            go_wp2_with fail
            go_roundg (vn - (k + 1))
            case measure => omega
            case rel => exact ⟨k + 1, rfl, by go_num, by omega, below_drewN HX.out _⟩
          · obtain rfl : k = vn := by omega
            have HF := hid (show Below w4.heap.size w4 wr from more (more HB.out HBW.out) HX.out)
            go_wp2_with fail
            go_roundg (zn - ((xn + d) + 1))
            case measure => omega
            case rel => exact ⟨(xn + d) + 1, rfl, by go_num, by omega, HF.out⟩
    · obtain rfl : i = zn := by omega
      go_wp2_with fail
      go_ret
      exact ⟨rfl, more LOW.out HB.out⟩

theorem lexJoined_any (a b : ByteArray) (w : World) : Calls Try.prog 4 #[.string a, .string b] w fun e w' => e = .returned (.bool true) ∧ Below w.heap.size w w' := by
  by_cases hl : (500 : Int) < a.size ∨ (500 : Int) < b.size
  · exact joinedLong a b w hl
  by_cases hg : Good (joined a b)
  · exact joinedGood a b w (by omega) (by omega) hg
  · exact joinedBad a b w (by omega) (by omega) hg

end Go.Proofs.Ytlakhndnoaoheaa.Lx
