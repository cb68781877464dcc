/-
  Same, SameIr, SameIr2, SameM: laid together.
-/
import Derived.Test.YtnodofbpogcheaaGreatJ0
import Derived.Deep.RegionWith
import Derived.Test.YtnodofbpogcheaaGreatSmall
/-
  Whether two functions are alike: the contract of plnref3.SameFunc.
-/
namespace Go.Proofs.YtnodofbpogcheaaGreat.Rd
open Go.RowKit View

set_option linter.unusedVariables false

def EqF (F G : FV) : Prop :=
  F.name.toList = G.name.toList ∧ F.out = G.out ∧ F.res = G.res ∧ Eqs F.par G.par F.P G.P ∧ F.blk.n = G.blk.n ∧
  ∀ j, j < F.blk.n → (F.B j).n = (G.B j).n ∧ ∀ k, k < (F.B j).n → EqI (F.I j k) (G.I j k) (F.A j k) (F.J j k) (G.A j k) (G.J j k)

set_option maxHeartbeats 1000000 in
theorem sameFunc_ref (F G : FV) (w : World) (hF : In w F) (hG : In w G) (hl : Light F) :
    Calls Tryz.prog 53 #[F.val, G.val] w fun e w' => ∃ r : Bool, e = .returned (.bool r) ∧ (r = true ↔ EqF F G) ∧ Below w.heap.size w w' := by
  by_cases e0 : F.name.toList = G.name.toList
  case neg =>
    have t0 : (F.name.toList == G.name.toList) = false := by simp [e0]
    go_enter Tryz.func53, Tryz.ntmps53
    go_wp2_with fail
    go_ret
    exact ⟨false, rfl, by simp [EqF, e0], new (new (same w) _) _⟩
  have t0 : (F.name.toList == G.name.toList) = true := by simp [e0]
  have E0 := hid e0; clear e0
  by_cases e1 : F.out = G.out
  case neg =>
    have t1 : (F.out == G.out) = false := by simp [e1]
    have t1' : (F.out != G.out) = true := by simp [e1]
    go_enter Tryz.func53, Tryz.ntmps53
    go_wp2_with fail
    go_ret
    exact ⟨false, rfl, by simp [EqF, e1], new (new (same w) _) _⟩
  have t1 : (F.out == G.out) = true := by simp [e1]
  have t1' : (F.out != G.out) = false := by simp [e1]
  have E1 := hid e1; clear e1
  by_cases e2 : F.res = G.res
  case neg =>
    have t2 : (F.res != G.res) = true := by simp [e2]
    go_enter Tryz.func53, Tryz.ntmps53
    go_wp2_with fail
    go_ret
    exact ⟨false, rfl, by simp [EqF, e2], new (new (same w) _) _⟩
  have t2 : (F.res != G.res) = false := by simp [e2]
  have E2 := hid e2; clear e2
  go_enter Tryz.func53, Tryz.ntmps53
  go_wp2_with fail
  refine (ints_any F.par G.par F.P G.P _ (hF.par.on (new (new (same w) _) _)) (hG.par.on (new (new (same w) _) _)) (by have := hl.par; omega)).mono ?_
  rintro e w1 ⟨r1, rfl, hr1, q, rfl⟩
  cases r1
  · have n1 : ¬ Eqs F.par G.par F.P G.P := by simpa using hr1
    clear hr1
    go_wp2_with fail
    go_ret
    exact ⟨false, rfl, by simp [EqF, n1], below_drewN (new (new (same w) _) _) q⟩
  have n1 : Eqs F.par G.par F.P G.P := by simpa using hr1
  have N1 := hid n1
  clear hr1 n1
  by_cases e3 : F.blk.n = G.blk.n
  case neg =>
    have t3 : ((F.blk.n : Int) != G.blk.n) = true := by simp; omega
    go_wp2_with fail
    go_ret
    exact ⟨false, rfl, by simp [EqF, e3], below_drewN (new (new (same w) _) _) q⟩
  have t3 : ((F.blk.n : Int) != G.blk.n) = false := by simp; omega
  have E3 := hid e3; clear e3
  go_wp2_with fail
  go_loopw [5] (fun i wr => ∃ k : Nat, k ≤ F.blk.n ∧ i = .int .i64 k ∧ (∀ j, j < k → (F.B j).n = (G.B j).n ∧ ∀ k, k < (F.B j).n → EqI (F.I j k) (G.I j k) (F.A j k) (F.J j k) (G.A j k) (G.J j k)) ∧ wr.cell? ⟨w.heap.size, 4, none⟩ = some (.slice F.blk.a F.blk.n F.blk.c) ∧ wr.cell? ⟨w.heap.size + 1, 4, none⟩ = some (.slice G.blk.a G.blk.n G.blk.c) ∧ Below w.heap.size w wr) (fun i _ => F.blk.n - (intOf i).toNat)
  case atStart => exact ⟨0, Nat.zero_le _, rfl, fun j hj => by omega, by simp [World.cell?_alloc_old], by simp, below_drewN (new (new (same w) _) _) q⟩
  case round =>
    obtain ⟨k, hk, rfl, hall, k1, k2, hb⟩ := hrel
    have HA := hid hall
    clear hall
    have g4 := hl.blk
    by_cases hlt : k < F.blk.n
    · have g5 := hl.ins k hlt
      have hlt' : k < G.blk.n := by have := E3.out; omega
      obtain ⟨b, o, hix, hc⟩ := (hF.blk.on hb).at hlt
      obtain ⟨b', o', hix', hc'⟩ := (hG.blk.on hb).at hlt'
      go_wp2
      go_region
      by_cases e4 : (F.B k).n = (G.B k).n
      case neg =>
        have t4 : (((F.B k).n : Int) != (G.B k).n) = true := by simp; omega
        go_wp2
        go_ret
        exact ⟨false, rfl, by simp only [Bool.false_eq_true, false_iff]; intro h; exact e4 (h.2.2.2.2.2 k hlt).1, hb.drew⟩
      have t4 : (((F.B k).n : Int) != (G.B k).n) = false := by simp; omega
      have E4 := hid e4; clear e4
      go_wp2
      go_loopw [8] (fun i wx => ∃ t : Nat, t ≤ (F.B k).n ∧ i = .int .i64 t ∧ (∀ i, i < t → EqI (F.I k i) (G.I k i) (F.A k i) (F.J k i) (G.A k i) (G.J k i)) ∧ wx.cell? ⟨w.heap.size, 4, none⟩ = some (.slice F.blk.a F.blk.n F.blk.c) ∧ wx.cell? ⟨w.heap.size + 1, 4, none⟩ = some (.slice G.blk.a G.blk.n G.blk.c) ∧ Below w.heap.size w wx) (fun i _ => (F.B k).n - (intOf i).toNat)
      case atStart => exact ⟨0, Nat.zero_le _, rfl, fun j hj => by omega, by simpa using k1, by simpa using k2, hb.drew⟩
      case round =>
        obtain ⟨t, ht, rfl, hall, j1, j2, hbx⟩ := hrel
        have HB := hid hall
        clear hall
        by_cases htl : t < (F.B k).n
        · have htl' : t < (G.B k).n := by have := E4.out; omega
          obtain ⟨ib, io, hiy, c0, c1, c2, c3, c4, c5, c6⟩ := ((hF.ins k hlt).on hbx).at htl
          obtain ⟨ib', io', hiy', d0, d1, d2, d3, d4, d5, d6⟩ := ((hG.ins k hlt').on hbx).at htl'
          have HS := hid (sameIns_any (F.I k t) (G.I k t) (F.A k t) (F.J k t) (G.A k t) (G.J k t) wr.drew ((hF.args k hlt t htl).on hbx.drew) ((hF.into k hlt t htl).on hbx.drew) ((hG.args k hlt' t htl').on hbx.drew) ((hG.into k hlt' t htl').on hbx.drew) (by have := hl.args k hlt t htl; omega) (by have := hl.into k hlt t htl; omega))
          go_wp2
          go_region_with (go_at_call 105; refine (HS.out).mono ?_; rintro e w2 ⟨r, rfl, hr, hb2⟩)
          all_goals
            have hb3 := more hbx.drew hb2
            have l1 := cell_on hb2 (show wr.drew.cell? ⟨w.heap.size, 4, none⟩ = _ from j1)
            have l2 := cell_on hb2 (show wr.drew.cell? ⟨w.heap.size + 1, 4, none⟩ = _ from j2)
            clear hb2 HS
            cases r
            · have n2 : ¬ EqI (F.I k t) (G.I k t) (F.A k t) (F.J k t) (G.A k t) (G.J k t) := by simpa using hr
              clear hr
              go_wp2
              go_ret
              exact ⟨false, rfl, by simp only [Bool.false_eq_true, false_iff]; intro h; exact n2 ((h.2.2.2.2.2 k hlt).2 t htl), hb3⟩
            · have n2 : EqI (F.I k t) (G.I k t) (F.A k t) (F.J k t) (G.A k t) (G.J k t) := by simpa using hr
              have N2 := hid n2
              clear hr n2
              go_wp2
              go_round
              case rel => exact ⟨t + 1, by omega, by go_num, upto HB.out N2.out, l1, l2, hb3⟩
              case measure => simp [intOf]; omega
        · obtain rfl : t = (F.B k).n := by omega
          go_wp2
          go_round
          case rel => exact ⟨k + 1, by omega, by go_num, upto HA.out ⟨E4.out, HB.out⟩, j1, j2, hbx⟩
          case measure => simp [intOf]; omega
    · obtain rfl : k = F.blk.n := by omega
      go_wp2
      go_ret
      exact ⟨true, rfl, by simp only [true_iff]; exact ⟨E0.out, E1.out, E2.out, N1.out, E3.out, HA.out⟩, hb⟩

end Go.Proofs.YtnodofbpogcheaaGreat.Rd

/-
  Whether lists, instructions, blocks and functions are alike, by the program: slices.Equal, slices.EqualFunc, ir.sameIns.
-/
namespace Go.Proofs.YtnodofbpogcheaaGreat.Mod
open Go.RowKit View Rd Num Opn Copy

set_option linter.unusedVariables false

set_option maxHeartbeats 1000000 in
theorem equal33 (s t : Sl) (f g : Nat → Int) (w : World) (hs : Ints w s f) (ht : Ints w t g) (hsm : s.n ≤ 1000) :
    Calls Tryz.prog 165 #[.slice s.a s.n s.c, .slice t.a t.n t.c] w fun e w' => ∃ r : Bool, e = .returned (.bool r) ∧ (r = true ↔ Eqs s t f g) ∧ ∃ q, w' = w.drewN q := by
  by_cases hn : s.n = t.n
  · have hn' : ((s.n : Int) != (t.n : Int)) = false := by simp [hn]
    have HN : Hid (s.n = t.n) := hn
    clear hn
    go_enter Tryz.func165, Tryz.ntmps165
    go_wp2
    go_loopw [13] (fun i wr => ∃ k : Nat, k ≤ s.n ∧ i = .int .i64 k ∧ (∀ i, i < k → f i = g i) ∧ ∃ q, wr = w.drewN q) (fun i _ => s.n - (intOf i).toNat)
    case atStart => exact ⟨0, Nat.zero_le _, rfl, fun i hi => by omega, 0, rfl⟩
    case round =>
      obtain ⟨k, hk, rfl, hall, q, rfl⟩ := hrel
      have HA : Hid (∀ i, i < k → f i = g i) := hall
      clear hall
      by_cases hlt : k < s.n
      · obtain ⟨b, o, hix, hc⟩ := hs.at hlt
        obtain ⟨b', o', hix', hc'⟩ := ht.at (k := k) (by have := HN.out; omega)
        go_wp2
        go_region
        by_cases hfg : f k = g k
        · have hfg' : (f k != g k) = false := by simp [hfg]
          have HE := hid hfg
          clear hfg
          go_wp2
          go_round
          case rel => exact ⟨k + 1, by omega, by go_num, upto HA.out HE.out, q + 1, rfl⟩
          case measure => simp [intOf]; omega
        · have hfg' : (f k != g k) = true := by simp [hfg]
          go_wp2
          go_ret
          exact ⟨false, rfl, by simp only [Bool.false_eq_true, false_iff]; intro h; exact hfg (h.2 k hlt), q + 1, rfl⟩
      · obtain rfl : k = s.n := by omega
        go_wp2
        go_ret
        exact ⟨true, rfl, by simp only [true_iff]; exact ⟨HN.out, HA.out⟩, q, rfl⟩
  · have hn' : ((s.n : Int) != (t.n : Int)) = true := by simp; omega
    go_enter Tryz.func165, Tryz.ntmps165
    go_wp2
    go_ret
    exact ⟨false, rfl, by simp [Eqs, hn], 0, rfl⟩

theorem at56 {w : World} {s : Sl} {f : Nat → Int} (h : Ints w s f) {k : Nat} (hk : k < s.n) :
    ∃ b o, (∀ wx, (Instr.indexAt 45 (.slice s.a s.n s.c) (.int .i64 k)).run Tryz.prog wx = .ok (.pointer (some ⟨b, o, none⟩)) wx) ∧ w.cell? ⟨b, o, none⟩ = some (.int .i64 (f k)) := by
  obtain ⟨b, off, ha, hc⟩ := h.2.2.2 (by omega)
  exact ⟨b, off + k * 1, index_row ha underlying45 size2 hk, by rw [Nat.mul_one]; exact hc k hk⟩

set_option maxHeartbeats 1000000 in
theorem longs_any (s t : Sl) (f g : Nat → Int) (w : World) (hs : Ints w s f) (ht : Ints w t g) (hsm : s.n ≤ 1000) :
    Calls Tryz.prog 52 #[.slice s.a s.n s.c, .slice t.a t.n t.c] w fun e w' => ∃ r : Bool, e = .returned (.bool r) ∧ (r = true ↔ Eqs s t f g) ∧ ∃ q, w' = w.drewN q := by
  by_cases hn : s.n = t.n
  · have hn' : ((s.n : Int) != (t.n : Int)) = false := by simp [hn]
    have HN : Hid (s.n = t.n) := hn
    clear hn
    go_enter Tryz.func52, Tryz.ntmps52
    go_wp2
    go_loopw [5] (fun i wr => ∃ k : Nat, k ≤ s.n ∧ i = .int .i64 k ∧ (∀ i, i < k → f i = g i) ∧ ∃ q, wr = w.drewN q) (fun i _ => s.n - (intOf i).toNat)
    case atStart => exact ⟨0, Nat.zero_le _, rfl, fun i hi => by omega, 0, rfl⟩
    case round =>
      obtain ⟨k, hk, rfl, hall, q, rfl⟩ := hrel
      have HA : Hid (∀ i, i < k → f i = g i) := hall
      clear hall
      by_cases hlt : k < s.n
      · obtain ⟨b, o, hix, hc⟩ := at56 hs hlt
        obtain ⟨b', o', hix', hc'⟩ := at56 ht (k := k) (by have := HN.out; omega)
        go_wp2
        go_region
        by_cases hfg : f k = g k
        · have hfg' : (f k != g k) = false := by simp [hfg]
          have HE := hid hfg
          clear hfg
          go_wp2
          go_round
          case rel => exact ⟨k + 1, by omega, by go_num, upto HA.out HE.out, q + 1, rfl⟩
          case measure => simp [intOf]; omega
        · have hfg' : (f k != g k) = true := by simp [hfg]
          go_wp2
          go_ret
          exact ⟨false, rfl, by simp only [Bool.false_eq_true, false_iff]; intro h; exact hfg (h.2 k hlt), q + 1, rfl⟩
      · obtain rfl : k = s.n := by omega
        go_wp2
        go_ret
        exact ⟨true, rfl, by simp only [true_iff]; exact ⟨HN.out, HA.out⟩, q, rfl⟩
  · have hn' : ((s.n : Int) != (t.n : Int)) = true := by simp; omega
    go_enter Tryz.func52, Tryz.ntmps52
    go_wp2
    go_ret
    exact ⟨false, rfl, by simp [Eqs, hn], 0, rfl⟩

end Go.Proofs.YtnodofbpogcheaaGreat.Mod

/-
  Whether blocks, functions, externs, globals, tables and modules are alike, by the program: ir.SameFunc, ir.Same.
-/
namespace Go.Proofs.YtnodofbpogcheaaGreat.Mod
open Go.RowKit View Rd Num Opn Copy

set_option linter.unusedVariables false

/-- Block j of two functions, alike. -/
def EqB (F G : FV) (j : Nat) : Prop := (F.B j).n = (G.B j).n ∧ ∀ k, k < (F.B j).n → EqI (F.I j k) (G.I j k) (F.A j k) (F.J j k) (G.A j k) (G.J j k)

end Go.Proofs.YtnodofbpogcheaaGreat.Mod

/-
  Whether modules are alike, by the program (ir.Same), and how great they are (ir.Whole, plnref3.Whole).
-/
namespace Go.Proofs.YtnodofbpogcheaaGreat.Mod
open Go.RowKit View Rd Num Opn Copy

set_option linter.unusedVariables false

def EqE (v u : EV) (f g : Nat → Int) : Prop := v.name.toList = u.name.toList ∧ v.res = u.res ∧ Eqs v.par u.par f g
def EqG (v u : GV) (f g : Nat → Int) : Prop := v.name.toList = u.name.toList ∧ Eqs v.cel u.cel f g

/-- Two modules alike. -/
structure EqM (M O : MV) : Prop where
  ext : M.ext.n = O.ext.n ∧ ∀ i, i < M.ext.n → EqE (M.E i) (O.E i) (M.EP i) (O.EP i)
  glo : M.glo.n = O.glo.n ∧ ∀ i, i < M.glo.n → EqG (M.G i) (O.G i) (M.GC i) (O.GC i)
  tab : M.tab.n = O.tab.n ∧ ∀ i, i < M.tab.n → EqG (M.T i) (O.T i) (M.TF i) (O.TF i)
  fns : M.fns.n = O.fns.n ∧ ∀ i, i < M.fns.n → EqF (M.F i) (O.F i)

end Go.Proofs.YtnodofbpogcheaaGreat.Mod
