/-
  Wfx, ChkTi: laid together.
-/
import Derived.Test.YtbmfimojhcdnbaaGreatJ19
import Derived.Test.YtbmfimojhcdnbaaGreatJ9
import Derived.Test.YtbmfimojhcdnbaaGreatJ11
import Derived.Test.YtbmfimojhcdnbaaGreatChkT
/-
  wf: whether an Ins gives and takes those types.
-/
namespace Go.Proofs.YtbmfimojhcdnbaaGreat.Wf
open Go.RowKit View Rd Num Opn Copy Srt Go.Proofs.YtbmfimojhcdnbaaGreat.Mod Go.Proofs.YtbmfimojhcdnbaaGreat.Chk

set_option linter.unusedVariables false

/-- An Ins beside the types of its function's values. -/
abbrev tval (v : IV) (s : Sl) : Value := .agg #[.int .i64 v.op, .int .i64 v.ty, .int .i64 v.to, .int .i64 v.sym, .int .i64 v.num, .slice v.args.a v.args.n v.args.c, .slice v.into.a v.into.n v.into.c, .slice s.a s.n s.c]

/-- It gives that type and takes just values of those types. -/
def IsT (v : IV) (got : Nat → Int) (gives : Int) (n : Nat) (g : Nat → Int) : Prop := v.ty = gives ∧ v.args.n = n ∧ ∀ i, i < n → got i = g i

set_option maxHeartbeats 1000000 in
theorem eqf_any (s t : Sl) (f g T : Nat → Int) (c : Addr) (w : World) (hn : s.n ≤ 20) (hs : ∀ wx, Below w.heap.size w wx → Ints wx s f) (ht : ∀ wx, Below w.heap.size w wx → Ints wx t g)
    (hc : ∀ k, k < s.n → ∀ wx, Below w.heap.size w wx → Calls Tryz.prog 110 #[.int .i64 (f k), .int .i64 (g k), .pointer (some c)] wx fun e w' => Ans (fun r => r = true ↔ T k = g k) wx e w') :
    Calls Tryz.prog 109 #[.slice s.a s.n s.c, .slice t.a t.n t.c, .func (.func 110) #[] #[.pointer (some c)]] w fun e w' => Ans (fun r => r = true ↔ s.n = t.n ∧ ∀ i, i < t.n → T i = g i) w e w' := by
  by_cases h : s.n = t.n
  · have hn' : ((s.n : Int) != (t.n : Int)) = false := by simp [h]
    have HN := hid h
    clear h
    go_enter Tryz.func109, Tryz.ntmps109
    go_wp2_with fail
    go_loopw [17] (fun iv wr => ∃ k : Nat, k ≤ s.n ∧ iv = .int .i64 k ∧ (∀ i, i < k → T i = g i) ∧ Below w.heap.size w wr) (fun iv _ => s.n - (intOf iv).toNat)
    case atStart => exact ⟨0, Nat.zero_le _, rfl, fun i hi => by omega, same w⟩
    case round =>
      obtain ⟨k, hk, rfl, hall, hb⟩ := hrel
      have HA := hid (And.intro hall hb)
      by_cases lk : k < s.n
      · have lk' : k < t.n := by have := HN.out; omega
        obtain ⟨b1, o1, hx1, hc1⟩ := (hs wr hb).at lk
        obtain ⟨b2, o2, hx2, hc2⟩ := (ht wr hb).at lk'
        clear hall hb
        go_wp2_with fail
        refine (hc k lk _ HA.out.2).mono ?_
        rintro e w2 ⟨r, rfl, hr, hb2⟩
        have HR := hid hr
        have B2 := hid (View.more HA.out.2 hb2)
        clear hr hb2 hc1 hc2
        cases r with
        | false =>
          have D := hid (show ¬ (s.n = t.n ∧ ∀ i, i < t.n → T i = g i) from fun h => by have := HR.out.2 (h.2 k lk'); cases this)
          go_wp2_with fail
          go_ret
          exact ⟨false, rfl, ⟨fun h => (by cases h), fun h => absurd h D.out⟩, B2.out⟩
        | true =>
          have P := hid (HR.out.1 rfl)
          go_wp2_with fail
          go_round
          case rel => exact ⟨k + 1, by omega, by go_num, upto1 HA.out.1 P.out, B2.out⟩
          case measure => simp [intOf]; omega
      · obtain rfl : k = s.n := by omega
        clear hall hb
        go_wp2_with fail
        go_ret
        exact ⟨true, rfl, ⟨fun _ => ⟨HN.out, fun i hi => HA.out.1 i (by have := HN.out; omega)⟩, fun _ => rfl⟩, HA.out.2⟩
  · have hn' : ((s.n : Int) != (t.n : Int)) = true := by simp; omega
    have HN := hid h
    clear h
    go_enter Tryz.func109, Tryz.ntmps109
    go_wp2_with fail
    go_ret
    exact ⟨false, rfl, ⟨fun h => (by cases h), fun h => absurd h.1 HN.out⟩, same w⟩

theorem isc_any (c : Nat) (s : Sl) (T : Nat → Int) (x y : Int) (w : World) (h0 : 0 ≤ x) (h1 : x < s.n) (hc : w.cell? ⟨c, 7, none⟩ = some (.slice s.a s.n s.c)) (hT : Ints w s T) :
    Calls Tryz.prog 110 #[.int .i64 x, .int .i64 y, .pointer (some ⟨c, 0, none⟩)] w fun e w' => Ans (fun r => r = true ↔ T x.toNat = y) w e w' := by
  obtain ⟨a, rfl⟩ : ∃ a : Nat, x = a := ⟨x.toNat, by omega⟩
  have la : a < s.n := by omega
  obtain ⟨tb, to_, htx, htc⟩ := hT.at la
  clear hT h0 h1
  by_cases h : T a = y
  · have t1 : (T a == y) = true := by simpa using h
    have HT := hid h
    clear h
    go_enter Tryz.func110, Tryz.ntmps110
    go_wp2_with fail
    go_ret
    exact ⟨true, rfl, ⟨fun _ => by simpa using HT.out, fun _ => rfl⟩, same w⟩
  · have t1 : (T a == y) = false := by simpa using h
    have HT := hid h
    clear h
    go_enter Tryz.func110, Tryz.ntmps110
    go_wp2_with fail
    go_ret
    exact ⟨false, rfl, ⟨fun h => (by cases h), fun h => absurd (by simpa using h) HT.out⟩, same w⟩

set_option maxHeartbeats 1000000 in
theorem is_any (v : IV) (s t : Sl) (A T g : Nat → Int) (gives : Int) (w : World) (hA : Ints w v.args A) (hT : Ints w s T) (ht : Ints w t g) (hr : ∀ i, i < v.args.n → 0 ≤ A i ∧ A i < s.n) (h20 : v.args.n ≤ 20) :
    Calls Tryz.prog 93 #[tval v s, .int .i64 gives, .slice t.a t.n t.c] w fun e w' => Ans (fun r => r = true ↔ IsT v (fun i => T (A i).toNat) gives t.n g) w e w' := by
  obtain ⟨W, hW⟩ : ∃ W, w.alloc (.cells #[.int .i64 v.op, .int .i64 v.ty, .int .i64 v.to, .int .i64 v.sym, .int .i64 v.num, .slice v.args.a v.args.n v.args.c, .slice v.into.a v.into.n v.into.c, .slice s.a s.n s.c] 87) = W := ⟨_, rfl⟩
  have LW := hid (show Below w.heap.size w W by rw [← hW]; exact new (same w) _)
  have X := hid (show W.cell? ⟨w.heap.size, 1, none⟩ = some (.int .i64 v.ty) ∧ W.cell? ⟨w.heap.size, 5, none⟩ = some (.slice v.args.a v.args.n v.args.c) ∧ W.cell? ⟨w.heap.size, 7, none⟩ = some (.slice s.a s.n s.c) by rw [← hW]; exact ⟨by simp, by simp, by simp⟩)
  obtain ⟨x1, x5, x7⟩ := X.out
  have IA := hid (hA.on LW.out)
  have IT := hid (hT.on LW.out)
  have Ig := hid (ht.on LW.out)
  have HR := hid hr
  clear hA hT ht hr
  by_cases h : v.ty = gives
  · have t1 : (v.ty == gives) = true := by simpa using h
    have HT := hid h
    clear h
    go_enter Tryz.func93, Tryz.ntmps93
    go_wp2_with (go_at_call 109; refine (eqf_any v.args t A g (fun i => T (A i).toNat) ⟨w.heap.size, 0, none⟩ W h20 (fun wx h => IA.out.on h) (fun wx h => Ig.out.on h) (fun k hk wx h => isc_any w.heap.size s T (A k) (g k) wx (HR.out k hk).1 (HR.out k hk).2 (cell_on h X.out.2.2) (IT.out.on h))).mono ?_; rintro e w1 ⟨r, rfl, hr, hb⟩; have H := hid hr; have B := hid hb; clear hr hb)
    go_ret
    exact ⟨r, rfl, H.out.trans ⟨fun h => ⟨HT.out, h⟩, fun h => h.2⟩, View.more LW.out B.out⟩
  · have t1 : (v.ty == gives) = false := by simpa using h
    have HT := hid h
    clear h
    go_enter Tryz.func93, Tryz.ntmps93
    go_wp2_with fail
    go_ret
    exact ⟨false, rfl, ⟨fun h => (by cases h), fun h => absurd h.1 HT.out⟩, LW.out⟩

end Go.Proofs.YtbmfimojhcdnbaaGreat.Wf

/-
  What an Op asks of types, Op by Op.
-/
namespace Go.Proofs.YtbmfimojhcdnbaaGreat.Chk
open Go.RowKit View Rd Num Opn Copy Go.Proofs.YtbmfimojhcdnbaaGreat.Mod

set_option linter.unusedVariables false

theorem fi_1 {M : MV} {F : FV} {v : IV} {gn : Nat} {g : Nat → Int} (h : v.op = 1) : FitI M F v gn g ↔ (v.ty = 1 ∨ v.ty = 2 ∧ (v.num = 0 ∨ v.num = 1)) := by
  unfold FitI
  simp only [h]
  exact Iff.rfl

theorem fi_2 {M : MV} {F : FV} {v : IV} {gn : Nat} {g : Nat → Int} (h : v.op = 2) : FitI M F v gn g ↔ (v.ty = 4) := by
  unfold FitI
  simp only [h]
  exact Iff.rfl

theorem fi_3 {M : MV} {F : FV} {v : IV} {gn : Nat} {g : Nat → Int} (h : v.op = 3) : FitI M F v gn g ↔ (v.ty = 3) := by
  unfold FitI
  simp only [h]
  exact Iff.rfl

theorem fi_4 {M : MV} {F : FV} {v : IV} {gn : Nat} {g : Nat → Int} (h : v.op = 4) : FitI M F v gn g ↔ (v.ty = 1 ∧ g 0 = 1 ∧ g 1 = 1) := by
  unfold FitI
  simp only [h]
  exact Iff.rfl

theorem fi_5 {M : MV} {F : FV} {v : IV} {gn : Nat} {g : Nat → Int} (h : v.op = 5) : FitI M F v gn g ↔ (v.ty = 1 ∧ g 0 = 1 ∧ g 1 = 1) := by
  unfold FitI
  simp only [h]
  exact Iff.rfl

theorem fi_6 {M : MV} {F : FV} {v : IV} {gn : Nat} {g : Nat → Int} (h : v.op = 6) : FitI M F v gn g ↔ (v.ty = 1 ∧ g 0 = 1 ∧ g 1 = 1) := by
  unfold FitI
  simp only [h]
  exact Iff.rfl

theorem fi_7 {M : MV} {F : FV} {v : IV} {gn : Nat} {g : Nat → Int} (h : v.op = 7) : FitI M F v gn g ↔ (v.ty = 1 ∧ g 0 = 1 ∧ g 1 = 1) := by
  unfold FitI
  simp only [h]
  exact Iff.rfl

theorem fi_8 {M : MV} {F : FV} {v : IV} {gn : Nat} {g : Nat → Int} (h : v.op = 8) : FitI M F v gn g ↔ (v.ty = 1 ∧ g 0 = 1 ∧ g 1 = 1) := by
  unfold FitI
  simp only [h]
  exact Iff.rfl

theorem fi_9 {M : MV} {F : FV} {v : IV} {gn : Nat} {g : Nat → Int} (h : v.op = 9) : FitI M F v gn g ↔ (v.ty = 1 ∧ g 0 = 1 ∧ g 1 = 1) := by
  unfold FitI
  simp only [h]
  exact Iff.rfl

theorem fi_10 {M : MV} {F : FV} {v : IV} {gn : Nat} {g : Nat → Int} (h : v.op = 10) : FitI M F v gn g ↔ (v.ty = 1 ∧ g 0 = 1 ∧ g 1 = 1) := by
  unfold FitI
  simp only [h]
  exact Iff.rfl

theorem fi_11 {M : MV} {F : FV} {v : IV} {gn : Nat} {g : Nat → Int} (h : v.op = 11) : FitI M F v gn g ↔ (v.ty = 1 ∧ g 0 = 1 ∧ g 1 = 1) := by
  unfold FitI
  simp only [h]
  exact Iff.rfl

theorem fi_12 {M : MV} {F : FV} {v : IV} {gn : Nat} {g : Nat → Int} (h : v.op = 12) : FitI M F v gn g ↔ (v.ty = 1 ∧ g 0 = 1 ∧ g 1 = 1) := by
  unfold FitI
  simp only [h]
  exact Iff.rfl

theorem fi_13 {M : MV} {F : FV} {v : IV} {gn : Nat} {g : Nat → Int} (h : v.op = 13) : FitI M F v gn g ↔ (v.ty = 1 ∧ g 0 = 1 ∧ g 1 = 1) := by
  unfold FitI
  simp only [h]
  exact Iff.rfl

theorem fi_14 {M : MV} {F : FV} {v : IV} {gn : Nat} {g : Nat → Int} (h : v.op = 14) : FitI M F v gn g ↔ (v.ty = 2 ∧ g 0 = 1 ∧ g 1 = 1) := by
  unfold FitI
  simp only [h]
  exact Iff.rfl

theorem fi_15 {M : MV} {F : FV} {v : IV} {gn : Nat} {g : Nat → Int} (h : v.op = 15) : FitI M F v gn g ↔ (v.ty = 2 ∧ g 0 = 1 ∧ g 1 = 1) := by
  unfold FitI
  simp only [h]
  exact Iff.rfl

theorem fi_16 {M : MV} {F : FV} {v : IV} {gn : Nat} {g : Nat → Int} (h : v.op = 16) : FitI M F v gn g ↔ (v.ty = 2 ∧ g 0 = 2) := by
  unfold FitI
  simp only [h]
  exact Iff.rfl

theorem fi_17 {M : MV} {F : FV} {v : IV} {gn : Nat} {g : Nat → Int} (h : v.op = 17) : FitI M F v gn g ↔ (g 0 = 2 ∧ g 1 = v.ty ∧ g 2 = v.ty) := by
  unfold FitI
  simp only [h]
  exact Iff.rfl

theorem fi_18 {M : MV} {F : FV} {v : IV} {gn : Nat} {g : Nat → Int} (h : v.op = 18) : FitI M F v gn g ↔ (v.ty = 3) := by
  unfold FitI
  simp only [h]
  exact Iff.rfl

theorem fi_19 {M : MV} {F : FV} {v : IV} {gn : Nat} {g : Nat → Int} (h : v.op = 19) : FitI M F v gn g ↔ (v.ty = 3 ∧ g 0 = 3 ∧ g 1 = 1) := by
  unfold FitI
  simp only [h]
  exact Iff.rfl

theorem fi_20 {M : MV} {F : FV} {v : IV} {gn : Nat} {g : Nat → Int} (h : v.op = 20) : FitI M F v gn g ↔ (v.ty = 1 ∧ g 0 = 3) := by
  unfold FitI
  simp only [h]
  exact Iff.rfl

theorem fi_21 {M : MV} {F : FV} {v : IV} {gn : Nat} {g : Nat → Int} (h : v.op = 21) : FitI M F v gn g ↔ (g 0 = 3 ∧ g 1 = 1) := by
  unfold FitI
  simp only [h]
  exact Iff.rfl

theorem fi_22 {M : MV} {F : FV} {v : IV} {gn : Nat} {g : Nat → Int} (h : v.op = 22) : FitI M F v gn g ↔ (((M.F v.sym.toNat).par.n = gn ∧ ∀ i, i < gn → g i = (M.F v.sym.toNat).P i) ∧ v.ty = (M.F v.sym.toNat).res) := by
  unfold FitI
  simp only [h]
  exact Iff.rfl

theorem fi_23 {M : MV} {F : FV} {v : IV} {gn : Nat} {g : Nat → Int} (h : v.op = 23) : FitI M F v gn g ↔ (((M.E v.sym.toNat).par.n = gn ∧ ∀ i, i < gn → g i = M.EP v.sym.toNat i) ∧ v.ty = (M.E v.sym.toNat).res) := by
  unfold FitI
  simp only [h]
  exact Iff.rfl

theorem fi_24 {M : MV} {F : FV} {v : IV} {gn : Nat} {g : Nat → Int} (h : v.op = 24) : FitI M F v gn g ↔ (v.ty = 4 ∧ g 0 = 1) := by
  unfold FitI
  simp only [h]
  exact Iff.rfl

theorem fi_25 {M : MV} {F : FV} {v : IV} {gn : Nat} {g : Nat → Int} (h : v.op = 25) : FitI M F v gn g ↔ (g 0 = 4 ∧ v.ty ≠ 3) := by
  unfold FitI
  simp only [h]
  exact Iff.rfl

theorem fi_26 {M : MV} {F : FV} {v : IV} {gn : Nat} {g : Nat → Int} (h : v.op = 26) : FitI M F v gn g ↔ (∀ i, i < gn → g i = v.ty) := by
  unfold FitI
  simp only [h]
  exact Iff.rfl

theorem fi_27 {M : MV} {F : FV} {v : IV} {gn : Nat} {g : Nat → Int} (h : v.op = 27) : FitI M F v gn g ↔ (True) := by
  unfold FitI
  simp only [h]
  exact Iff.rfl

theorem fi_28 {M : MV} {F : FV} {v : IV} {gn : Nat} {g : Nat → Int} (h : v.op = 28) : FitI M F v gn g ↔ (g 0 = 2) := by
  unfold FitI
  simp only [h]
  exact Iff.rfl

theorem fi_29 {M : MV} {F : FV} {v : IV} {gn : Nat} {g : Nat → Int} (h : v.op = 29) : FitI M F v gn g ↔ (if F.res = 0 then gn = 0 else gn = 1 ∧ g 0 = F.res) := by
  unfold FitI
  simp only [h]
  exact Iff.rfl

theorem fi_30 {M : MV} {F : FV} {v : IV} {gn : Nat} {g : Nat → Int} (h : v.op = 30) : FitI M F v gn g ↔ (True) := by
  unfold FitI
  simp only [h]
  exact Iff.rfl

end Go.Proofs.YtbmfimojhcdnbaaGreat.Chk
