/-
  Whether modules are alike, by the program (ir.Same), and how great they are (ir.Whole, plnref3.Whole).
-/
import Derived.Test.YtclioagemjpnoaaJ2
namespace Go.Proofs.Ytclioagemjpnoaa.Mod
open Go.RowKit View Rd Num Opn Copy

set_option linter.unusedVariables false

def EqE (v u : EV) (f g : Nat → Int) : Prop := v.name.toList = u.name.toList ∧ v.res = u.res ∧ Eqs v.par u.par f g
def EqG (v u : GV) (f g : Nat → Int) : Prop := v.name.toList = u.name.toList ∧ Eqs v.cel u.cel f g

/-- Two modules alike. -/
structure EqM (M O : MV) : Prop where
  ext : M.ext.n = O.ext.n ∧ ∀ i, i < M.ext.n → EqE (M.E i) (O.E i) (M.EP i) (O.EP i)
  glo : M.glo.n = O.glo.n ∧ ∀ i, i < M.glo.n → EqG (M.G i) (O.G i) (M.GC i) (O.GC i)
  tab : M.tab.n = O.tab.n ∧ ∀ i, i < M.tab.n → EqG (M.T i) (O.T i) (M.TF i) (O.TF i)
  fns : M.fns.n = O.fns.n ∧ ∀ i, i < M.fns.n → EqF (M.F i) (O.F i)

set_option maxHeartbeats 400000 in
theorem sameExtern_ir (v u : EV) (f g : Nat → Int) (w : World) (hf : Ints w v.par f) (hg : Ints w u.par g) (h1 : v.par.n ≤ 1000) :
    Calls Try.prog 43 #[.agg #[.string v.name, .slice v.par.a v.par.n v.par.c, .int .i64 v.res], .agg #[.string u.name, .slice u.par.a u.par.n u.par.c, .int .i64 u.res]] w fun e w' => Ans (fun r => r = true ↔ EqE v u f g) w e w' := by
  by_cases e0 : v.name.toList = u.name.toList
  case neg =>
    have t0 : (v.name.toList == u.name.toList) = false := by simp [e0]
    go_enter Try.func43, Try.ntmps43
    go_wp2_with fail
    go_ret
    exact ⟨false, rfl, by simp [EqE, e0], new (new (same w) _) _⟩
  have t0 : (v.name.toList == u.name.toList) = true := by simp [e0]
  have E0 := hid e0; clear e0
  by_cases e1 : v.res = u.res
  case neg =>
    have t1 : (v.res == u.res) = false := by simp [e1]
    go_enter Try.func43, Try.ntmps43
    go_wp2_with fail
    go_ret
    exact ⟨false, rfl, by simp [EqE, e1], new (new (same w) _) _⟩
  have t1 : (v.res == u.res) = true := by simp [e1]
  have E1 := hid e1; clear e1
  go_enter Try.func43, Try.ntmps43
  go_wp2_with fail
  refine (equal33 v.par u.par f g _ (hf.on (new (new (same w) _) _)) (hg.on (new (new (same w) _) _)) h1).mono ?_
  rintro e w1 ⟨r1, rfl, hr1, q, rfl⟩
  have HR := hid hr1; clear hr1
  go_wp2_with fail
  go_ret
  exact ⟨r1, rfl, by show r1 = true ↔ _; rw [HR.out]; exact ⟨fun h => ⟨E0.out, E1.out, h⟩, fun h => h.2.2⟩, below_drewN (new (new (same w) _) _) q⟩

set_option maxHeartbeats 400000 in
theorem sameGlobal_ir (v u : GV) (f g : Nat → Int) (w : World) (hf : Ints w v.cel f) (hg : Ints w u.cel g) (h1 : v.cel.n ≤ 1000) :
    Calls Try.prog 45 #[.agg #[.string v.name, .slice v.cel.a v.cel.n v.cel.c], .agg #[.string u.name, .slice u.cel.a u.cel.n u.cel.c]] w fun e w' => Ans (fun r => r = true ↔ EqG v u f g) w e w' := by
  by_cases e0 : v.name.toList = u.name.toList
  case neg =>
    have t0 : (v.name.toList == u.name.toList) = false := by simp [e0]
    go_enter Try.func45, Try.ntmps45
    go_wp2_with fail
    go_ret
    exact ⟨false, rfl, by simp [EqG, e0], new (new (same w) _) _⟩
  have t0 : (v.name.toList == u.name.toList) = true := by simp [e0]
  have E0 := hid e0; clear e0
  go_enter Try.func45, Try.ntmps45
  go_wp2_with fail
  refine (equal56 v.cel u.cel f g _ (hf.on (new (new (same w) _) _)) (hg.on (new (new (same w) _) _)) h1).mono ?_
  rintro e w1 ⟨r1, rfl, hr1, q, rfl⟩
  have HR := hid hr1; clear hr1
  go_wp2_with fail
  go_ret
  exact ⟨r1, rfl, by show r1 = true ↔ _; rw [HR.out]; exact ⟨fun h => ⟨E0.out, h⟩, fun h => h.2⟩, below_drewN (new (new (same w) _) _) q⟩

set_option maxHeartbeats 400000 in
theorem sameTable_ir (v u : GV) (f g : Nat → Int) (w : World) (hf : Ints w v.cel f) (hg : Ints w u.cel g) (h1 : v.cel.n ≤ 1000) :
    Calls Try.prog 47 #[.agg #[.string v.name, .slice v.cel.a v.cel.n v.cel.c], .agg #[.string u.name, .slice u.cel.a u.cel.n u.cel.c]] w fun e w' => Ans (fun r => r = true ↔ EqG v u f g) w e w' := by
  by_cases e0 : v.name.toList = u.name.toList
  case neg =>
    have t0 : (v.name.toList == u.name.toList) = false := by simp [e0]
    go_enter Try.func47, Try.ntmps47
    go_wp2_with fail
    go_ret
    exact ⟨false, rfl, by simp [EqG, e0], new (new (same w) _) _⟩
  have t0 : (v.name.toList == u.name.toList) = true := by simp [e0]
  have E0 := hid e0; clear e0
  go_enter Try.func47, Try.ntmps47
  go_wp2_with fail
  refine (equal33 v.cel u.cel f g _ (hf.on (new (new (same w) _) _)) (hg.on (new (new (same w) _) _)) h1).mono ?_
  rintro e w1 ⟨r1, rfl, hr1, q, rfl⟩
  have HR := hid hr1; clear hr1
  go_wp2_with fail
  go_ret
  exact ⟨r1, rfl, by show r1 = true ↔ _; rw [HR.out]; exact ⟨fun h => ⟨E0.out, h⟩, fun h => h.2⟩, below_drewN (new (new (same w) _) _) q⟩

set_option maxHeartbeats 1000000 in
theorem equalE (s t : Sl) (E E' : Nat → EV) (P P' : Nat → Nat → Int) (w : World) (hs : Row 3 EAt w s E) (ht : Row 3 EAt w t E') (hp : ∀ k, k < s.n → Ints w (E k).par (P k)) (hp' : ∀ k, k < t.n → Ints w (E' k).par (P' k)) (hsm : s.n ≤ 1000) (h1 : ∀ k, k < s.n → (E k).par.n ≤ 1000) :
    Calls Try.prog 42 #[.slice s.a s.n s.c, .slice t.a t.n t.c, .func (.func 43) #[] #[]] w fun e w' => Ans (fun r => r = true ↔ s.n = t.n ∧ ∀ i, i < s.n → EqE (E i) (E' i) (P i) (P' i)) w e w' := by
  by_cases hn : s.n = t.n
  · have hn' : ((s.n : Int) != (t.n : Int)) = false := by simp [hn]
    have HN := hid hn
    clear hn
    go_enter Try.func42, Try.ntmps42
    go_wp2_with fail
    go_loopw [17] (fun i wr => ∃ k : Nat, k ≤ s.n ∧ i = .int .i64 k ∧ (∀ i, i < k → EqE (E i) (E' i) (P i) (P' i)) ∧ Below w.heap.size w wr) (fun i _ => s.n - (intOf i).toNat)
    case atStart => exact ⟨0, Nat.zero_le _, rfl, fun i hi => by omega, same w⟩
    case round =>
      obtain ⟨k, hk, rfl, hall, hb⟩ := hrel
      have HA := hid hall
      clear hall
      by_cases hlt : k < s.n
      · have hlt' : k < t.n := by have := HN.out; omega
        obtain ⟨b, o, hix, c0, c1, c2⟩ := (hs.on (fun _ _ _ => EAt.on hb)).at underlying22 size68 hlt
        obtain ⟨b', o', hix', d0, d1, d2⟩ := (ht.on (fun _ _ _ => EAt.on hb)).at underlying22 size68 hlt'
        have hlx := World.block_lt_of_cell? _ _ d0
        go_wp2_with fail
        have hb2 := new (new hb (.cells #[.string (E k).name, .slice (E k).par.a (E k).par.n (E k).par.c, .int .i64 (E k).res] 68)) (.cells #[.string (E' k).name, .slice (E' k).par.a (E' k).par.n (E' k).par.c, .int .i64 (E' k).res] 68)
        refine (sameExtern_ir (E k) (E' k) (P k) (P' k) _ ((hp k hlt).on hb2) ((hp' k hlt').on hb2) (h1 k hlt)).mono ?_
        rintro e w2 ⟨r, rfl, hr, hb3⟩
        have HB := hid (more hb2 hb3)
        clear hb3 hb2
        cases r
        · have n2 : ¬ (EqE (E k) (E' k) (P k) (P' k)) := by simpa using hr
          clear hr
          go_wp2_with fail
          go_ret
          exact ⟨false, rfl, by simp only [Bool.false_eq_true, false_iff]; intro h; exact n2 (h.2 k hlt), HB.out⟩
        · have n2 : EqE (E k) (E' k) (P k) (P' k) := by simpa using hr
          have N2 := hid n2
          clear hr n2
          go_wp2_with fail
          go_round
          case rel => exact ⟨k + 1, by omega, by go_num, upto HA.out N2.out, HB.out⟩
          case measure => simp [intOf]; omega
      · obtain rfl : k = s.n := by omega
        go_wp2_with fail
        go_ret
        exact ⟨true, rfl, by simp only [true_iff]; exact ⟨HN.out, HA.out⟩, hb⟩
  · have hn' : ((s.n : Int) != (t.n : Int)) = true := by simp; omega
    go_enter Try.func42, Try.ntmps42
    go_wp2_with fail
    go_ret
    exact ⟨false, rfl, by simp [hn], same w⟩

set_option maxHeartbeats 1000000 in
theorem equalG (s t : Sl) (E E' : Nat → GV) (P P' : Nat → Nat → Int) (w : World) (hs : Row 2 GAt w s E) (ht : Row 2 GAt w t E') (hp : ∀ k, k < s.n → Ints w (E k).cel (P k)) (hp' : ∀ k, k < t.n → Ints w (E' k).cel (P' k)) (hsm : s.n ≤ 1000) (h1 : ∀ k, k < s.n → (E k).cel.n ≤ 1000) :
    Calls Try.prog 44 #[.slice s.a s.n s.c, .slice t.a t.n t.c, .func (.func 45) #[] #[]] w fun e w' => Ans (fun r => r = true ↔ s.n = t.n ∧ ∀ i, i < s.n → EqG (E i) (E' i) (P i) (P' i)) w e w' := by
  by_cases hn : s.n = t.n
  · have hn' : ((s.n : Int) != (t.n : Int)) = false := by simp [hn]
    have HN := hid hn
    clear hn
    go_enter Try.func44, Try.ntmps44
    go_wp2_with fail
    go_loopw [17] (fun i wr => ∃ k : Nat, k ≤ s.n ∧ i = .int .i64 k ∧ (∀ i, i < k → EqG (E i) (E' i) (P i) (P' i)) ∧ Below w.heap.size w wr) (fun i _ => s.n - (intOf i).toNat)
    case atStart => exact ⟨0, Nat.zero_le _, rfl, fun i hi => by omega, same w⟩
    case round =>
      obtain ⟨k, hk, rfl, hall, hb⟩ := hrel
      have HA := hid hall
      clear hall
      by_cases hlt : k < s.n
      · have hlt' : k < t.n := by have := HN.out; omega
        obtain ⟨b, o, hix, c0, c1⟩ := (hs.on (fun _ _ _ => GAt.on hb)).at underlying23 size71 hlt
        obtain ⟨b', o', hix', d0, d1⟩ := (ht.on (fun _ _ _ => GAt.on hb)).at underlying23 size71 hlt'
        have hlx := World.block_lt_of_cell? _ _ d0
        go_wp2_with fail
        have hb2 := new (new hb (.cells #[.string (E k).name, .slice (E k).cel.a (E k).cel.n (E k).cel.c] 71)) (.cells #[.string (E' k).name, .slice (E' k).cel.a (E' k).cel.n (E' k).cel.c] 71)
        refine (sameGlobal_ir (E k) (E' k) (P k) (P' k) _ ((hp k hlt).on hb2) ((hp' k hlt').on hb2) (h1 k hlt)).mono ?_
        rintro e w2 ⟨r, rfl, hr, hb3⟩
        have HB := hid (more hb2 hb3)
        clear hb3 hb2
        cases r
        · have n2 : ¬ (EqG (E k) (E' k) (P k) (P' k)) := by simpa using hr
          clear hr
          go_wp2_with fail
          go_ret
          exact ⟨false, rfl, by simp only [Bool.false_eq_true, false_iff]; intro h; exact n2 (h.2 k hlt), HB.out⟩
        · have n2 : EqG (E k) (E' k) (P k) (P' k) := by simpa using hr
          have N2 := hid n2
          clear hr n2
          go_wp2_with fail
          go_round
          case rel => exact ⟨k + 1, by omega, by go_num, upto HA.out N2.out, HB.out⟩
          case measure => simp [intOf]; omega
      · obtain rfl : k = s.n := by omega
        go_wp2_with fail
        go_ret
        exact ⟨true, rfl, by simp only [true_iff]; exact ⟨HN.out, HA.out⟩, hb⟩
  · have hn' : ((s.n : Int) != (t.n : Int)) = true := by simp; omega
    go_enter Try.func44, Try.ntmps44
    go_wp2_with fail
    go_ret
    exact ⟨false, rfl, by simp [hn], same w⟩

set_option maxHeartbeats 1000000 in
theorem equalT (s t : Sl) (E E' : Nat → GV) (P P' : Nat → Nat → Int) (w : World) (hs : Row 2 GAt w s E) (ht : Row 2 GAt w t E') (hp : ∀ k, k < s.n → Ints w (E k).cel (P k)) (hp' : ∀ k, k < t.n → Ints w (E' k).cel (P' k)) (hsm : s.n ≤ 1000) (h1 : ∀ k, k < s.n → (E k).cel.n ≤ 1000) :
    Calls Try.prog 46 #[.slice s.a s.n s.c, .slice t.a t.n t.c, .func (.func 47) #[] #[]] w fun e w' => Ans (fun r => r = true ↔ s.n = t.n ∧ ∀ i, i < s.n → EqG (E i) (E' i) (P i) (P' i)) w e w' := by
  by_cases hn : s.n = t.n
  · have hn' : ((s.n : Int) != (t.n : Int)) = false := by simp [hn]
    have HN := hid hn
    clear hn
    go_enter Try.func46, Try.ntmps46
    go_wp2_with fail
    go_loopw [17] (fun i wr => ∃ k : Nat, k ≤ s.n ∧ i = .int .i64 k ∧ (∀ i, i < k → EqG (E i) (E' i) (P i) (P' i)) ∧ Below w.heap.size w wr) (fun i _ => s.n - (intOf i).toNat)
    case atStart => exact ⟨0, Nat.zero_le _, rfl, fun i hi => by omega, same w⟩
    case round =>
      obtain ⟨k, hk, rfl, hall, hb⟩ := hrel
      have HA := hid hall
      clear hall
      by_cases hlt : k < s.n
      · have hlt' : k < t.n := by have := HN.out; omega
        obtain ⟨b, o, hix, c0, c1⟩ := (hs.on (fun _ _ _ => GAt.on hb)).at underlying24 size73 hlt
        obtain ⟨b', o', hix', d0, d1⟩ := (ht.on (fun _ _ _ => GAt.on hb)).at underlying24 size73 hlt'
        have hlx := World.block_lt_of_cell? _ _ d0
        go_wp2_with fail
        have hb2 := new (new hb (.cells #[.string (E k).name, .slice (E k).cel.a (E k).cel.n (E k).cel.c] 73)) (.cells #[.string (E' k).name, .slice (E' k).cel.a (E' k).cel.n (E' k).cel.c] 73)
        refine (sameTable_ir (E k) (E' k) (P k) (P' k) _ ((hp k hlt).on hb2) ((hp' k hlt').on hb2) (h1 k hlt)).mono ?_
        rintro e w2 ⟨r, rfl, hr, hb3⟩
        have HB := hid (more hb2 hb3)
        clear hb3 hb2
        cases r
        · have n2 : ¬ (EqG (E k) (E' k) (P k) (P' k)) := by simpa using hr
          clear hr
          go_wp2_with fail
          go_ret
          exact ⟨false, rfl, by simp only [Bool.false_eq_true, false_iff]; intro h; exact n2 (h.2 k hlt), HB.out⟩
        · have n2 : EqG (E k) (E' k) (P k) (P' k) := by simpa using hr
          have N2 := hid n2
          clear hr n2
          go_wp2_with fail
          go_round
          case rel => exact ⟨k + 1, by omega, by go_num, upto HA.out N2.out, HB.out⟩
          case measure => simp [intOf]; omega
      · obtain rfl : k = s.n := by omega
        go_wp2_with fail
        go_ret
        exact ⟨true, rfl, by simp only [true_iff]; exact ⟨HN.out, HA.out⟩, hb⟩
  · have hn' : ((s.n : Int) != (t.n : Int)) = true := by simp; omega
    go_enter Try.func46, Try.ntmps46
    go_wp2_with fail
    go_ret
    exact ⟨false, rfl, by simp [hn], same w⟩

set_option maxHeartbeats 1000000 in
theorem equalF (s t : Sl) (F F' : Nat → FV) (w : World) (hs : Row 5 FAt w s F) (ht : Row 5 FAt w t F') (hp : ∀ k, k < s.n → In w (F k)) (hp' : ∀ k, k < t.n → In w (F' k)) (hsm : s.n ≤ 1000) (h1 : ∀ k, k < s.n → Light (F k)) :
    Calls Try.prog 48 #[.slice s.a s.n s.c, .slice t.a t.n t.c, .func (.func 49) #[] #[]] w fun e w' => Ans (fun r => r = true ↔ s.n = t.n ∧ ∀ i, i < s.n → EqF (F i) (F' i)) w e w' := by
  by_cases hn : s.n = t.n
  · have hn' : ((s.n : Int) != (t.n : Int)) = false := by simp [hn]
    have HN := hid hn
    clear hn
    go_enter Try.func48, Try.ntmps48
    go_wp2_with fail
    go_loopw [17] (fun i wr => ∃ k : Nat, k ≤ s.n ∧ i = .int .i64 k ∧ (∀ i, i < k → EqF (F i) (F' i)) ∧ Below w.heap.size w wr) (fun i _ => s.n - (intOf i).toNat)
    case atStart => exact ⟨0, Nat.zero_le _, rfl, fun i hi => by omega, same w⟩
    case round =>
      obtain ⟨k, hk, rfl, hall, hb⟩ := hrel
      have HA := hid hall
      clear hall
      by_cases hlt : k < s.n
      · have hlt' : k < t.n := by have := HN.out; omega
        obtain ⟨b, o, hix, c0, c1, c2, c3, c4⟩ := (hs.on (fun _ _ _ => FAt.on hb)).at underlying25 size35 hlt
        obtain ⟨b', o', hix', d0, d1, d2, d3, d4⟩ := (ht.on (fun _ _ _ => FAt.on hb)).at underlying25 size35 hlt'
        have hlx := World.block_lt_of_cell? _ _ d0
        go_wp2_with fail
        have hb2 := new (new hb (.cells (fcells (F k)) 35)) (.cells (fcells (F' k)) 35)
        refine (sameFunc_ir (F k) (F' k) _ ((hp k hlt).on hb2) ((hp' k hlt').on hb2) (h1 k hlt)).mono ?_
        rintro e w2 ⟨r, rfl, hr, hb3⟩
        have HB := hid (more hb2 hb3)
        clear hb3 hb2
        cases r
        · have n2 : ¬ (EqF (F k) (F' k)) := by simpa using hr
          clear hr
          go_wp2_with fail
          go_ret
          exact ⟨false, rfl, by simp only [Bool.false_eq_true, false_iff]; intro h; exact n2 (h.2 k hlt), HB.out⟩
        · have n2 : EqF (F k) (F' k) := by simpa using hr
          have N2 := hid n2
          clear hr n2
          go_wp2_with fail
          go_round
          case rel => exact ⟨k + 1, by omega, by go_num, upto HA.out N2.out, HB.out⟩
          case measure => simp [intOf]; omega
      · obtain rfl : k = s.n := by omega
        go_wp2_with fail
        go_ret
        exact ⟨true, rfl, by simp only [true_iff]; exact ⟨HN.out, HA.out⟩, hb⟩
  · have hn' : ((s.n : Int) != (t.n : Int)) = true := by simp; omega
    go_enter Try.func48, Try.ntmps48
    go_wp2_with fail
    go_ret
    exact ⟨false, rfl, by simp [hn], same w⟩

set_option maxHeartbeats 1000000 in
theorem same_ir (M O : MV) (w : World) (hM : InM w M) (hO : InM w O) (hs : SmallM M) :
    Calls Try.prog 13 #[M.val, O.val] w fun e w' => Ans (fun r => r = true ↔ EqM M O) w e w' := by
  have x1 := hs.ext
  have x2 := hs.glo
  have x3 := hs.tab
  have x4 := hs.fns
  have HM := hid hM
  have HO := hid hO
  have HS := hid hs
  clear hM hO hs
  go_enter Try.func13, Try.ntmps13
  go_wp2_with fail
  have hb0 := new (new (same w) (.cells (mcells M) 27)) (.cells (mcells O) 27)
  refine (equalE M.ext O.ext M.E O.E M.EP O.EP _ (HM.out.on hb0).ext (HO.out.on hb0).ext (HM.out.on hb0).extP (HO.out.on hb0).extP (by omega) (fun k hk => by have := (HS.out.extI k hk).2; omega)).mono ?_
  rintro e w1 ⟨r1, rfl, hr1, hb1⟩
  have B1 := hid (more hb0 hb1)
  have m1 : w1.cell? ⟨w.heap.size, 1, none⟩ = some (.slice M.glo.a M.glo.n M.glo.c) := cell_on hb1 (by simp [World.cell?_alloc_old])
  have m2 : w1.cell? ⟨w.heap.size, 2, none⟩ = some (.slice M.tab.a M.tab.n M.tab.c) := cell_on hb1 (by simp [World.cell?_alloc_old])
  have m3 : w1.cell? ⟨w.heap.size, 3, none⟩ = some (.slice M.fns.a M.fns.n M.fns.c) := cell_on hb1 (by simp [World.cell?_alloc_old])
  have o1 : w1.cell? ⟨w.heap.size + 1, 1, none⟩ = some (.slice O.glo.a O.glo.n O.glo.c) := cell_on hb1 (by simp)
  have o2 : w1.cell? ⟨w.heap.size + 1, 2, none⟩ = some (.slice O.tab.a O.tab.n O.tab.c) := cell_on hb1 (by simp)
  have o3 : w1.cell? ⟨w.heap.size + 1, 3, none⟩ = some (.slice O.fns.a O.fns.n O.fns.c) := cell_on hb1 (by simp)
  clear hb1 hb0
  cases r1
  · have n1 : ¬ (M.ext.n = O.ext.n ∧ ∀ i, i < M.ext.n → EqE (M.E i) (O.E i) (M.EP i) (O.EP i)) := by simpa using hr1
    clear hr1
    have N1 := hid n1
    clear n1
    go_wp2_with fail
    go_ret
    exact ⟨false, rfl, by simp only [Bool.false_eq_true, false_iff]; exact fun h => N1.out h.ext, B1.out⟩
  have N1 : Hid (M.ext.n = O.ext.n ∧ ∀ i, i < M.ext.n → EqE (M.E i) (O.E i) (M.EP i) (O.EP i)) := hr1.1 rfl
  clear hr1
  go_wp2_with fail
  refine (equalG M.glo O.glo M.G O.G M.GC O.GC _ (HM.out.on B1.out).glo (HO.out.on B1.out).glo (HM.out.on B1.out).gloC (HO.out.on B1.out).gloC (by omega) (fun k hk => by have := (HS.out.gloI k hk).2; omega)).mono ?_
  rintro e w2 ⟨r2, rfl, hr2, hb2⟩
  have B2 := hid (more B1.out hb2)
  have m2' := cell_on hb2 m2
  have m3' := cell_on hb2 m3
  have o2' := cell_on hb2 o2
  have o3' := cell_on hb2 o3
  clear hb2 m1 m2 m3 o1 o2 o3
  cases r2
  · have n2 : ¬ (M.glo.n = O.glo.n ∧ ∀ i, i < M.glo.n → EqG (M.G i) (O.G i) (M.GC i) (O.GC i)) := by simpa using hr2
    clear hr2
    have N2 := hid n2
    clear n2
    go_wp2_with fail
    go_ret
    exact ⟨false, rfl, by simp only [Bool.false_eq_true, false_iff]; exact fun h => N2.out h.glo, B2.out⟩
  have N2 : Hid (M.glo.n = O.glo.n ∧ ∀ i, i < M.glo.n → EqG (M.G i) (O.G i) (M.GC i) (O.GC i)) := hr2.1 rfl
  clear hr2
  go_wp2_with fail
  refine (equalT M.tab O.tab M.T O.T M.TF O.TF _ (HM.out.on B2.out).tab (HO.out.on B2.out).tab (HM.out.on B2.out).tabF (HO.out.on B2.out).tabF (by omega) (fun k hk => by have := (HS.out.tabI k hk).2; omega)).mono ?_
  rintro e w3 ⟨r3, rfl, hr3, hb3⟩
  have B3 := hid (more B2.out hb3)
  have m3 := cell_on hb3 m3'
  have o3 := cell_on hb3 o3'
  clear hb3 m2' m3' o2' o3'
  cases r3
  · have n3 : ¬ (M.tab.n = O.tab.n ∧ ∀ i, i < M.tab.n → EqG (M.T i) (O.T i) (M.TF i) (O.TF i)) := by simpa using hr3
    clear hr3
    have N3 := hid n3
    clear n3
    go_wp2_with fail
    go_ret
    exact ⟨false, rfl, by simp only [Bool.false_eq_true, false_iff]; exact fun h => N3.out h.tab, B3.out⟩
  have N3 : Hid (M.tab.n = O.tab.n ∧ ∀ i, i < M.tab.n → EqG (M.T i) (O.T i) (M.TF i) (O.TF i)) := hr3.1 rfl
  clear hr3
  go_wp2_with fail
  refine (equalF M.fns O.fns M.F O.F _ (HM.out.on B3.out).fns (HO.out.on B3.out).fns (HM.out.on B3.out).fnI (HO.out.on B3.out).fnI (by omega) HS.out.light).mono ?_
  rintro e w4 ⟨r4, rfl, hr4, hb4⟩
  have FIN := hid (And.intro hr4 (more B3.out hb4))
  clear hr4 hb4
  go_wp2_with fail
  go_ret
  exact ⟨r4, rfl, by show r4 = true ↔ _; rw [FIN.out.1]; exact ⟨fun h => ⟨N1.out, N2.out, N3.out, h⟩, fun h => h.fns⟩, FIN.out.2⟩

end Go.Proofs.Ytclioagemjpnoaa.Mod
