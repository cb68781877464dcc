/-
  slices.ContainsFunc with each function that wf hands it: is there one of which it holds?
-/
import Derived.Test.YtbmfimojhcdnbaaGreatJ4
import Derived.Test.YtbmfimojhcdnbaaGreatJ5
namespace Go.Proofs.YtbmfimojhcdnbaaGreat.Wf
open Go.RowKit View Rd Num Opn Copy Ty Srt Go.Proofs.YtbmfimojhcdnbaaGreat.Mod

set_option linter.unusedVariables false

set_option maxHeartbeats 1000000 in
theorem idx_limE (s : Sl) (f : Nat → EV) (p : Nat → Prop) (w : World) (hn : s.n ≤ 1000) (hs : ∀ wx, Below w.heap.size w wx → Row 3 EAt wx s f)
    (hc : ∀ k, k < s.n → ∀ wx, Below w.heap.size w wx → Calls Tryz.prog 40 #[.agg #[.string (f k).name, .slice (f k).par.a (f k).par.n (f k).par.c, .int .i64 (f k).res]] wx fun e w' => Ans (fun r => r = true ↔ p k) wx e w') :
    Calls Tryz.prog 71 #[.slice s.a s.n s.c, .func (.func 40) #[] #[]] w fun e w' => ∃ r : Int, e = .returned (.int .i64 r) ∧ (0 ≤ r ↔ ∃ k, k < s.n ∧ p k) ∧ Below w.heap.size w w' := by
  go_enter Tryz.func71, Tryz.ntmps71
  go_wp2_with fail
  go_loopw [8] (fun iv wr => ∃ k : Nat, k ≤ s.n ∧ iv = .int .i64 k ∧ (∀ i, i < k → ¬ p i) ∧ Below w.heap.size w wr) (fun iv _ => s.n - (intOf iv).toNat)
  case atStart => exact ⟨0, Nat.zero_le _, rfl, fun i hi => by omega, same w⟩
  case round =>
    obtain ⟨k, hk, rfl, hall, hb⟩ := hrel
    have HA := hid hall
    clear hall
    by_cases lk : k < s.n
    · obtain ⟨b, o, hix, c0, c1, c2⟩ := (hs wr hb).at underlying22 size59 lk
      have HB := hid hb
      go_wp2_with fail
      refine (hc k lk _ HB.out).mono ?_
      rintro e w2 ⟨r, rfl, hr, hb2⟩
      have HR := hid hr
      have B2 := hid (View.more HB.out hb2)
      clear hr hb2
      cases r with
      | false =>
        go_wp2_with fail
        go_round
        case rel => exact ⟨k + 1, by omega, by go_num, fun i hi => by
          by_cases e : i = k
          · subst e; exact fun h => absurd (HR.out.2 h) (by simp)
          · exact HA.out i (by omega), B2.out⟩
        case measure => simp [intOf]; omega
      | true =>
        go_wp2_with fail
        go_ret
        exact ⟨k, rfl, ⟨fun _ => ⟨k, lk, HR.out.1 (by simp)⟩, fun _ => by omega⟩, B2.out⟩
    · obtain rfl : k = s.n := by omega
      have HB := hid hb
      clear hb
      go_wp2_with fail
      go_ret
      exact ⟨-1, rfl, ⟨fun h => by omega, fun ⟨i, h1, h2⟩ => absurd h2 (HA.out i h1)⟩, HB.out⟩

set_option maxHeartbeats 1000000 in
theorem has_limE (s : Sl) (f : Nat → EV) (p : Nat → Prop) (w : World) (hn : s.n ≤ 1000) (hs : ∀ wx, Below w.heap.size w wx → Row 3 EAt wx s f)
    (hc : ∀ k, k < s.n → ∀ wx, Below w.heap.size w wx → Calls Tryz.prog 40 #[.agg #[.string (f k).name, .slice (f k).par.a (f k).par.n (f k).par.c, .int .i64 (f k).res]] wx fun e w' => Ans (fun r => r = true ↔ p k) wx e w') :
    Calls Tryz.prog 39 #[.slice s.a s.n s.c, .func (.func 40) #[] #[]] w fun e w' => Ans (fun r => r = true ↔ ∃ k, k < s.n ∧ p k) w e w' := by
  go_enter Tryz.func39, Tryz.ntmps39
  go_wp2_with fail
  refine (idx_limE s f p w hn hs hc).mono ?_
  rintro e w1 ⟨r, rfl, hr, hb⟩
  have HR := hid hr
  have HB := hid hb
  clear hr hb
  go_wp2_with fail
  go_ret
  exact ⟨decide (0 ≤ r), rfl, by rw [← HR.out]; simp, HB.out⟩

set_option maxHeartbeats 1000000 in
theorem idx_limG (s : Sl) (f : Nat → GV) (p : Nat → Prop) (w : World) (hn : s.n ≤ 1000) (hs : ∀ wx, Below w.heap.size w wx → Row 2 GAt wx s f)
    (hc : ∀ k, k < s.n → ∀ wx, Below w.heap.size w wx → Calls Tryz.prog 42 #[.agg #[.string (f k).name, .slice (f k).cel.a (f k).cel.n (f k).cel.c]] wx fun e w' => Ans (fun r => r = true ↔ p k) wx e w') :
    Calls Tryz.prog 72 #[.slice s.a s.n s.c, .func (.func 42) #[] #[]] w fun e w' => ∃ r : Int, e = .returned (.int .i64 r) ∧ (0 ≤ r ↔ ∃ k, k < s.n ∧ p k) ∧ Below w.heap.size w w' := by
  go_enter Tryz.func72, Tryz.ntmps72
  go_wp2_with fail
  go_loopw [8] (fun iv wr => ∃ k : Nat, k ≤ s.n ∧ iv = .int .i64 k ∧ (∀ i, i < k → ¬ p i) ∧ Below w.heap.size w wr) (fun iv _ => s.n - (intOf iv).toNat)
  case atStart => exact ⟨0, Nat.zero_le _, rfl, fun i hi => by omega, same w⟩
  case round =>
    obtain ⟨k, hk, rfl, hall, hb⟩ := hrel
    have HA := hid hall
    clear hall
    by_cases lk : k < s.n
    · obtain ⟨b, o, hix, c0, c1⟩ := (hs wr hb).at underlying23 size53 lk
      have HB := hid hb
      go_wp2_with fail
      refine (hc k lk _ HB.out).mono ?_
      rintro e w2 ⟨r, rfl, hr, hb2⟩
      have HR := hid hr
      have B2 := hid (View.more HB.out hb2)
      clear hr hb2
      cases r with
      | false =>
        go_wp2_with fail
        go_round
        case rel => exact ⟨k + 1, by omega, by go_num, fun i hi => by
          by_cases e : i = k
          · subst e; exact fun h => absurd (HR.out.2 h) (by simp)
          · exact HA.out i (by omega), B2.out⟩
        case measure => simp [intOf]; omega
      | true =>
        go_wp2_with fail
        go_ret
        exact ⟨k, rfl, ⟨fun _ => ⟨k, lk, HR.out.1 (by simp)⟩, fun _ => by omega⟩, B2.out⟩
    · obtain rfl : k = s.n := by omega
      have HB := hid hb
      clear hb
      go_wp2_with fail
      go_ret
      exact ⟨-1, rfl, ⟨fun h => by omega, fun ⟨i, h1, h2⟩ => absurd h2 (HA.out i h1)⟩, HB.out⟩

set_option maxHeartbeats 1000000 in
theorem has_limG (s : Sl) (f : Nat → GV) (p : Nat → Prop) (w : World) (hn : s.n ≤ 1000) (hs : ∀ wx, Below w.heap.size w wx → Row 2 GAt wx s f)
    (hc : ∀ k, k < s.n → ∀ wx, Below w.heap.size w wx → Calls Tryz.prog 42 #[.agg #[.string (f k).name, .slice (f k).cel.a (f k).cel.n (f k).cel.c]] wx fun e w' => Ans (fun r => r = true ↔ p k) wx e w') :
    Calls Tryz.prog 41 #[.slice s.a s.n s.c, .func (.func 42) #[] #[]] w fun e w' => Ans (fun r => r = true ↔ ∃ k, k < s.n ∧ p k) w e w' := by
  go_enter Tryz.func41, Tryz.ntmps41
  go_wp2_with fail
  refine (idx_limG s f p w hn hs hc).mono ?_
  rintro e w1 ⟨r, rfl, hr, hb⟩
  have HR := hid hr
  have HB := hid hb
  clear hr hb
  go_wp2_with fail
  go_ret
  exact ⟨decide (0 ≤ r), rfl, by rw [← HR.out]; simp, HB.out⟩

set_option maxHeartbeats 1000000 in
theorem idx_limT (s : Sl) (f : Nat → GV) (p : Nat → Prop) (w : World) (hn : s.n ≤ 1000) (hs : ∀ wx, Below w.heap.size w wx → Row 2 GAt wx s f)
    (hc : ∀ k, k < s.n → ∀ wx, Below w.heap.size w wx → Calls Tryz.prog 45 #[.agg #[.string (f k).name, .slice (f k).cel.a (f k).cel.n (f k).cel.c]] wx fun e w' => Ans (fun r => r = true ↔ p k) wx e w') :
    Calls Tryz.prog 73 #[.slice s.a s.n s.c, .func (.func 45) #[] #[]] w fun e w' => ∃ r : Int, e = .returned (.int .i64 r) ∧ (0 ≤ r ↔ ∃ k, k < s.n ∧ p k) ∧ Below w.heap.size w w' := by
  go_enter Tryz.func73, Tryz.ntmps73
  go_wp2_with fail
  go_loopw [8] (fun iv wr => ∃ k : Nat, k ≤ s.n ∧ iv = .int .i64 k ∧ (∀ i, i < k → ¬ p i) ∧ Below w.heap.size w wr) (fun iv _ => s.n - (intOf iv).toNat)
  case atStart => exact ⟨0, Nat.zero_le _, rfl, fun i hi => by omega, same w⟩
  case round =>
    obtain ⟨k, hk, rfl, hall, hb⟩ := hrel
    have HA := hid hall
    clear hall
    by_cases lk : k < s.n
    · obtain ⟨b, o, hix, c0, c1⟩ := (hs wr hb).at underlying24 size55 lk
      have HB := hid hb
      go_wp2_with fail
      refine (hc k lk _ HB.out).mono ?_
      rintro e w2 ⟨r, rfl, hr, hb2⟩
      have HR := hid hr
      have B2 := hid (View.more HB.out hb2)
      clear hr hb2
      cases r with
      | false =>
        go_wp2_with fail
        go_round
        case rel => exact ⟨k + 1, by omega, by go_num, fun i hi => by
          by_cases e : i = k
          · subst e; exact fun h => absurd (HR.out.2 h) (by simp)
          · exact HA.out i (by omega), B2.out⟩
        case measure => simp [intOf]; omega
      | true =>
        go_wp2_with fail
        go_ret
        exact ⟨k, rfl, ⟨fun _ => ⟨k, lk, HR.out.1 (by simp)⟩, fun _ => by omega⟩, B2.out⟩
    · obtain rfl : k = s.n := by omega
      have HB := hid hb
      clear hb
      go_wp2_with fail
      go_ret
      exact ⟨-1, rfl, ⟨fun h => by omega, fun ⟨i, h1, h2⟩ => absurd h2 (HA.out i h1)⟩, HB.out⟩

set_option maxHeartbeats 1000000 in
theorem has_limT (s : Sl) (f : Nat → GV) (p : Nat → Prop) (w : World) (hn : s.n ≤ 1000) (hs : ∀ wx, Below w.heap.size w wx → Row 2 GAt wx s f)
    (hc : ∀ k, k < s.n → ∀ wx, Below w.heap.size w wx → Calls Tryz.prog 45 #[.agg #[.string (f k).name, .slice (f k).cel.a (f k).cel.n (f k).cel.c]] wx fun e w' => Ans (fun r => r = true ↔ p k) wx e w') :
    Calls Tryz.prog 44 #[.slice s.a s.n s.c, .func (.func 45) #[] #[]] w fun e w' => Ans (fun r => r = true ↔ ∃ k, k < s.n ∧ p k) w e w' := by
  go_enter Tryz.func44, Tryz.ntmps44
  go_wp2_with fail
  refine (idx_limT s f p w hn hs hc).mono ?_
  rintro e w1 ⟨r, rfl, hr, hb⟩
  have HR := hid hr
  have HB := hid hb
  clear hr hb
  go_wp2_with fail
  go_ret
  exact ⟨decide (0 ≤ r), rfl, by rw [← HR.out]; simp, HB.out⟩

set_option maxHeartbeats 1000000 in
theorem idx_limF (s : Sl) (f : Nat → FV) (p : Nat → Prop) (w : World) (hn : s.n ≤ 1000) (hs : ∀ wx, Below w.heap.size w wx → Row 5 FAt wx s f)
    (hc : ∀ k, k < s.n → ∀ wx, Below w.heap.size w wx → Calls Tryz.prog 47 #[(f k).val] wx fun e w' => Ans (fun r => r = true ↔ p k) wx e w') :
    Calls Tryz.prog 74 #[.slice s.a s.n s.c, .func (.func 47) #[] #[]] w fun e w' => ∃ r : Int, e = .returned (.int .i64 r) ∧ (0 ≤ r ↔ ∃ k, k < s.n ∧ p k) ∧ Below w.heap.size w w' := by
  go_enter Tryz.func74, Tryz.ntmps74
  go_wp2_with fail
  go_loopw [8] (fun iv wr => ∃ k : Nat, k ≤ s.n ∧ iv = .int .i64 k ∧ (∀ i, i < k → ¬ p i) ∧ Below w.heap.size w wr) (fun iv _ => s.n - (intOf iv).toNat)
  case atStart => exact ⟨0, Nat.zero_le _, rfl, fun i hi => by omega, same w⟩
  case round =>
    obtain ⟨k, hk, rfl, hall, hb⟩ := hrel
    have HA := hid hall
    clear hall
    by_cases lk : k < s.n
    · obtain ⟨b, o, hix, c0, c1, c2, c3, c4⟩ := (hs wr hb).at underlying25 size43 lk
      have HB := hid hb
      go_wp2_with fail
      refine (hc k lk _ HB.out).mono ?_
      rintro e w2 ⟨r, rfl, hr, hb2⟩
      have HR := hid hr
      have B2 := hid (View.more HB.out hb2)
      clear hr hb2
      cases r with
      | false =>
        go_wp2_with fail
        go_round
        case rel => exact ⟨k + 1, by omega, by go_num, fun i hi => by
          by_cases e : i = k
          · subst e; exact fun h => absurd (HR.out.2 h) (by simp)
          · exact HA.out i (by omega), B2.out⟩
        case measure => simp [intOf]; omega
      | true =>
        go_wp2_with fail
        go_ret
        exact ⟨k, rfl, ⟨fun _ => ⟨k, lk, HR.out.1 (by simp)⟩, fun _ => by omega⟩, B2.out⟩
    · obtain rfl : k = s.n := by omega
      have HB := hid hb
      clear hb
      go_wp2_with fail
      go_ret
      exact ⟨-1, rfl, ⟨fun h => by omega, fun ⟨i, h1, h2⟩ => absurd h2 (HA.out i h1)⟩, HB.out⟩

set_option maxHeartbeats 1000000 in
theorem has_limF (s : Sl) (f : Nat → FV) (p : Nat → Prop) (w : World) (hn : s.n ≤ 1000) (hs : ∀ wx, Below w.heap.size w wx → Row 5 FAt wx s f)
    (hc : ∀ k, k < s.n → ∀ wx, Below w.heap.size w wx → Calls Tryz.prog 47 #[(f k).val] wx fun e w' => Ans (fun r => r = true ↔ p k) wx e w') :
    Calls Tryz.prog 46 #[.slice s.a s.n s.c, .func (.func 47) #[] #[]] w fun e w' => Ans (fun r => r = true ↔ ∃ k, k < s.n ∧ p k) w e w' := by
  go_enter Tryz.func46, Tryz.ntmps46
  go_wp2_with fail
  refine (idx_limF s f p w hn hs hc).mono ?_
  rintro e w1 ⟨r, rfl, hr, hb⟩
  have HR := hid hr
  have HB := hid hb
  clear hr hb
  go_wp2_with fail
  go_ret
  exact ⟨decide (0 ≤ r), rfl, by rw [← HR.out]; simp, HB.out⟩

set_option maxHeartbeats 1000000 in
theorem idx_formE (s : Sl) (f : Nat → EV) (p : Nat → Prop) (w : World) (hn : s.n ≤ 1000) (hs : ∀ wx, Below w.heap.size w wx → Row 3 EAt wx s f)
    (hc : ∀ k, k < s.n → ∀ wx, Below w.heap.size w wx → Calls Tryz.prog 48 #[.agg #[.string (f k).name, .slice (f k).par.a (f k).par.n (f k).par.c, .int .i64 (f k).res]] wx fun e w' => Ans (fun r => r = true ↔ p k) wx e w') :
    Calls Tryz.prog 71 #[.slice s.a s.n s.c, .func (.func 48) #[] #[]] w fun e w' => ∃ r : Int, e = .returned (.int .i64 r) ∧ (0 ≤ r ↔ ∃ k, k < s.n ∧ p k) ∧ Below w.heap.size w w' := by
  go_enter Tryz.func71, Tryz.ntmps71
  go_wp2_with fail
  go_loopw [8] (fun iv wr => ∃ k : Nat, k ≤ s.n ∧ iv = .int .i64 k ∧ (∀ i, i < k → ¬ p i) ∧ Below w.heap.size w wr) (fun iv _ => s.n - (intOf iv).toNat)
  case atStart => exact ⟨0, Nat.zero_le _, rfl, fun i hi => by omega, same w⟩
  case round =>
    obtain ⟨k, hk, rfl, hall, hb⟩ := hrel
    have HA := hid hall
    clear hall
    by_cases lk : k < s.n
    · obtain ⟨b, o, hix, c0, c1, c2⟩ := (hs wr hb).at underlying22 size59 lk
      have HB := hid hb
      go_wp2_with fail
      refine (hc k lk _ HB.out).mono ?_
      rintro e w2 ⟨r, rfl, hr, hb2⟩
      have HR := hid hr
      have B2 := hid (View.more HB.out hb2)
      clear hr hb2
      cases r with
      | false =>
        go_wp2_with fail
        go_round
        case rel => exact ⟨k + 1, by omega, by go_num, fun i hi => by
          by_cases e : i = k
          · subst e; exact fun h => absurd (HR.out.2 h) (by simp)
          · exact HA.out i (by omega), B2.out⟩
        case measure => simp [intOf]; omega
      | true =>
        go_wp2_with fail
        go_ret
        exact ⟨k, rfl, ⟨fun _ => ⟨k, lk, HR.out.1 (by simp)⟩, fun _ => by omega⟩, B2.out⟩
    · obtain rfl : k = s.n := by omega
      have HB := hid hb
      clear hb
      go_wp2_with fail
      go_ret
      exact ⟨-1, rfl, ⟨fun h => by omega, fun ⟨i, h1, h2⟩ => absurd h2 (HA.out i h1)⟩, HB.out⟩

set_option maxHeartbeats 1000000 in
theorem has_formE (s : Sl) (f : Nat → EV) (p : Nat → Prop) (w : World) (hn : s.n ≤ 1000) (hs : ∀ wx, Below w.heap.size w wx → Row 3 EAt wx s f)
    (hc : ∀ k, k < s.n → ∀ wx, Below w.heap.size w wx → Calls Tryz.prog 48 #[.agg #[.string (f k).name, .slice (f k).par.a (f k).par.n (f k).par.c, .int .i64 (f k).res]] wx fun e w' => Ans (fun r => r = true ↔ p k) wx e w') :
    Calls Tryz.prog 39 #[.slice s.a s.n s.c, .func (.func 48) #[] #[]] w fun e w' => Ans (fun r => r = true ↔ ∃ k, k < s.n ∧ p k) w e w' := by
  go_enter Tryz.func39, Tryz.ntmps39
  go_wp2_with fail
  refine (idx_formE s f p w hn hs hc).mono ?_
  rintro e w1 ⟨r, rfl, hr, hb⟩
  have HR := hid hr
  have HB := hid hb
  clear hr hb
  go_wp2_with fail
  go_ret
  exact ⟨decide (0 ≤ r), rfl, by rw [← HR.out]; simp, HB.out⟩

set_option maxHeartbeats 1000000 in
theorem idx_formF (s : Sl) (f : Nat → FV) (p : Nat → Prop) (w : World) (hn : s.n ≤ 1000) (hs : ∀ wx, Below w.heap.size w wx → Row 5 FAt wx s f)
    (hc : ∀ k, k < s.n → ∀ wx, Below w.heap.size w wx → Calls Tryz.prog 49 #[(f k).val] wx fun e w' => Ans (fun r => r = true ↔ p k) wx e w') :
    Calls Tryz.prog 74 #[.slice s.a s.n s.c, .func (.func 49) #[] #[]] w fun e w' => ∃ r : Int, e = .returned (.int .i64 r) ∧ (0 ≤ r ↔ ∃ k, k < s.n ∧ p k) ∧ Below w.heap.size w w' := by
  go_enter Tryz.func74, Tryz.ntmps74
  go_wp2_with fail
  go_loopw [8] (fun iv wr => ∃ k : Nat, k ≤ s.n ∧ iv = .int .i64 k ∧ (∀ i, i < k → ¬ p i) ∧ Below w.heap.size w wr) (fun iv _ => s.n - (intOf iv).toNat)
  case atStart => exact ⟨0, Nat.zero_le _, rfl, fun i hi => by omega, same w⟩
  case round =>
    obtain ⟨k, hk, rfl, hall, hb⟩ := hrel
    have HA := hid hall
    clear hall
    by_cases lk : k < s.n
    · obtain ⟨b, o, hix, c0, c1, c2, c3, c4⟩ := (hs wr hb).at underlying25 size43 lk
      have HB := hid hb
      go_wp2_with fail
      refine (hc k lk _ HB.out).mono ?_
      rintro e w2 ⟨r, rfl, hr, hb2⟩
      have HR := hid hr
      have B2 := hid (View.more HB.out hb2)
      clear hr hb2
      cases r with
      | false =>
        go_wp2_with fail
        go_round
        case rel => exact ⟨k + 1, by omega, by go_num, fun i hi => by
          by_cases e : i = k
          · subst e; exact fun h => absurd (HR.out.2 h) (by simp)
          · exact HA.out i (by omega), B2.out⟩
        case measure => simp [intOf]; omega
      | true =>
        go_wp2_with fail
        go_ret
        exact ⟨k, rfl, ⟨fun _ => ⟨k, lk, HR.out.1 (by simp)⟩, fun _ => by omega⟩, B2.out⟩
    · obtain rfl : k = s.n := by omega
      have HB := hid hb
      clear hb
      go_wp2_with fail
      go_ret
      exact ⟨-1, rfl, ⟨fun h => by omega, fun ⟨i, h1, h2⟩ => absurd h2 (HA.out i h1)⟩, HB.out⟩

set_option maxHeartbeats 1000000 in
theorem has_formF (s : Sl) (f : Nat → FV) (p : Nat → Prop) (w : World) (hn : s.n ≤ 1000) (hs : ∀ wx, Below w.heap.size w wx → Row 5 FAt wx s f)
    (hc : ∀ k, k < s.n → ∀ wx, Below w.heap.size w wx → Calls Tryz.prog 49 #[(f k).val] wx fun e w' => Ans (fun r => r = true ↔ p k) wx e w') :
    Calls Tryz.prog 46 #[.slice s.a s.n s.c, .func (.func 49) #[] #[]] w fun e w' => Ans (fun r => r = true ↔ ∃ k, k < s.n ∧ p k) w e w' := by
  go_enter Tryz.func46, Tryz.ntmps46
  go_wp2_with fail
  refine (idx_formF s f p w hn hs hc).mono ?_
  rintro e w1 ⟨r, rfl, hr, hb⟩
  have HR := hid hr
  have HB := hid hb
  clear hr hb
  go_wp2_with fail
  go_ret
  exact ⟨decide (0 ≤ r), rfl, by rw [← HR.out]; simp, HB.out⟩

set_option maxHeartbeats 1000000 in
theorem idx_inn (s : Sl) (f : Nat → Int) (p : Nat → Prop) (w : World) (hn : s.n ≤ 1000) (hs : ∀ wx, Below w.heap.size w wx → Ints wx s f)
    (hc : ∀ k, k < s.n → ∀ wx, Below w.heap.size w wx → Calls Tryz.prog 76 #[.int .i64 (f k)] wx fun e w' => Ans (fun r => r = true ↔ p k) wx e w') :
    Calls Tryz.prog 81 #[.slice s.a s.n s.c, .func (.func 76) #[] #[]] w fun e w' => ∃ r : Int, e = .returned (.int .i64 r) ∧ (0 ≤ r ↔ ∃ k, k < s.n ∧ p k) ∧ Below w.heap.size w w' := by
  go_enter Tryz.func81, Tryz.ntmps81
  go_wp2_with fail
  go_loopw [8] (fun iv wr => ∃ k : Nat, k ≤ s.n ∧ iv = .int .i64 k ∧ (∀ i, i < k → ¬ p i) ∧ Below w.heap.size w wr) (fun iv _ => s.n - (intOf iv).toNat)
  case atStart => exact ⟨0, Nat.zero_le _, rfl, fun i hi => by omega, same w⟩
  case round =>
    obtain ⟨k, hk, rfl, hall, hb⟩ := hrel
    have HA := hid hall
    clear hall
    by_cases lk : k < s.n
    · obtain ⟨b, o, hix, c0⟩ := (hs wr hb).at lk
      have HB := hid hb
      go_wp2_with fail
      refine (hc k lk _ HB.out).mono ?_
      rintro e w2 ⟨r, rfl, hr, hb2⟩
      have HR := hid hr
      have B2 := hid (View.more HB.out hb2)
      clear hr hb2
      cases r with
      | false =>
        go_wp2_with fail
        go_round
        case rel => exact ⟨k + 1, by omega, by go_num, fun i hi => by
          by_cases e : i = k
          · subst e; exact fun h => absurd (HR.out.2 h) (by simp)
          · exact HA.out i (by omega), B2.out⟩
        case measure => simp [intOf]; omega
      | true =>
        go_wp2_with fail
        go_ret
        exact ⟨k, rfl, ⟨fun _ => ⟨k, lk, HR.out.1 (by simp)⟩, fun _ => by omega⟩, B2.out⟩
    · obtain rfl : k = s.n := by omega
      have HB := hid hb
      clear hb
      go_wp2_with fail
      go_ret
      exact ⟨-1, rfl, ⟨fun h => by omega, fun ⟨i, h1, h2⟩ => absurd h2 (HA.out i h1)⟩, HB.out⟩

set_option maxHeartbeats 1000000 in
theorem has_inn (s : Sl) (f : Nat → Int) (p : Nat → Prop) (w : World) (hn : s.n ≤ 1000) (hs : ∀ wx, Below w.heap.size w wx → Ints wx s f)
    (hc : ∀ k, k < s.n → ∀ wx, Below w.heap.size w wx → Calls Tryz.prog 76 #[.int .i64 (f k)] wx fun e w' => Ans (fun r => r = true ↔ p k) wx e w') :
    Calls Tryz.prog 53 #[.slice s.a s.n s.c, .func (.func 76) #[] #[]] w fun e w' => Ans (fun r => r = true ↔ ∃ k, k < s.n ∧ p k) w e w' := by
  go_enter Tryz.func53, Tryz.ntmps53
  go_wp2_with fail
  refine (idx_inn s f p w hn hs hc).mono ?_
  rintro e w1 ⟨r, rfl, hr, hb⟩
  have HR := hid hr
  have HB := hid hb
  clear hr hb
  go_wp2_with fail
  go_ret
  exact ⟨decide (0 ≤ r), rfl, by rw [← HR.out]; simp, HB.out⟩

set_option maxHeartbeats 1000000 in
theorem idx_noT (s : Sl) (f : Nat → Int) (p : Nat → Prop) (w : World) (hn : s.n ≤ 1000) (hs : ∀ wx, Below w.heap.size w wx → Ints wx s f)
    (hc : ∀ k, k < s.n → ∀ wx, Below w.heap.size w wx → Calls Tryz.prog 77 #[.int .i64 (f k)] wx fun e w' => Ans (fun r => r = true ↔ p k) wx e w') :
    Calls Tryz.prog 81 #[.slice s.a s.n s.c, .func (.func 77) #[] #[]] w fun e w' => ∃ r : Int, e = .returned (.int .i64 r) ∧ (0 ≤ r ↔ ∃ k, k < s.n ∧ p k) ∧ Below w.heap.size w w' := by
  go_enter Tryz.func81, Tryz.ntmps81
  go_wp2_with fail
  go_loopw [8] (fun iv wr => ∃ k : Nat, k ≤ s.n ∧ iv = .int .i64 k ∧ (∀ i, i < k → ¬ p i) ∧ Below w.heap.size w wr) (fun iv _ => s.n - (intOf iv).toNat)
  case atStart => exact ⟨0, Nat.zero_le _, rfl, fun i hi => by omega, same w⟩
  case round =>
    obtain ⟨k, hk, rfl, hall, hb⟩ := hrel
    have HA := hid hall
    clear hall
    by_cases lk : k < s.n
    · obtain ⟨b, o, hix, c0⟩ := (hs wr hb).at lk
      have HB := hid hb
      go_wp2_with fail
      refine (hc k lk _ HB.out).mono ?_
      rintro e w2 ⟨r, rfl, hr, hb2⟩
      have HR := hid hr
      have B2 := hid (View.more HB.out hb2)
      clear hr hb2
      cases r with
      | false =>
        go_wp2_with fail
        go_round
        case rel => exact ⟨k + 1, by omega, by go_num, fun i hi => by
          by_cases e : i = k
          · subst e; exact fun h => absurd (HR.out.2 h) (by simp)
          · exact HA.out i (by omega), B2.out⟩
        case measure => simp [intOf]; omega
      | true =>
        go_wp2_with fail
        go_ret
        exact ⟨k, rfl, ⟨fun _ => ⟨k, lk, HR.out.1 (by simp)⟩, fun _ => by omega⟩, B2.out⟩
    · obtain rfl : k = s.n := by omega
      have HB := hid hb
      clear hb
      go_wp2_with fail
      go_ret
      exact ⟨-1, rfl, ⟨fun h => by omega, fun ⟨i, h1, h2⟩ => absurd h2 (HA.out i h1)⟩, HB.out⟩

set_option maxHeartbeats 1000000 in
theorem has_noT (s : Sl) (f : Nat → Int) (p : Nat → Prop) (w : World) (hn : s.n ≤ 1000) (hs : ∀ wx, Below w.heap.size w wx → Ints wx s f)
    (hc : ∀ k, k < s.n → ∀ wx, Below w.heap.size w wx → Calls Tryz.prog 77 #[.int .i64 (f k)] wx fun e w' => Ans (fun r => r = true ↔ p k) wx e w') :
    Calls Tryz.prog 53 #[.slice s.a s.n s.c, .func (.func 77) #[] #[]] w fun e w' => Ans (fun r => r = true ↔ ∃ k, k < s.n ∧ p k) w e w' := by
  go_enter Tryz.func53, Tryz.ntmps53
  go_wp2_with fail
  refine (idx_noT s f p w hn hs hc).mono ?_
  rintro e w1 ⟨r, rfl, hr, hb⟩
  have HR := hid hr
  have HB := hid hb
  clear hr hb
  go_wp2_with fail
  go_ret
  exact ⟨decide (0 ≤ r), rfl, by rw [← HR.out]; simp, HB.out⟩

set_option maxHeartbeats 1000000 in
theorem idx_formB (s : Sl) (f : Nat → Sl) (p : Nat → Prop) (w : World) (hn : s.n ≤ 1000) (hs : ∀ wx, Below w.heap.size w wx → Sls wx s f)
    (hc : ∀ k, k < s.n → ∀ wx, Below w.heap.size w wx → Calls Tryz.prog 80 #[.agg #[.slice (f k).a (f k).n (f k).c]] wx fun e w' => Ans (fun r => r = true ↔ p k) wx e w') :
    Calls Tryz.prog 98 #[.slice s.a s.n s.c, .func (.func 80) #[] #[]] w fun e w' => ∃ r : Int, e = .returned (.int .i64 r) ∧ (0 ≤ r ↔ ∃ k, k < s.n ∧ p k) ∧ Below w.heap.size w w' := by
  go_enter Tryz.func98, Tryz.ntmps98
  go_wp2_with fail
  go_loopw [8] (fun iv wr => ∃ k : Nat, k ≤ s.n ∧ iv = .int .i64 k ∧ (∀ i, i < k → ¬ p i) ∧ Below w.heap.size w wr) (fun iv _ => s.n - (intOf iv).toNat)
  case atStart => exact ⟨0, Nat.zero_le _, rfl, fun i hi => by omega, same w⟩
  case round =>
    obtain ⟨k, hk, rfl, hall, hb⟩ := hrel
    have HA := hid hall
    clear hall
    by_cases lk : k < s.n
    · obtain ⟨b, o, hix, c0⟩ := (hs wr hb).at lk
      have HB := hid hb
      go_wp2_with fail
      refine (hc k lk _ HB.out).mono ?_
      rintro e w2 ⟨r, rfl, hr, hb2⟩
      have HR := hid hr
      have B2 := hid (View.more HB.out hb2)
      clear hr hb2
      cases r with
      | false =>
        go_wp2_with fail
        go_round
        case rel => exact ⟨k + 1, by omega, by go_num, fun i hi => by
          by_cases e : i = k
          · subst e; exact fun h => absurd (HR.out.2 h) (by simp)
          · exact HA.out i (by omega), B2.out⟩
        case measure => simp [intOf]; omega
      | true =>
        go_wp2_with fail
        go_ret
        exact ⟨k, rfl, ⟨fun _ => ⟨k, lk, HR.out.1 (by simp)⟩, fun _ => by omega⟩, B2.out⟩
    · obtain rfl : k = s.n := by omega
      have HB := hid hb
      clear hb
      go_wp2_with fail
      go_ret
      exact ⟨-1, rfl, ⟨fun h => by omega, fun ⟨i, h1, h2⟩ => absurd h2 (HA.out i h1)⟩, HB.out⟩

set_option maxHeartbeats 1000000 in
theorem has_formB (s : Sl) (f : Nat → Sl) (p : Nat → Prop) (w : World) (hn : s.n ≤ 1000) (hs : ∀ wx, Below w.heap.size w wx → Sls wx s f)
    (hc : ∀ k, k < s.n → ∀ wx, Below w.heap.size w wx → Calls Tryz.prog 80 #[.agg #[.slice (f k).a (f k).n (f k).c]] wx fun e w' => Ans (fun r => r = true ↔ p k) wx e w') :
    Calls Tryz.prog 79 #[.slice s.a s.n s.c, .func (.func 80) #[] #[]] w fun e w' => Ans (fun r => r = true ↔ ∃ k, k < s.n ∧ p k) w e w' := by
  go_enter Tryz.func79, Tryz.ntmps79
  go_wp2_with fail
  refine (idx_formB s f p w hn hs hc).mono ?_
  rintro e w1 ⟨r, rfl, hr, hb⟩
  have HR := hid hr
  have HB := hid hb
  clear hr hb
  go_wp2_with fail
  go_ret
  exact ⟨decide (0 ≤ r), rfl, by rw [← HR.out]; simp, HB.out⟩

set_option maxHeartbeats 1000000 in
theorem idx_formI (s : Sl) (f : Nat → IV) (p : Nat → Prop) (w : World) (hn : s.n ≤ 1000) (hs : ∀ wx, Below w.heap.size w wx → Inss wx s f)
    (hc : ∀ k, k < s.n → ∀ wx, Below w.heap.size w wx → Calls Tryz.prog 99 #[(f k).val] wx fun e w' => Ans (fun r => r = true ↔ p k) wx e w') :
    Calls Tryz.prog 82 #[.slice s.a s.n s.c, .func (.func 99) #[] #[]] w fun e w' => ∃ r : Int, e = .returned (.int .i64 r) ∧ (0 ≤ r ↔ ∃ k, k < s.n ∧ p k) ∧ Below w.heap.size w w' := by
  go_enter Tryz.func82, Tryz.ntmps82
  go_wp2_with fail
  go_loopw [8] (fun iv wr => ∃ k : Nat, k ≤ s.n ∧ iv = .int .i64 k ∧ (∀ i, i < k → ¬ p i) ∧ Below w.heap.size w wr) (fun iv _ => s.n - (intOf iv).toNat)
  case atStart => exact ⟨0, Nat.zero_le _, rfl, fun i hi => by omega, same w⟩
  case round =>
    obtain ⟨k, hk, rfl, hall, hb⟩ := hrel
    have HA := hid hall
    clear hall
    by_cases lk : k < s.n
    · obtain ⟨b, o, hix, c0, c1, c2, c3, c4, c5, c6⟩ := (hs wr hb).at lk
      have HB := hid hb
      go_wp2_with fail
      refine (hc k lk _ HB.out).mono ?_
      rintro e w2 ⟨r, rfl, hr, hb2⟩
      have HR := hid hr
      have B2 := hid (View.more HB.out hb2)
      clear hr hb2
      cases r with
      | false =>
        go_wp2_with fail
        go_round
        case rel => exact ⟨k + 1, by omega, by go_num, fun i hi => by
          by_cases e : i = k
          · subst e; exact fun h => absurd (HR.out.2 h) (by simp)
          · exact HA.out i (by omega), B2.out⟩
        case measure => simp [intOf]; omega
      | true =>
        go_wp2_with fail
        go_ret
        exact ⟨k, rfl, ⟨fun _ => ⟨k, lk, HR.out.1 (by simp)⟩, fun _ => by omega⟩, B2.out⟩
    · obtain rfl : k = s.n := by omega
      have HB := hid hb
      clear hb
      go_wp2_with fail
      go_ret
      exact ⟨-1, rfl, ⟨fun h => by omega, fun ⟨i, h1, h2⟩ => absurd h2 (HA.out i h1)⟩, HB.out⟩

set_option maxHeartbeats 1000000 in
theorem has_formI (s : Sl) (f : Nat → IV) (p : Nat → Prop) (w : World) (hn : s.n ≤ 1000) (hs : ∀ wx, Below w.heap.size w wx → Inss wx s f)
    (hc : ∀ k, k < s.n → ∀ wx, Below w.heap.size w wx → Calls Tryz.prog 99 #[(f k).val] wx fun e w' => Ans (fun r => r = true ↔ p k) wx e w') :
    Calls Tryz.prog 56 #[.slice s.a s.n s.c, .func (.func 99) #[] #[]] w fun e w' => Ans (fun r => r = true ↔ ∃ k, k < s.n ∧ p k) w e w' := by
  go_enter Tryz.func56, Tryz.ntmps56
  go_wp2_with fail
  refine (idx_formI s f p w hn hs hc).mono ?_
  rintro e w1 ⟨r, rfl, hr, hb⟩
  have HR := hid hr
  have HB := hid hb
  clear hr hb
  go_wp2_with fail
  go_ret
  exact ⟨decide (0 ≤ r), rfl, by rw [← HR.out]; simp, HB.out⟩

set_option maxHeartbeats 1000000 in
theorem idx_flowF (s : Sl) (f : Nat → FV) (p : Nat → Prop) (w : World) (hn : s.n ≤ 1000) (hs : ∀ wx, Below w.heap.size w wx → Row 5 FAt wx s f)
    (hc : ∀ k, k < s.n → ∀ wx, Below w.heap.size w wx → Calls Tryz.prog 57 #[(f k).val] wx fun e w' => Ans (fun r => r = true ↔ p k) wx e w') :
    Calls Tryz.prog 74 #[.slice s.a s.n s.c, .func (.func 57) #[] #[]] w fun e w' => ∃ r : Int, e = .returned (.int .i64 r) ∧ (0 ≤ r ↔ ∃ k, k < s.n ∧ p k) ∧ Below w.heap.size w w' := by
  go_enter Tryz.func74, Tryz.ntmps74
  go_wp2_with fail
  go_loopw [8] (fun iv wr => ∃ k : Nat, k ≤ s.n ∧ iv = .int .i64 k ∧ (∀ i, i < k → ¬ p i) ∧ Below w.heap.size w wr) (fun iv _ => s.n - (intOf iv).toNat)
  case atStart => exact ⟨0, Nat.zero_le _, rfl, fun i hi => by omega, same w⟩
  case round =>
    obtain ⟨k, hk, rfl, hall, hb⟩ := hrel
    have HA := hid hall
    clear hall
    by_cases lk : k < s.n
    · obtain ⟨b, o, hix, c0, c1, c2, c3, c4⟩ := (hs wr hb).at underlying25 size43 lk
      have HB := hid hb
      go_wp2_with fail
      refine (hc k lk _ HB.out).mono ?_
      rintro e w2 ⟨r, rfl, hr, hb2⟩
      have HR := hid hr
      have B2 := hid (View.more HB.out hb2)
      clear hr hb2
      cases r with
      | false =>
        go_wp2_with fail
        go_round
        case rel => exact ⟨k + 1, by omega, by go_num, fun i hi => by
          by_cases e : i = k
          · subst e; exact fun h => absurd (HR.out.2 h) (by simp)
          · exact HA.out i (by omega), B2.out⟩
        case measure => simp [intOf]; omega
      | true =>
        go_wp2_with fail
        go_ret
        exact ⟨k, rfl, ⟨fun _ => ⟨k, lk, HR.out.1 (by simp)⟩, fun _ => by omega⟩, B2.out⟩
    · obtain rfl : k = s.n := by omega
      have HB := hid hb
      clear hb
      go_wp2_with fail
      go_ret
      exact ⟨-1, rfl, ⟨fun h => by omega, fun ⟨i, h1, h2⟩ => absurd h2 (HA.out i h1)⟩, HB.out⟩

set_option maxHeartbeats 1000000 in
theorem has_flowF (s : Sl) (f : Nat → FV) (p : Nat → Prop) (w : World) (hn : s.n ≤ 1000) (hs : ∀ wx, Below w.heap.size w wx → Row 5 FAt wx s f)
    (hc : ∀ k, k < s.n → ∀ wx, Below w.heap.size w wx → Calls Tryz.prog 57 #[(f k).val] wx fun e w' => Ans (fun r => r = true ↔ p k) wx e w') :
    Calls Tryz.prog 46 #[.slice s.a s.n s.c, .func (.func 57) #[] #[]] w fun e w' => Ans (fun r => r = true ↔ ∃ k, k < s.n ∧ p k) w e w' := by
  go_enter Tryz.func46, Tryz.ntmps46
  go_wp2_with fail
  refine (idx_flowF s f p w hn hs hc).mono ?_
  rintro e w1 ⟨r, rfl, hr, hb⟩
  have HR := hid hr
  have HB := hid hb
  clear hr hb
  go_wp2_with fail
  go_ret
  exact ⟨decide (0 ≤ r), rfl, by rw [← HR.out]; simp, HB.out⟩

set_option maxHeartbeats 1000000 in
theorem idx_useF (s : Sl) (f : Nat → FV) (p : Nat → Prop) (w : World) (hn : s.n ≤ 1000) (hs : ∀ wx, Below w.heap.size w wx → Row 5 FAt wx s f)
    (hc : ∀ k, k < s.n → ∀ wx, Below w.heap.size w wx → Calls Tryz.prog 58 #[(f k).val] wx fun e w' => Ans (fun r => r = true ↔ p k) wx e w') :
    Calls Tryz.prog 74 #[.slice s.a s.n s.c, .func (.func 58) #[] #[]] w fun e w' => ∃ r : Int, e = .returned (.int .i64 r) ∧ (0 ≤ r ↔ ∃ k, k < s.n ∧ p k) ∧ Below w.heap.size w w' := by
  go_enter Tryz.func74, Tryz.ntmps74
  go_wp2_with fail
  go_loopw [8] (fun iv wr => ∃ k : Nat, k ≤ s.n ∧ iv = .int .i64 k ∧ (∀ i, i < k → ¬ p i) ∧ Below w.heap.size w wr) (fun iv _ => s.n - (intOf iv).toNat)
  case atStart => exact ⟨0, Nat.zero_le _, rfl, fun i hi => by omega, same w⟩
  case round =>
    obtain ⟨k, hk, rfl, hall, hb⟩ := hrel
    have HA := hid hall
    clear hall
    by_cases lk : k < s.n
    · obtain ⟨b, o, hix, c0, c1, c2, c3, c4⟩ := (hs wr hb).at underlying25 size43 lk
      have HB := hid hb
      go_wp2_with fail
      refine (hc k lk _ HB.out).mono ?_
      rintro e w2 ⟨r, rfl, hr, hb2⟩
      have HR := hid hr
      have B2 := hid (View.more HB.out hb2)
      clear hr hb2
      cases r with
      | false =>
        go_wp2_with fail
        go_round
        case rel => exact ⟨k + 1, by omega, by go_num, fun i hi => by
          by_cases e : i = k
          · subst e; exact fun h => absurd (HR.out.2 h) (by simp)
          · exact HA.out i (by omega), B2.out⟩
        case measure => simp [intOf]; omega
      | true =>
        go_wp2_with fail
        go_ret
        exact ⟨k, rfl, ⟨fun _ => ⟨k, lk, HR.out.1 (by simp)⟩, fun _ => by omega⟩, B2.out⟩
    · obtain rfl : k = s.n := by omega
      have HB := hid hb
      clear hb
      go_wp2_with fail
      go_ret
      exact ⟨-1, rfl, ⟨fun h => by omega, fun ⟨i, h1, h2⟩ => absurd h2 (HA.out i h1)⟩, HB.out⟩

set_option maxHeartbeats 1000000 in
theorem has_useF (s : Sl) (f : Nat → FV) (p : Nat → Prop) (w : World) (hn : s.n ≤ 1000) (hs : ∀ wx, Below w.heap.size w wx → Row 5 FAt wx s f)
    (hc : ∀ k, k < s.n → ∀ wx, Below w.heap.size w wx → Calls Tryz.prog 58 #[(f k).val] wx fun e w' => Ans (fun r => r = true ↔ p k) wx e w') :
    Calls Tryz.prog 46 #[.slice s.a s.n s.c, .func (.func 58) #[] #[]] w fun e w' => Ans (fun r => r = true ↔ ∃ k, k < s.n ∧ p k) w e w' := by
  go_enter Tryz.func46, Tryz.ntmps46
  go_wp2_with fail
  refine (idx_useF s f p w hn hs hc).mono ?_
  rintro e w1 ⟨r, rfl, hr, hb⟩
  have HR := hid hr
  have HB := hid hb
  clear hr hb
  go_wp2_with fail
  go_ret
  exact ⟨decide (0 ≤ r), rfl, by rw [← HR.out]; simp, HB.out⟩

set_option maxHeartbeats 1000000 in
theorem idx_symi (s : Sl) (f : Nat → Int) (p : Nat → Prop) (c : Addr) (w : World) (hn : s.n ≤ 1000) (hs : ∀ wx, Below w.heap.size w wx → Ints wx s f)
    (hc : ∀ k, k < s.n → ∀ wx, Below w.heap.size w wx → Calls Tryz.prog 51 #[.int .i64 (f k), .pointer (some c)] wx fun e w' => Ans (fun r => r = true ↔ p k) wx e w') :
    Calls Tryz.prog 81 #[.slice s.a s.n s.c, .func (.func 51) #[] #[.pointer (some c)]] w fun e w' => ∃ r : Int, e = .returned (.int .i64 r) ∧ (0 ≤ r ↔ ∃ k, k < s.n ∧ p k) ∧ Below w.heap.size w w' := by
  go_enter Tryz.func81, Tryz.ntmps81
  go_wp2_with fail
  go_loopw [8] (fun iv wr => ∃ k : Nat, k ≤ s.n ∧ iv = .int .i64 k ∧ (∀ i, i < k → ¬ p i) ∧ Below w.heap.size w wr) (fun iv _ => s.n - (intOf iv).toNat)
  case atStart => exact ⟨0, Nat.zero_le _, rfl, fun i hi => by omega, same w⟩
  case round =>
    obtain ⟨k, hk, rfl, hall, hb⟩ := hrel
    have HA := hid hall
    clear hall
    by_cases lk : k < s.n
    · obtain ⟨b, o, hix, c0⟩ := (hs wr hb).at lk
      have HB := hid hb
      go_wp2_with fail
      refine (hc k lk _ HB.out).mono ?_
      rintro e w2 ⟨r, rfl, hr, hb2⟩
      have HR := hid hr
      have B2 := hid (View.more HB.out hb2)
      clear hr hb2
      cases r with
      | false =>
        go_wp2_with fail
        go_round
        case rel => exact ⟨k + 1, by omega, by go_num, fun i hi => by
          by_cases e : i = k
          · subst e; exact fun h => absurd (HR.out.2 h) (by simp)
          · exact HA.out i (by omega), B2.out⟩
        case measure => simp [intOf]; omega
      | true =>
        go_wp2_with fail
        go_ret
        exact ⟨k, rfl, ⟨fun _ => ⟨k, lk, HR.out.1 (by simp)⟩, fun _ => by omega⟩, B2.out⟩
    · obtain rfl : k = s.n := by omega
      have HB := hid hb
      clear hb
      go_wp2_with fail
      go_ret
      exact ⟨-1, rfl, ⟨fun h => by omega, fun ⟨i, h1, h2⟩ => absurd h2 (HA.out i h1)⟩, HB.out⟩

set_option maxHeartbeats 1000000 in
theorem has_symi (s : Sl) (f : Nat → Int) (p : Nat → Prop) (c : Addr) (w : World) (hn : s.n ≤ 1000) (hs : ∀ wx, Below w.heap.size w wx → Ints wx s f)
    (hc : ∀ k, k < s.n → ∀ wx, Below w.heap.size w wx → Calls Tryz.prog 51 #[.int .i64 (f k), .pointer (some c)] wx fun e w' => Ans (fun r => r = true ↔ p k) wx e w') :
    Calls Tryz.prog 53 #[.slice s.a s.n s.c, .func (.func 51) #[] #[.pointer (some c)]] w fun e w' => Ans (fun r => r = true ↔ ∃ k, k < s.n ∧ p k) w e w' := by
  go_enter Tryz.func53, Tryz.ntmps53
  go_wp2_with fail
  refine (idx_symi s f p c w hn hs hc).mono ?_
  rintro e w1 ⟨r, rfl, hr, hb⟩
  have HR := hid hr
  have HB := hid hb
  clear hr hb
  go_wp2_with fail
  go_ret
  exact ⟨decide (0 ≤ r), rfl, by rw [← HR.out]; simp, HB.out⟩

set_option maxHeartbeats 1000000 in
theorem idx_symI (s : Sl) (f : Nat → IV) (p : Nat → Prop) (c : Addr) (w : World) (hn : s.n ≤ 1000) (hs : ∀ wx, Below w.heap.size w wx → Inss wx s f)
    (hc : ∀ k, k < s.n → ∀ wx, Below w.heap.size w wx → Calls Tryz.prog 54 #[(f k).val, .pointer (some c)] wx fun e w' => Ans (fun r => r = true ↔ p k) wx e w') :
    Calls Tryz.prog 82 #[.slice s.a s.n s.c, .func (.func 54) #[] #[.pointer (some c)]] w fun e w' => ∃ r : Int, e = .returned (.int .i64 r) ∧ (0 ≤ r ↔ ∃ k, k < s.n ∧ p k) ∧ Below w.heap.size w w' := by
  go_enter Tryz.func82, Tryz.ntmps82
  go_wp2_with fail
  go_loopw [8] (fun iv wr => ∃ k : Nat, k ≤ s.n ∧ iv = .int .i64 k ∧ (∀ i, i < k → ¬ p i) ∧ Below w.heap.size w wr) (fun iv _ => s.n - (intOf iv).toNat)
  case atStart => exact ⟨0, Nat.zero_le _, rfl, fun i hi => by omega, same w⟩
  case round =>
    obtain ⟨k, hk, rfl, hall, hb⟩ := hrel
    have HA := hid hall
    clear hall
    by_cases lk : k < s.n
    · obtain ⟨b, o, hix, c0, c1, c2, c3, c4, c5, c6⟩ := (hs wr hb).at lk
      have HB := hid hb
      go_wp2_with fail
      refine (hc k lk _ HB.out).mono ?_
      rintro e w2 ⟨r, rfl, hr, hb2⟩
      have HR := hid hr
      have B2 := hid (View.more HB.out hb2)
      clear hr hb2
      cases r with
      | false =>
        go_wp2_with fail
        go_round
        case rel => exact ⟨k + 1, by omega, by go_num, fun i hi => by
          by_cases e : i = k
          · subst e; exact fun h => absurd (HR.out.2 h) (by simp)
          · exact HA.out i (by omega), B2.out⟩
        case measure => simp [intOf]; omega
      | true =>
        go_wp2_with fail
        go_ret
        exact ⟨k, rfl, ⟨fun _ => ⟨k, lk, HR.out.1 (by simp)⟩, fun _ => by omega⟩, B2.out⟩
    · obtain rfl : k = s.n := by omega
      have HB := hid hb
      clear hb
      go_wp2_with fail
      go_ret
      exact ⟨-1, rfl, ⟨fun h => by omega, fun ⟨i, h1, h2⟩ => absurd h2 (HA.out i h1)⟩, HB.out⟩

set_option maxHeartbeats 1000000 in
theorem has_symI (s : Sl) (f : Nat → IV) (p : Nat → Prop) (c : Addr) (w : World) (hn : s.n ≤ 1000) (hs : ∀ wx, Below w.heap.size w wx → Inss wx s f)
    (hc : ∀ k, k < s.n → ∀ wx, Below w.heap.size w wx → Calls Tryz.prog 54 #[(f k).val, .pointer (some c)] wx fun e w' => Ans (fun r => r = true ↔ p k) wx e w') :
    Calls Tryz.prog 56 #[.slice s.a s.n s.c, .func (.func 54) #[] #[.pointer (some c)]] w fun e w' => Ans (fun r => r = true ↔ ∃ k, k < s.n ∧ p k) w e w' := by
  go_enter Tryz.func56, Tryz.ntmps56
  go_wp2_with fail
  refine (idx_symI s f p c w hn hs hc).mono ?_
  rintro e w1 ⟨r, rfl, hr, hb⟩
  have HR := hid hr
  have HB := hid hb
  clear hr hb
  go_wp2_with fail
  go_ret
  exact ⟨decide (0 ≤ r), rfl, by rw [← HR.out]; simp, HB.out⟩

end Go.Proofs.YtbmfimojhcdnbaaGreat.Wf
