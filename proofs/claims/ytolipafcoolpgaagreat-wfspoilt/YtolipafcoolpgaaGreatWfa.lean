/-
  slices.ContainsFunc with each function that wf hands it: is there one of which it holds?
-/
import Derived.Test.YtolipafcoolpgaaGreatJ1
import Derived.Test.YtolipafcoolpgaaGreatJ0
namespace Go.Proofs.YtolipafcoolpgaaGreat.Wf
open Go.RowKit View Rd Num Opn Copy Ty Srt Go.Proofs.YtolipafcoolpgaaGreat.Mod

set_option linter.unusedVariables false

set_option maxHeartbeats 1000000 in
theorem idx_limE (s : Sl) (f : Nat → EV) (p : Nat → Prop) (w : World) (hn : s.n ≤ 1000) (hs : ∀ wx, Below w.heap.size w wx → Row 3 EAt wx s f)
  (hc : ∀ k, k < s.n → ∀ wx, Below w.heap.size w wx → Calls Tryz.prog 63 #[.agg #[.string (f k).name, .slice (f k).par.a (f k).par.n (f k).par.c, .int .i64 (f k).res]] wx fun e w' => Ans (fun r => r = true ↔ p k) wx e w') :
  Calls Tryz.prog 113 #[.slice s.a s.n s.c, .func (.func 63) #[] #[]] w fun e w' => ∃ r : Int, e = .returned (.int .i64 r) ∧ (0 ≤ r ↔ ∃ k, k < s.n ∧ p k) ∧ Below w.heap.size w w' := by
 go_enter Tryz.func113, Tryz.ntmps113
 go_wp2_with fail
 go_loopw [8] (fun iv wr => ∃ k : Nat, k ≤ s.n ∧ iv = .int .i64 k ∧ (∀ i, i < k → ¬ p i) ∧ Below w.heap.size w wr) (fun iv _ => s.n - (intOf iv).toNat)
 case atStart => exact ⟨0, Nat.zero_le _, rfl, fun i hi => by omega, same w⟩
 case round =>
  obtain ⟨k, hk, rfl, hall, hb⟩ := hrel
  have HA := hid hall
  clear hall
  by_cases lk : k < s.n
  ·obtain ⟨b, o, hix, c0, c1, c2⟩ := (hs wr hb).at underlying22 size65 lk
   have HB := hid hb
   go_wp2_with fail
   refine (hc k lk _ HB.out).mono ?_
   rintro e w2 ⟨r, rfl, hr, hb2⟩
   have HR := hid hr
   have B2 := hid (View.more HB.out hb2)
   clear hr hb2
   cases r with
   | false =>
    go_wp2_with fail
    go_round
    case rel => exact ⟨k + 1, by omega, by go_num, fun i hi => by
     by_cases e : i = k
     ·subst e; exact fun h => absurd (HR.out.2 h) (by simp)
     ·exact HA.out i (by omega), B2.out⟩
    case measure => simp [intOf]; omega
   | true =>
    go_wp2_with fail
    go_ret
    exact ⟨k, rfl, ⟨fun _ => ⟨k, lk, HR.out.1 (by simp)⟩, fun _ => by omega⟩, B2.out⟩
  ·obtain rfl : k = s.n := by omega
   have HB := hid hb
   clear hb
   go_wp2_with fail
   go_ret
   exact ⟨-1, rfl, ⟨fun h => by omega, fun ⟨i, h1, h2⟩ => absurd h2 (HA.out i h1)⟩, HB.out⟩

set_option maxHeartbeats 1000000 in
theorem has_limE (s : Sl) (f : Nat → EV) (p : Nat → Prop) (w : World) (hn : s.n ≤ 1000) (hs : ∀ wx, Below w.heap.size w wx → Row 3 EAt wx s f)
  (hc : ∀ k, k < s.n → ∀ wx, Below w.heap.size w wx → Calls Tryz.prog 63 #[.agg #[.string (f k).name, .slice (f k).par.a (f k).par.n (f k).par.c, .int .i64 (f k).res]] wx fun e w' => Ans (fun r => r = true ↔ p k) wx e w') :
  Calls Tryz.prog 62 #[.slice s.a s.n s.c, .func (.func 63) #[] #[]] w fun e w' => Ans (fun r => r = true ↔ ∃ k, k < s.n ∧ p k) w e w' := by
 go_enter Tryz.func62, Tryz.ntmps62
 go_wp2_with fail
 refine (idx_limE s f p w hn hs hc).mono ?_
 rintro e w1 ⟨r, rfl, hr, hb⟩
 have HR := hid hr
 have HB := hid hb
 clear hr hb
 go_wp2_with fail
 go_ret
 exact ⟨decide (0 ≤ r), rfl, by rw [← HR.out]; simp, HB.out⟩

set_option maxHeartbeats 1000000 in
theorem idx_limG (s : Sl) (f : Nat → GV) (p : Nat → Prop) (w : World) (hn : s.n ≤ 1000) (hs : ∀ wx, Below w.heap.size w wx → Row 2 GAt wx s f)
  (hc : ∀ k, k < s.n → ∀ wx, Below w.heap.size w wx → Calls Tryz.prog 65 #[.agg #[.string (f k).name, .slice (f k).cel.a (f k).cel.n (f k).cel.c]] wx fun e w' => Ans (fun r => r = true ↔ p k) wx e w') :
  Calls Tryz.prog 114 #[.slice s.a s.n s.c, .func (.func 65) #[] #[]] w fun e w' => ∃ r : Int, e = .returned (.int .i64 r) ∧ (0 ≤ r ↔ ∃ k, k < s.n ∧ p k) ∧ Below w.heap.size w w' := by
 go_enter Tryz.func114, Tryz.ntmps114
 go_wp2_with fail
 go_loopw [8] (fun iv wr => ∃ k : Nat, k ≤ s.n ∧ iv = .int .i64 k ∧ (∀ i, i < k → ¬ p i) ∧ Below w.heap.size w wr) (fun iv _ => s.n - (intOf iv).toNat)
 case atStart => exact ⟨0, Nat.zero_le _, rfl, fun i hi => by omega, same w⟩
 case round =>
  obtain ⟨k, hk, rfl, hall, hb⟩ := hrel
  have HA := hid hall
  clear hall
  by_cases lk : k < s.n
  ·obtain ⟨b, o, hix, c0, c1⟩ := (hs wr hb).at underlying23 size47 lk
   have HB := hid hb
   go_wp2_with fail
   refine (hc k lk _ HB.out).mono ?_
   rintro e w2 ⟨r, rfl, hr, hb2⟩
   have HR := hid hr
   have B2 := hid (View.more HB.out hb2)
   clear hr hb2
   cases r with
   | false =>
    go_wp2_with fail
    go_round
    case rel => exact ⟨k + 1, by omega, by go_num, fun i hi => by
     by_cases e : i = k
     ·subst e; exact fun h => absurd (HR.out.2 h) (by simp)
     ·exact HA.out i (by omega), B2.out⟩
    case measure => simp [intOf]; omega
   | true =>
    go_wp2_with fail
    go_ret
    exact ⟨k, rfl, ⟨fun _ => ⟨k, lk, HR.out.1 (by simp)⟩, fun _ => by omega⟩, B2.out⟩
  ·obtain rfl : k = s.n := by omega
   have HB := hid hb
   clear hb
   go_wp2_with fail
   go_ret
   exact ⟨-1, rfl, ⟨fun h => by omega, fun ⟨i, h1, h2⟩ => absurd h2 (HA.out i h1)⟩, HB.out⟩

set_option maxHeartbeats 1000000 in
theorem has_limG (s : Sl) (f : Nat → GV) (p : Nat → Prop) (w : World) (hn : s.n ≤ 1000) (hs : ∀ wx, Below w.heap.size w wx → Row 2 GAt wx s f)
  (hc : ∀ k, k < s.n → ∀ wx, Below w.heap.size w wx → Calls Tryz.prog 65 #[.agg #[.string (f k).name, .slice (f k).cel.a (f k).cel.n (f k).cel.c]] wx fun e w' => Ans (fun r => r = true ↔ p k) wx e w') :
  Calls Tryz.prog 64 #[.slice s.a s.n s.c, .func (.func 65) #[] #[]] w fun e w' => Ans (fun r => r = true ↔ ∃ k, k < s.n ∧ p k) w e w' := by
 go_enter Tryz.func64, Tryz.ntmps64
 go_wp2_with fail
 refine (idx_limG s f p w hn hs hc).mono ?_
 rintro e w1 ⟨r, rfl, hr, hb⟩
 have HR := hid hr
 have HB := hid hb
 clear hr hb
 go_wp2_with fail
 go_ret
 exact ⟨decide (0 ≤ r), rfl, by rw [← HR.out]; simp, HB.out⟩

set_option maxHeartbeats 1000000 in
theorem idx_limT (s : Sl) (f : Nat → GV) (p : Nat → Prop) (w : World) (hn : s.n ≤ 1000) (hs : ∀ wx, Below w.heap.size w wx → Row 2 GAt wx s f)
  (hc : ∀ k, k < s.n → ∀ wx, Below w.heap.size w wx → Calls Tryz.prog 68 #[.agg #[.string (f k).name, .slice (f k).cel.a (f k).cel.n (f k).cel.c]] wx fun e w' => Ans (fun r => r = true ↔ p k) wx e w') :
  Calls Tryz.prog 115 #[.slice s.a s.n s.c, .func (.func 68) #[] #[]] w fun e w' => ∃ r : Int, e = .returned (.int .i64 r) ∧ (0 ≤ r ↔ ∃ k, k < s.n ∧ p k) ∧ Below w.heap.size w w' := by
 go_enter Tryz.func115, Tryz.ntmps115
 go_wp2_with fail
 go_loopw [8] (fun iv wr => ∃ k : Nat, k ≤ s.n ∧ iv = .int .i64 k ∧ (∀ i, i < k → ¬ p i) ∧ Below w.heap.size w wr) (fun iv _ => s.n - (intOf iv).toNat)
 case atStart => exact ⟨0, Nat.zero_le _, rfl, fun i hi => by omega, same w⟩
 case round =>
  obtain ⟨k, hk, rfl, hall, hb⟩ := hrel
  have HA := hid hall
  clear hall
  by_cases lk : k < s.n
  ·obtain ⟨b, o, hix, c0, c1⟩ := (hs wr hb).at underlying24 size49 lk
   have HB := hid hb
   go_wp2_with fail
   refine (hc k lk _ HB.out).mono ?_
   rintro e w2 ⟨r, rfl, hr, hb2⟩
   have HR := hid hr
   have B2 := hid (View.more HB.out hb2)
   clear hr hb2
   cases r with
   | false =>
    go_wp2_with fail
    go_round
    case rel => exact ⟨k + 1, by omega, by go_num, fun i hi => by
     by_cases e : i = k
     ·subst e; exact fun h => absurd (HR.out.2 h) (by simp)
     ·exact HA.out i (by omega), B2.out⟩
    case measure => simp [intOf]; omega
   | true =>
    go_wp2_with fail
    go_ret
    exact ⟨k, rfl, ⟨fun _ => ⟨k, lk, HR.out.1 (by simp)⟩, fun _ => by omega⟩, B2.out⟩
  ·obtain rfl : k = s.n := by omega
   have HB := hid hb
   clear hb
   go_wp2_with fail
   go_ret
   exact ⟨-1, rfl, ⟨fun h => by omega, fun ⟨i, h1, h2⟩ => absurd h2 (HA.out i h1)⟩, HB.out⟩

set_option maxHeartbeats 1000000 in
theorem has_limT (s : Sl) (f : Nat → GV) (p : Nat → Prop) (w : World) (hn : s.n ≤ 1000) (hs : ∀ wx, Below w.heap.size w wx → Row 2 GAt wx s f)
  (hc : ∀ k, k < s.n → ∀ wx, Below w.heap.size w wx → Calls Tryz.prog 68 #[.agg #[.string (f k).name, .slice (f k).cel.a (f k).cel.n (f k).cel.c]] wx fun e w' => Ans (fun r => r = true ↔ p k) wx e w') :
  Calls Tryz.prog 67 #[.slice s.a s.n s.c, .func (.func 68) #[] #[]] w fun e w' => Ans (fun r => r = true ↔ ∃ k, k < s.n ∧ p k) w e w' := by
 go_enter Tryz.func67, Tryz.ntmps67
 go_wp2_with fail
 refine (idx_limT s f p w hn hs hc).mono ?_
 rintro e w1 ⟨r, rfl, hr, hb⟩
 have HR := hid hr
 have HB := hid hb
 clear hr hb
 go_wp2_with fail
 go_ret
 exact ⟨decide (0 ≤ r), rfl, by rw [← HR.out]; simp, HB.out⟩

set_option maxHeartbeats 1000000 in
theorem idx_limF (s : Sl) (f : Nat → FV) (p : Nat → Prop) (w : World) (hn : s.n ≤ 1000) (hs : ∀ wx, Below w.heap.size w wx → Row 5 FAt wx s f)
  (hc : ∀ k, k < s.n → ∀ wx, Below w.heap.size w wx → Calls Tryz.prog 70 #[(f k).val] wx fun e w' => Ans (fun r => r = true ↔ p k) wx e w') :
  Calls Tryz.prog 116 #[.slice s.a s.n s.c, .func (.func 70) #[] #[]] w fun e w' => ∃ r : Int, e = .returned (.int .i64 r) ∧ (0 ≤ r ↔ ∃ k, k < s.n ∧ p k) ∧ Below w.heap.size w w' := by
 go_enter Tryz.func116, Tryz.ntmps116
 go_wp2_with fail
 go_loopw [8] (fun iv wr => ∃ k : Nat, k ≤ s.n ∧ iv = .int .i64 k ∧ (∀ i, i < k → ¬ p i) ∧ Below w.heap.size w wr) (fun iv _ => s.n - (intOf iv).toNat)
 case atStart => exact ⟨0, Nat.zero_le _, rfl, fun i hi => by omega, same w⟩
 case round =>
  obtain ⟨k, hk, rfl, hall, hb⟩ := hrel
  have HA := hid hall
  clear hall
  by_cases lk : k < s.n
  ·obtain ⟨b, o, hix, c0, c1, c2, c3, c4⟩ := (hs wr hb).at underlying25 size36 lk
   have HB := hid hb
   go_wp2_with fail
   refine (hc k lk _ HB.out).mono ?_
   rintro e w2 ⟨r, rfl, hr, hb2⟩
   have HR := hid hr
   have B2 := hid (View.more HB.out hb2)
   clear hr hb2
   cases r with
   | false =>
    go_wp2_with fail
    go_round
    case rel => exact ⟨k + 1, by omega, by go_num, fun i hi => by
     by_cases e : i = k
     ·subst e; exact fun h => absurd (HR.out.2 h) (by simp)
     ·exact HA.out i (by omega), B2.out⟩
    case measure => simp [intOf]; omega
   | true =>
    go_wp2_with fail
    go_ret
    exact ⟨k, rfl, ⟨fun _ => ⟨k, lk, HR.out.1 (by simp)⟩, fun _ => by omega⟩, B2.out⟩
  ·obtain rfl : k = s.n := by omega
   have HB := hid hb
   clear hb
   go_wp2_with fail
   go_ret
   exact ⟨-1, rfl, ⟨fun h => by omega, fun ⟨i, h1, h2⟩ => absurd h2 (HA.out i h1)⟩, HB.out⟩

set_option maxHeartbeats 1000000 in
theorem has_limF (s : Sl) (f : Nat → FV) (p : Nat → Prop) (w : World) (hn : s.n ≤ 1000) (hs : ∀ wx, Below w.heap.size w wx → Row 5 FAt wx s f)
  (hc : ∀ k, k < s.n → ∀ wx, Below w.heap.size w wx → Calls Tryz.prog 70 #[(f k).val] wx fun e w' => Ans (fun r => r = true ↔ p k) wx e w') :
  Calls Tryz.prog 69 #[.slice s.a s.n s.c, .func (.func 70) #[] #[]] w fun e w' => Ans (fun r => r = true ↔ ∃ k, k < s.n ∧ p k) w e w' := by
 go_enter Tryz.func69, Tryz.ntmps69
 go_wp2_with fail
 refine (idx_limF s f p w hn hs hc).mono ?_
 rintro e w1 ⟨r, rfl, hr, hb⟩
 have HR := hid hr
 have HB := hid hb
 clear hr hb
 go_wp2_with fail
 go_ret
 exact ⟨decide (0 ≤ r), rfl, by rw [← HR.out]; simp, HB.out⟩

set_option maxHeartbeats 1000000 in
theorem idx_formE (s : Sl) (f : Nat → EV) (p : Nat → Prop) (w : World) (hn : s.n ≤ 1000) (hs : ∀ wx, Below w.heap.size w wx → Row 3 EAt wx s f)
  (hc : ∀ k, k < s.n → ∀ wx, Below w.heap.size w wx → Calls Tryz.prog 71 #[.agg #[.string (f k).name, .slice (f k).par.a (f k).par.n (f k).par.c, .int .i64 (f k).res]] wx fun e w' => Ans (fun r => r = true ↔ p k) wx e w') :
  Calls Tryz.prog 113 #[.slice s.a s.n s.c, .func (.func 71) #[] #[]] w fun e w' => ∃ r : Int, e = .returned (.int .i64 r) ∧ (0 ≤ r ↔ ∃ k, k < s.n ∧ p k) ∧ Below w.heap.size w w' := by
 go_enter Tryz.func113, Tryz.ntmps113
 go_wp2_with fail
 go_loopw [8] (fun iv wr => ∃ k : Nat, k ≤ s.n ∧ iv = .int .i64 k ∧ (∀ i, i < k → ¬ p i) ∧ Below w.heap.size w wr) (fun iv _ => s.n - (intOf iv).toNat)
 case atStart => exact ⟨0, Nat.zero_le _, rfl, fun i hi => by omega, same w⟩
 case round =>
  obtain ⟨k, hk, rfl, hall, hb⟩ := hrel
  have HA := hid hall
  clear hall
  by_cases lk : k < s.n
  ·obtain ⟨b, o, hix, c0, c1, c2⟩ := (hs wr hb).at underlying22 size65 lk
   have HB := hid hb
   go_wp2_with fail
   refine (hc k lk _ HB.out).mono ?_
   rintro e w2 ⟨r, rfl, hr, hb2⟩
   have HR := hid hr
   have B2 := hid (View.more HB.out hb2)
   clear hr hb2
   cases r with
   | false =>
    go_wp2_with fail
    go_round
    case rel => exact ⟨k + 1, by omega, by go_num, fun i hi => by
     by_cases e : i = k
     ·subst e; exact fun h => absurd (HR.out.2 h) (by simp)
     ·exact HA.out i (by omega), B2.out⟩
    case measure => simp [intOf]; omega
   | true =>
    go_wp2_with fail
    go_ret
    exact ⟨k, rfl, ⟨fun _ => ⟨k, lk, HR.out.1 (by simp)⟩, fun _ => by omega⟩, B2.out⟩
  ·obtain rfl : k = s.n := by omega
   have HB := hid hb
   clear hb
   go_wp2_with fail
   go_ret
   exact ⟨-1, rfl, ⟨fun h => by omega, fun ⟨i, h1, h2⟩ => absurd h2 (HA.out i h1)⟩, HB.out⟩

set_option maxHeartbeats 1000000 in
theorem has_formE (s : Sl) (f : Nat → EV) (p : Nat → Prop) (w : World) (hn : s.n ≤ 1000) (hs : ∀ wx, Below w.heap.size w wx → Row 3 EAt wx s f)
  (hc : ∀ k, k < s.n → ∀ wx, Below w.heap.size w wx → Calls Tryz.prog 71 #[.agg #[.string (f k).name, .slice (f k).par.a (f k).par.n (f k).par.c, .int .i64 (f k).res]] wx fun e w' => Ans (fun r => r = true ↔ p k) wx e w') :
  Calls Tryz.prog 62 #[.slice s.a s.n s.c, .func (.func 71) #[] #[]] w fun e w' => Ans (fun r => r = true ↔ ∃ k, k < s.n ∧ p k) w e w' := by
 go_enter Tryz.func62, Tryz.ntmps62
 go_wp2_with fail
 refine (idx_formE s f p w hn hs hc).mono ?_
 rintro e w1 ⟨r, rfl, hr, hb⟩
 have HR := hid hr
 have HB := hid hb
 clear hr hb
 go_wp2_with fail
 go_ret
 exact ⟨decide (0 ≤ r), rfl, by rw [← HR.out]; simp, HB.out⟩

set_option maxHeartbeats 1000000 in
theorem idx_formF (s : Sl) (f : Nat → FV) (p : Nat → Prop) (w : World) (hn : s.n ≤ 1000) (hs : ∀ wx, Below w.heap.size w wx → Row 5 FAt wx s f)
  (hc : ∀ k, k < s.n → ∀ wx, Below w.heap.size w wx → Calls Tryz.prog 72 #[(f k).val] wx fun e w' => Ans (fun r => r = true ↔ p k) wx e w') :
  Calls Tryz.prog 116 #[.slice s.a s.n s.c, .func (.func 72) #[] #[]] w fun e w' => ∃ r : Int, e = .returned (.int .i64 r) ∧ (0 ≤ r ↔ ∃ k, k < s.n ∧ p k) ∧ Below w.heap.size w w' := by
 go_enter Tryz.func116, Tryz.ntmps116
 go_wp2_with fail
 go_loopw [8] (fun iv wr => ∃ k : Nat, k ≤ s.n ∧ iv = .int .i64 k ∧ (∀ i, i < k → ¬ p i) ∧ Below w.heap.size w wr) (fun iv _ => s.n - (intOf iv).toNat)
 case atStart => exact ⟨0, Nat.zero_le _, rfl, fun i hi => by omega, same w⟩
 case round =>
  obtain ⟨k, hk, rfl, hall, hb⟩ := hrel
  have HA := hid hall
  clear hall
  by_cases lk : k < s.n
  ·obtain ⟨b, o, hix, c0, c1, c2, c3, c4⟩ := (hs wr hb).at underlying25 size36 lk
   have HB := hid hb
   go_wp2_with fail
   refine (hc k lk _ HB.out).mono ?_
   rintro e w2 ⟨r, rfl, hr, hb2⟩
   have HR := hid hr
   have B2 := hid (View.more HB.out hb2)
   clear hr hb2
   cases r with
   | false =>
    go_wp2_with fail
    go_round
    case rel => exact ⟨k + 1, by omega, by go_num, fun i hi => by
     by_cases e : i = k
     ·subst e; exact fun h => absurd (HR.out.2 h) (by simp)
     ·exact HA.out i (by omega), B2.out⟩
    case measure => simp [intOf]; omega
   | true =>
    go_wp2_with fail
    go_ret
    exact ⟨k, rfl, ⟨fun _ => ⟨k, lk, HR.out.1 (by simp)⟩, fun _ => by omega⟩, B2.out⟩
  ·obtain rfl : k = s.n := by omega
   have HB := hid hb
   clear hb
   go_wp2_with fail
   go_ret
   exact ⟨-1, rfl, ⟨fun h => by omega, fun ⟨i, h1, h2⟩ => absurd h2 (HA.out i h1)⟩, HB.out⟩

set_option maxHeartbeats 1000000 in
theorem has_formF (s : Sl) (f : Nat → FV) (p : Nat → Prop) (w : World) (hn : s.n ≤ 1000) (hs : ∀ wx, Below w.heap.size w wx → Row 5 FAt wx s f)
  (hc : ∀ k, k < s.n → ∀ wx, Below w.heap.size w wx → Calls Tryz.prog 72 #[(f k).val] wx fun e w' => Ans (fun r => r = true ↔ p k) wx e w') :
  Calls Tryz.prog 69 #[.slice s.a s.n s.c, .func (.func 72) #[] #[]] w fun e w' => Ans (fun r => r = true ↔ ∃ k, k < s.n ∧ p k) w e w' := by
 go_enter Tryz.func69, Tryz.ntmps69
 go_wp2_with fail
 refine (idx_formF s f p w hn hs hc).mono ?_
 rintro e w1 ⟨r, rfl, hr, hb⟩
 have HR := hid hr
 have HB := hid hb
 clear hr hb
 go_wp2_with fail
 go_ret
 exact ⟨decide (0 ≤ r), rfl, by rw [← HR.out]; simp, HB.out⟩

set_option maxHeartbeats 1000000 in
theorem idx_inn (s : Sl) (f : Nat → Int) (p : Nat → Prop) (w : World) (hn : s.n ≤ 1000) (hs : ∀ wx, Below w.heap.size w wx → Ints wx s f)
  (hc : ∀ k, k < s.n → ∀ wx, Below w.heap.size w wx → Calls Tryz.prog 118 #[.int .i64 (f k)] wx fun e w' => Ans (fun r => r = true ↔ p k) wx e w') :
  Calls Tryz.prog 123 #[.slice s.a s.n s.c, .func (.func 118) #[] #[]] w fun e w' => ∃ r : Int, e = .returned (.int .i64 r) ∧ (0 ≤ r ↔ ∃ k, k < s.n ∧ p k) ∧ Below w.heap.size w w' := by
 go_enter Tryz.func123, Tryz.ntmps123
 go_wp2_with fail
 go_loopw [8] (fun iv wr => ∃ k : Nat, k ≤ s.n ∧ iv = .int .i64 k ∧ (∀ i, i < k → ¬ p i) ∧ Below w.heap.size w wr) (fun iv _ => s.n - (intOf iv).toNat)
 case atStart => exact ⟨0, Nat.zero_le _, rfl, fun i hi => by omega, same w⟩
 case round =>
  obtain ⟨k, hk, rfl, hall, hb⟩ := hrel
  have HA := hid hall
  clear hall
  by_cases lk : k < s.n
  ·obtain ⟨b, o, hix, c0⟩ := (hs wr hb).at lk
   have HB := hid hb
   go_wp2_with fail
   refine (hc k lk _ HB.out).mono ?_
   rintro e w2 ⟨r, rfl, hr, hb2⟩
   have HR := hid hr
   have B2 := hid (View.more HB.out hb2)
   clear hr hb2
   cases r with
   | false =>
    go_wp2_with fail
    go_round
    case rel => exact ⟨k + 1, by omega, by go_num, fun i hi => by
     by_cases e : i = k
     ·subst e; exact fun h => absurd (HR.out.2 h) (by simp)
     ·exact HA.out i (by omega), B2.out⟩
    case measure => simp [intOf]; omega
   | true =>
    go_wp2_with fail
    go_ret
    exact ⟨k, rfl, ⟨fun _ => ⟨k, lk, HR.out.1 (by simp)⟩, fun _ => by omega⟩, B2.out⟩
  ·obtain rfl : k = s.n := by omega
   have HB := hid hb
   clear hb
   go_wp2_with fail
   go_ret
   exact ⟨-1, rfl, ⟨fun h => by omega, fun ⟨i, h1, h2⟩ => absurd h2 (HA.out i h1)⟩, HB.out⟩

set_option maxHeartbeats 1000000 in
theorem has_inn (s : Sl) (f : Nat → Int) (p : Nat → Prop) (w : World) (hn : s.n ≤ 1000) (hs : ∀ wx, Below w.heap.size w wx → Ints wx s f)
  (hc : ∀ k, k < s.n → ∀ wx, Below w.heap.size w wx → Calls Tryz.prog 118 #[.int .i64 (f k)] wx fun e w' => Ans (fun r => r = true ↔ p k) wx e w') :
  Calls Tryz.prog 76 #[.slice s.a s.n s.c, .func (.func 118) #[] #[]] w fun e w' => Ans (fun r => r = true ↔ ∃ k, k < s.n ∧ p k) w e w' := by
 go_enter Tryz.func76, Tryz.ntmps76
 go_wp2_with fail
 refine (idx_inn s f p w hn hs hc).mono ?_
 rintro e w1 ⟨r, rfl, hr, hb⟩
 have HR := hid hr
 have HB := hid hb
 clear hr hb
 go_wp2_with fail
 go_ret
 exact ⟨decide (0 ≤ r), rfl, by rw [← HR.out]; simp, HB.out⟩

set_option maxHeartbeats 1000000 in
theorem idx_noT (s : Sl) (f : Nat → Int) (p : Nat → Prop) (w : World) (hn : s.n ≤ 1000) (hs : ∀ wx, Below w.heap.size w wx → Ints wx s f)
  (hc : ∀ k, k < s.n → ∀ wx, Below w.heap.size w wx → Calls Tryz.prog 119 #[.int .i64 (f k)] wx fun e w' => Ans (fun r => r = true ↔ p k) wx e w') :
  Calls Tryz.prog 123 #[.slice s.a s.n s.c, .func (.func 119) #[] #[]] w fun e w' => ∃ r : Int, e = .returned (.int .i64 r) ∧ (0 ≤ r ↔ ∃ k, k < s.n ∧ p k) ∧ Below w.heap.size w w' := by
 go_enter Tryz.func123, Tryz.ntmps123
 go_wp2_with fail
 go_loopw [8] (fun iv wr => ∃ k : Nat, k ≤ s.n ∧ iv = .int .i64 k ∧ (∀ i, i < k → ¬ p i) ∧ Below w.heap.size w wr) (fun iv _ => s.n - (intOf iv).toNat)
 case atStart => exact ⟨0, Nat.zero_le _, rfl, fun i hi => by omega, same w⟩
 case round =>
  obtain ⟨k, hk, rfl, hall, hb⟩ := hrel
  have HA := hid hall
  clear hall
  by_cases lk : k < s.n
  ·obtain ⟨b, o, hix, c0⟩ := (hs wr hb).at lk
   have HB := hid hb
   go_wp2_with fail
   refine (hc k lk _ HB.out).mono ?_
   rintro e w2 ⟨r, rfl, hr, hb2⟩
   have HR := hid hr
   have B2 := hid (View.more HB.out hb2)
   clear hr hb2
   cases r with
   | false =>
    go_wp2_with fail
    go_round
    case rel => exact ⟨k + 1, by omega, by go_num, fun i hi => by
     by_cases e : i = k
     ·subst e; exact fun h => absurd (HR.out.2 h) (by simp)
     ·exact HA.out i (by omega), B2.out⟩
    case measure => simp [intOf]; omega
   | true =>
    go_wp2_with fail
    go_ret
    exact ⟨k, rfl, ⟨fun _ => ⟨k, lk, HR.out.1 (by simp)⟩, fun _ => by omega⟩, B2.out⟩
  ·obtain rfl : k = s.n := by omega
   have HB := hid hb
   clear hb
   go_wp2_with fail
   go_ret
   exact ⟨-1, rfl, ⟨fun h => by omega, fun ⟨i, h1, h2⟩ => absurd h2 (HA.out i h1)⟩, HB.out⟩

set_option maxHeartbeats 1000000 in
theorem has_noT (s : Sl) (f : Nat → Int) (p : Nat → Prop) (w : World) (hn : s.n ≤ 1000) (hs : ∀ wx, Below w.heap.size w wx → Ints wx s f)
  (hc : ∀ k, k < s.n → ∀ wx, Below w.heap.size w wx → Calls Tryz.prog 119 #[.int .i64 (f k)] wx fun e w' => Ans (fun r => r = true ↔ p k) wx e w') :
  Calls Tryz.prog 76 #[.slice s.a s.n s.c, .func (.func 119) #[] #[]] w fun e w' => Ans (fun r => r = true ↔ ∃ k, k < s.n ∧ p k) w e w' := by
 go_enter Tryz.func76, Tryz.ntmps76
 go_wp2_with fail
 refine (idx_noT s f p w hn hs hc).mono ?_
 rintro e w1 ⟨r, rfl, hr, hb⟩
 have HR := hid hr
 have HB := hid hb
 clear hr hb
 go_wp2_with fail
 go_ret
 exact ⟨decide (0 ≤ r), rfl, by rw [← HR.out]; simp, HB.out⟩

set_option maxHeartbeats 1000000 in
theorem idx_formB (s : Sl) (f : Nat → Sl) (p : Nat → Prop) (w : World) (hn : s.n ≤ 1000) (hs : ∀ wx, Below w.heap.size w wx → Sls wx s f)
  (hc : ∀ k, k < s.n → ∀ wx, Below w.heap.size w wx → Calls Tryz.prog 122 #[.agg #[.slice (f k).a (f k).n (f k).c]] wx fun e w' => Ans (fun r => r = true ↔ p k) wx e w') :
  Calls Tryz.prog 158 #[.slice s.a s.n s.c, .func (.func 122) #[] #[]] w fun e w' => ∃ r : Int, e = .returned (.int .i64 r) ∧ (0 ≤ r ↔ ∃ k, k < s.n ∧ p k) ∧ Below w.heap.size w w' := by
 go_enter Tryz.func158, Tryz.ntmps158
 go_wp2_with fail
 go_loopw [8] (fun iv wr => ∃ k : Nat, k ≤ s.n ∧ iv = .int .i64 k ∧ (∀ i, i < k → ¬ p i) ∧ Below w.heap.size w wr) (fun iv _ => s.n - (intOf iv).toNat)
 case atStart => exact ⟨0, Nat.zero_le _, rfl, fun i hi => by omega, same w⟩
 case round =>
  obtain ⟨k, hk, rfl, hall, hb⟩ := hrel
  have HA := hid hall
  clear hall
  by_cases lk : k < s.n
  ·obtain ⟨b, o, hix, c0⟩ := (hs wr hb).at lk
   have HB := hid hb
   go_wp2_with fail
   refine (hc k lk _ HB.out).mono ?_
   rintro e w2 ⟨r, rfl, hr, hb2⟩
   have HR := hid hr
   have B2 := hid (View.more HB.out hb2)
   clear hr hb2
   cases r with
   | false =>
    go_wp2_with fail
    go_round
    case rel => exact ⟨k + 1, by omega, by go_num, fun i hi => by
     by_cases e : i = k
     ·subst e; exact fun h => absurd (HR.out.2 h) (by simp)
     ·exact HA.out i (by omega), B2.out⟩
    case measure => simp [intOf]; omega
   | true =>
    go_wp2_with fail
    go_ret
    exact ⟨k, rfl, ⟨fun _ => ⟨k, lk, HR.out.1 (by simp)⟩, fun _ => by omega⟩, B2.out⟩
  ·obtain rfl : k = s.n := by omega
   have HB := hid hb
   clear hb
   go_wp2_with fail
   go_ret
   exact ⟨-1, rfl, ⟨fun h => by omega, fun ⟨i, h1, h2⟩ => absurd h2 (HA.out i h1)⟩, HB.out⟩

set_option maxHeartbeats 1000000 in
theorem has_formB (s : Sl) (f : Nat → Sl) (p : Nat → Prop) (w : World) (hn : s.n ≤ 1000) (hs : ∀ wx, Below w.heap.size w wx → Sls wx s f)
  (hc : ∀ k, k < s.n → ∀ wx, Below w.heap.size w wx → Calls Tryz.prog 122 #[.agg #[.slice (f k).a (f k).n (f k).c]] wx fun e w' => Ans (fun r => r = true ↔ p k) wx e w') :
  Calls Tryz.prog 121 #[.slice s.a s.n s.c, .func (.func 122) #[] #[]] w fun e w' => Ans (fun r => r = true ↔ ∃ k, k < s.n ∧ p k) w e w' := by
 go_enter Tryz.func121, Tryz.ntmps121
 go_wp2_with fail
 refine (idx_formB s f p w hn hs hc).mono ?_
 rintro e w1 ⟨r, rfl, hr, hb⟩
 have HR := hid hr
 have HB := hid hb
 clear hr hb
 go_wp2_with fail
 go_ret
 exact ⟨decide (0 ≤ r), rfl, by rw [← HR.out]; simp, HB.out⟩

set_option maxHeartbeats 1000000 in
theorem idx_formI (s : Sl) (f : Nat → IV) (p : Nat → Prop) (w : World) (hn : s.n ≤ 1000) (hs : ∀ wx, Below w.heap.size w wx → Inss wx s f)
  (hc : ∀ k, k < s.n → ∀ wx, Below w.heap.size w wx → Calls Tryz.prog 159 #[(f k).val] wx fun e w' => Ans (fun r => r = true ↔ p k) wx e w') :
  Calls Tryz.prog 124 #[.slice s.a s.n s.c, .func (.func 159) #[] #[]] w fun e w' => ∃ r : Int, e = .returned (.int .i64 r) ∧ (0 ≤ r ↔ ∃ k, k < s.n ∧ p k) ∧ Below w.heap.size w w' := by
 go_enter Tryz.func124, Tryz.ntmps124
 go_wp2_with fail
 go_loopw [8] (fun iv wr => ∃ k : Nat, k ≤ s.n ∧ iv = .int .i64 k ∧ (∀ i, i < k → ¬ p i) ∧ Below w.heap.size w wr) (fun iv _ => s.n - (intOf iv).toNat)
 case atStart => exact ⟨0, Nat.zero_le _, rfl, fun i hi => by omega, same w⟩
 case round =>
  obtain ⟨k, hk, rfl, hall, hb⟩ := hrel
  have HA := hid hall
  clear hall
  by_cases lk : k < s.n
  ·obtain ⟨b, o, hix, c0, c1, c2, c3, c4, c5, c6⟩ := (hs wr hb).at lk
   have HB := hid hb
   go_wp2_with fail
   refine (hc k lk _ HB.out).mono ?_
   rintro e w2 ⟨r, rfl, hr, hb2⟩
   have HR := hid hr
   have B2 := hid (View.more HB.out hb2)
   clear hr hb2
   cases r with
   | false =>
    go_wp2_with fail
    go_round
    case rel => exact ⟨k + 1, by omega, by go_num, fun i hi => by
     by_cases e : i = k
     ·subst e; exact fun h => absurd (HR.out.2 h) (by simp)
     ·exact HA.out i (by omega), B2.out⟩
    case measure => simp [intOf]; omega
   | true =>
    go_wp2_with fail
    go_ret
    exact ⟨k, rfl, ⟨fun _ => ⟨k, lk, HR.out.1 (by simp)⟩, fun _ => by omega⟩, B2.out⟩
  ·obtain rfl : k = s.n := by omega
   have HB := hid hb
   clear hb
   go_wp2_with fail
   go_ret
   exact ⟨-1, rfl, ⟨fun h => by omega, fun ⟨i, h1, h2⟩ => absurd h2 (HA.out i h1)⟩, HB.out⟩

set_option maxHeartbeats 1000000 in
theorem has_formI (s : Sl) (f : Nat → IV) (p : Nat → Prop) (w : World) (hn : s.n ≤ 1000) (hs : ∀ wx, Below w.heap.size w wx → Inss wx s f)
  (hc : ∀ k, k < s.n → ∀ wx, Below w.heap.size w wx → Calls Tryz.prog 159 #[(f k).val] wx fun e w' => Ans (fun r => r = true ↔ p k) wx e w') :
  Calls Tryz.prog 79 #[.slice s.a s.n s.c, .func (.func 159) #[] #[]] w fun e w' => Ans (fun r => r = true ↔ ∃ k, k < s.n ∧ p k) w e w' := by
 go_enter Tryz.func79, Tryz.ntmps79
 go_wp2_with fail
 refine (idx_formI s f p w hn hs hc).mono ?_
 rintro e w1 ⟨r, rfl, hr, hb⟩
 have HR := hid hr
 have HB := hid hb
 clear hr hb
 go_wp2_with fail
 go_ret
 exact ⟨decide (0 ≤ r), rfl, by rw [← HR.out]; simp, HB.out⟩

set_option maxHeartbeats 1000000 in
theorem idx_flowF (s : Sl) (f : Nat → FV) (p : Nat → Prop) (w : World) (hn : s.n ≤ 1000) (hs : ∀ wx, Below w.heap.size w wx → Row 5 FAt wx s f)
  (hc : ∀ k, k < s.n → ∀ wx, Below w.heap.size w wx → Calls Tryz.prog 80 #[(f k).val] wx fun e w' => Ans (fun r => r = true ↔ p k) wx e w') :
  Calls Tryz.prog 116 #[.slice s.a s.n s.c, .func (.func 80) #[] #[]] w fun e w' => ∃ r : Int, e = .returned (.int .i64 r) ∧ (0 ≤ r ↔ ∃ k, k < s.n ∧ p k) ∧ Below w.heap.size w w' := by
 go_enter Tryz.func116, Tryz.ntmps116
 go_wp2_with fail
 go_loopw [8] (fun iv wr => ∃ k : Nat, k ≤ s.n ∧ iv = .int .i64 k ∧ (∀ i, i < k → ¬ p i) ∧ Below w.heap.size w wr) (fun iv _ => s.n - (intOf iv).toNat)
 case atStart => exact ⟨0, Nat.zero_le _, rfl, fun i hi => by omega, same w⟩
 case round =>
  obtain ⟨k, hk, rfl, hall, hb⟩ := hrel
  have HA := hid hall
  clear hall
  by_cases lk : k < s.n
  ·obtain ⟨b, o, hix, c0, c1, c2, c3, c4⟩ := (hs wr hb).at underlying25 size36 lk
   have HB := hid hb
   go_wp2_with fail
   refine (hc k lk _ HB.out).mono ?_
   rintro e w2 ⟨r, rfl, hr, hb2⟩
   have HR := hid hr
   have B2 := hid (View.more HB.out hb2)
   clear hr hb2
   cases r with
   | false =>
    go_wp2_with fail
    go_round
    case rel => exact ⟨k + 1, by omega, by go_num, fun i hi => by
     by_cases e : i = k
     ·subst e; exact fun h => absurd (HR.out.2 h) (by simp)
     ·exact HA.out i (by omega), B2.out⟩
    case measure => simp [intOf]; omega
   | true =>
    go_wp2_with fail
    go_ret
    exact ⟨k, rfl, ⟨fun _ => ⟨k, lk, HR.out.1 (by simp)⟩, fun _ => by omega⟩, B2.out⟩
  ·obtain rfl : k = s.n := by omega
   have HB := hid hb
   clear hb
   go_wp2_with fail
   go_ret
   exact ⟨-1, rfl, ⟨fun h => by omega, fun ⟨i, h1, h2⟩ => absurd h2 (HA.out i h1)⟩, HB.out⟩

set_option maxHeartbeats 1000000 in
theorem has_flowF (s : Sl) (f : Nat → FV) (p : Nat → Prop) (w : World) (hn : s.n ≤ 1000) (hs : ∀ wx, Below w.heap.size w wx → Row 5 FAt wx s f)
  (hc : ∀ k, k < s.n → ∀ wx, Below w.heap.size w wx → Calls Tryz.prog 80 #[(f k).val] wx fun e w' => Ans (fun r => r = true ↔ p k) wx e w') :
  Calls Tryz.prog 69 #[.slice s.a s.n s.c, .func (.func 80) #[] #[]] w fun e w' => Ans (fun r => r = true ↔ ∃ k, k < s.n ∧ p k) w e w' := by
 go_enter Tryz.func69, Tryz.ntmps69
 go_wp2_with fail
 refine (idx_flowF s f p w hn hs hc).mono ?_
 rintro e w1 ⟨r, rfl, hr, hb⟩
 have HR := hid hr
 have HB := hid hb
 clear hr hb
 go_wp2_with fail
 go_ret
 exact ⟨decide (0 ≤ r), rfl, by rw [← HR.out]; simp, HB.out⟩

set_option maxHeartbeats 1000000 in
theorem idx_useF (s : Sl) (f : Nat → FV) (p : Nat → Prop) (w : World) (hn : s.n ≤ 1000) (hs : ∀ wx, Below w.heap.size w wx → Row 5 FAt wx s f)
  (hc : ∀ k, k < s.n → ∀ wx, Below w.heap.size w wx → Calls Tryz.prog 81 #[(f k).val] wx fun e w' => Ans (fun r => r = true ↔ p k) wx e w') :
  Calls Tryz.prog 116 #[.slice s.a s.n s.c, .func (.func 81) #[] #[]] w fun e w' => ∃ r : Int, e = .returned (.int .i64 r) ∧ (0 ≤ r ↔ ∃ k, k < s.n ∧ p k) ∧ Below w.heap.size w w' := by
 go_enter Tryz.func116, Tryz.ntmps116
 go_wp2_with fail
 go_loopw [8] (fun iv wr => ∃ k : Nat, k ≤ s.n ∧ iv = .int .i64 k ∧ (∀ i, i < k → ¬ p i) ∧ Below w.heap.size w wr) (fun iv _ => s.n - (intOf iv).toNat)
 case atStart => exact ⟨0, Nat.zero_le _, rfl, fun i hi => by omega, same w⟩
 case round =>
  obtain ⟨k, hk, rfl, hall, hb⟩ := hrel
  have HA := hid hall
  clear hall
  by_cases lk : k < s.n
  ·obtain ⟨b, o, hix, c0, c1, c2, c3, c4⟩ := (hs wr hb).at underlying25 size36 lk
   have HB := hid hb
   go_wp2_with fail
   refine (hc k lk _ HB.out).mono ?_
   rintro e w2 ⟨r, rfl, hr, hb2⟩
   have HR := hid hr
   have B2 := hid (View.more HB.out hb2)
   clear hr hb2
   cases r with
   | false =>
    go_wp2_with fail
    go_round
    case rel => exact ⟨k + 1, by omega, by go_num, fun i hi => by
     by_cases e : i = k
     ·subst e; exact fun h => absurd (HR.out.2 h) (by simp)
     ·exact HA.out i (by omega), B2.out⟩
    case measure => simp [intOf]; omega
   | true =>
    go_wp2_with fail
    go_ret
    exact ⟨k, rfl, ⟨fun _ => ⟨k, lk, HR.out.1 (by simp)⟩, fun _ => by omega⟩, B2.out⟩
  ·obtain rfl : k = s.n := by omega
   have HB := hid hb
   clear hb
   go_wp2_with fail
   go_ret
   exact ⟨-1, rfl, ⟨fun h => by omega, fun ⟨i, h1, h2⟩ => absurd h2 (HA.out i h1)⟩, HB.out⟩

set_option maxHeartbeats 1000000 in
theorem has_useF (s : Sl) (f : Nat → FV) (p : Nat → Prop) (w : World) (hn : s.n ≤ 1000) (hs : ∀ wx, Below w.heap.size w wx → Row 5 FAt wx s f)
  (hc : ∀ k, k < s.n → ∀ wx, Below w.heap.size w wx → Calls Tryz.prog 81 #[(f k).val] wx fun e w' => Ans (fun r => r = true ↔ p k) wx e w') :
  Calls Tryz.prog 69 #[.slice s.a s.n s.c, .func (.func 81) #[] #[]] w fun e w' => Ans (fun r => r = true ↔ ∃ k, k < s.n ∧ p k) w e w' := by
 go_enter Tryz.func69, Tryz.ntmps69
 go_wp2_with fail
 refine (idx_useF s f p w hn hs hc).mono ?_
 rintro e w1 ⟨r, rfl, hr, hb⟩
 have HR := hid hr
 have HB := hid hb
 clear hr hb
 go_wp2_with fail
 go_ret
 exact ⟨decide (0 ≤ r), rfl, by rw [← HR.out]; simp, HB.out⟩

set_option maxHeartbeats 1000000 in
theorem idx_symi (s : Sl) (f : Nat → Int) (p : Nat → Prop) (c : Addr) (w : World) (hn : s.n ≤ 1000) (hs : ∀ wx, Below w.heap.size w wx → Ints wx s f)
  (hc : ∀ k, k < s.n → ∀ wx, Below w.heap.size w wx → Calls Tryz.prog 74 #[.int .i64 (f k), .pointer (some c)] wx fun e w' => Ans (fun r => r = true ↔ p k) wx e w') :
  Calls Tryz.prog 123 #[.slice s.a s.n s.c, .func (.func 74) #[] #[.pointer (some c)]] w fun e w' => ∃ r : Int, e = .returned (.int .i64 r) ∧ (0 ≤ r ↔ ∃ k, k < s.n ∧ p k) ∧ Below w.heap.size w w' := by
 go_enter Tryz.func123, Tryz.ntmps123
 go_wp2_with fail
 go_loopw [8] (fun iv wr => ∃ k : Nat, k ≤ s.n ∧ iv = .int .i64 k ∧ (∀ i, i < k → ¬ p i) ∧ Below w.heap.size w wr) (fun iv _ => s.n - (intOf iv).toNat)
 case atStart => exact ⟨0, Nat.zero_le _, rfl, fun i hi => by omega, same w⟩
 case round =>
  obtain ⟨k, hk, rfl, hall, hb⟩ := hrel
  have HA := hid hall
  clear hall
  by_cases lk : k < s.n
  ·obtain ⟨b, o, hix, c0⟩ := (hs wr hb).at lk
   have HB := hid hb
   go_wp2_with fail
   refine (hc k lk _ HB.out).mono ?_
   rintro e w2 ⟨r, rfl, hr, hb2⟩
   have HR := hid hr
   have B2 := hid (View.more HB.out hb2)
   clear hr hb2
   cases r with
   | false =>
    go_wp2_with fail
    go_round
    case rel => exact ⟨k + 1, by omega, by go_num, fun i hi => by
     by_cases e : i = k
     ·subst e; exact fun h => absurd (HR.out.2 h) (by simp)
     ·exact HA.out i (by omega), B2.out⟩
    case measure => simp [intOf]; omega
   | true =>
    go_wp2_with fail
    go_ret
    exact ⟨k, rfl, ⟨fun _ => ⟨k, lk, HR.out.1 (by simp)⟩, fun _ => by omega⟩, B2.out⟩
  ·obtain rfl : k = s.n := by omega
   have HB := hid hb
   clear hb
   go_wp2_with fail
   go_ret
   exact ⟨-1, rfl, ⟨fun h => by omega, fun ⟨i, h1, h2⟩ => absurd h2 (HA.out i h1)⟩, HB.out⟩

set_option maxHeartbeats 1000000 in
theorem has_symi (s : Sl) (f : Nat → Int) (p : Nat → Prop) (c : Addr) (w : World) (hn : s.n ≤ 1000) (hs : ∀ wx, Below w.heap.size w wx → Ints wx s f)
  (hc : ∀ k, k < s.n → ∀ wx, Below w.heap.size w wx → Calls Tryz.prog 74 #[.int .i64 (f k), .pointer (some c)] wx fun e w' => Ans (fun r => r = true ↔ p k) wx e w') :
  Calls Tryz.prog 76 #[.slice s.a s.n s.c, .func (.func 74) #[] #[.pointer (some c)]] w fun e w' => Ans (fun r => r = true ↔ ∃ k, k < s.n ∧ p k) w e w' := by
 go_enter Tryz.func76, Tryz.ntmps76
 go_wp2_with fail
 refine (idx_symi s f p c w hn hs hc).mono ?_
 rintro e w1 ⟨r, rfl, hr, hb⟩
 have HR := hid hr
 have HB := hid hb
 clear hr hb
 go_wp2_with fail
 go_ret
 exact ⟨decide (0 ≤ r), rfl, by rw [← HR.out]; simp, HB.out⟩

set_option maxHeartbeats 1000000 in
theorem idx_symI (s : Sl) (f : Nat → IV) (p : Nat → Prop) (c : Addr) (w : World) (hn : s.n ≤ 1000) (hs : ∀ wx, Below w.heap.size w wx → Inss wx s f)
  (hc : ∀ k, k < s.n → ∀ wx, Below w.heap.size w wx → Calls Tryz.prog 77 #[(f k).val, .pointer (some c)] wx fun e w' => Ans (fun r => r = true ↔ p k) wx e w') :
  Calls Tryz.prog 124 #[.slice s.a s.n s.c, .func (.func 77) #[] #[.pointer (some c)]] w fun e w' => ∃ r : Int, e = .returned (.int .i64 r) ∧ (0 ≤ r ↔ ∃ k, k < s.n ∧ p k) ∧ Below w.heap.size w w' := by
 go_enter Tryz.func124, Tryz.ntmps124
 go_wp2_with fail
 go_loopw [8] (fun iv wr => ∃ k : Nat, k ≤ s.n ∧ iv = .int .i64 k ∧ (∀ i, i < k → ¬ p i) ∧ Below w.heap.size w wr) (fun iv _ => s.n - (intOf iv).toNat)
 case atStart => exact ⟨0, Nat.zero_le _, rfl, fun i hi => by omega, same w⟩
 case round =>
  obtain ⟨k, hk, rfl, hall, hb⟩ := hrel
  have HA := hid hall
  clear hall
  by_cases lk : k < s.n
  ·obtain ⟨b, o, hix, c0, c1, c2, c3, c4, c5, c6⟩ := (hs wr hb).at lk
   have HB := hid hb
   go_wp2_with fail
   refine (hc k lk _ HB.out).mono ?_
   rintro e w2 ⟨r, rfl, hr, hb2⟩
   have HR := hid hr
   have B2 := hid (View.more HB.out hb2)
   clear hr hb2
   cases r with
   | false =>
    go_wp2_with fail
    go_round
    case rel => exact ⟨k + 1, by omega, by go_num, fun i hi => by
     by_cases e : i = k
     ·subst e; exact fun h => absurd (HR.out.2 h) (by simp)
     ·exact HA.out i (by omega), B2.out⟩
    case measure => simp [intOf]; omega
   | true =>
    go_wp2_with fail
    go_ret
    exact ⟨k, rfl, ⟨fun _ => ⟨k, lk, HR.out.1 (by simp)⟩, fun _ => by omega⟩, B2.out⟩
  ·obtain rfl : k = s.n := by omega
   have HB := hid hb
   clear hb
   go_wp2_with fail
   go_ret
   exact ⟨-1, rfl, ⟨fun h => by omega, fun ⟨i, h1, h2⟩ => absurd h2 (HA.out i h1)⟩, HB.out⟩

set_option maxHeartbeats 1000000 in
theorem has_symI (s : Sl) (f : Nat → IV) (p : Nat → Prop) (c : Addr) (w : World) (hn : s.n ≤ 1000) (hs : ∀ wx, Below w.heap.size w wx → Inss wx s f)
  (hc : ∀ k, k < s.n → ∀ wx, Below w.heap.size w wx → Calls Tryz.prog 77 #[(f k).val, .pointer (some c)] wx fun e w' => Ans (fun r => r = true ↔ p k) wx e w') :
  Calls Tryz.prog 79 #[.slice s.a s.n s.c, .func (.func 77) #[] #[.pointer (some c)]] w fun e w' => Ans (fun r => r = true ↔ ∃ k, k < s.n ∧ p k) w e w' := by
 go_enter Tryz.func79, Tryz.ntmps79
 go_wp2_with fail
 refine (idx_symI s f p c w hn hs hc).mono ?_
 rintro e w1 ⟨r, rfl, hr, hb⟩
 have HR := hid hr
 have HB := hid hb
 clear hr hb
 go_wp2_with fail
 go_ret
 exact ⟨decide (0 ≤ r), rfl, by rw [← HR.out]; simp, HB.out⟩

end Go.Proofs.YtolipafcoolpgaaGreat.Wf
