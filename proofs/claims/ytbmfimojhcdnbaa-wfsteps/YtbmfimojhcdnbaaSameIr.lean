/-
  Whether lists, instructions, blocks and functions are alike, by the program: slices.Equal, slices.EqualFunc, ir.sameIns.
-/
import Derived.Test.YtbmfimojhcdnbaaSmall
import Derived.Test.YtbmfimojhcdnbaaSame
namespace Go.Proofs.Ytbmfimojhcdnbaa.Mod
open Go.RowKit View Rd Num Opn Copy

set_option linter.unusedVariables false

set_option maxHeartbeats 1000000 in
theorem equal33 (s t : Sl) (f g : Nat → Int) (w : World) (hs : Ints w s f) (ht : Ints w t g) (hsm : s.n ≤ 1000) :
    Calls Try.prog 137 #[.slice s.a s.n s.c, .slice t.a t.n t.c] w fun e w' => ∃ r : Bool, e = .returned (.bool r) ∧ (r = true ↔ Eqs s t f g) ∧ ∃ q, w' = w.drewN q := by
  by_cases hn : s.n = t.n
  · have hn' : ((s.n : Int) != (t.n : Int)) = false := by simp [hn]
    have HN : Hid (s.n = t.n) := hn
    clear hn
    go_enter Try.func137, Try.ntmps137
    go_wp2
    go_loopw [13] (fun i wr => ∃ k : Nat, k ≤ s.n ∧ i = .int .i64 k ∧ (∀ i, i < k → f i = g i) ∧ ∃ q, wr = w.drewN q) (fun i _ => s.n - (intOf i).toNat)
    case atStart => exact ⟨0, Nat.zero_le _, rfl, fun i hi => by omega, 0, rfl⟩
    case round =>
      obtain ⟨k, hk, rfl, hall, q, rfl⟩ := hrel
      have HA : Hid (∀ i, i < k → f i = g i) := hall
      clear hall
      by_cases hlt : k < s.n
      · obtain ⟨b, o, hix, hc⟩ := hs.at hlt
        obtain ⟨b', o', hix', hc'⟩ := ht.at (k := k) (by have := HN.out; omega)
        go_wp2
        go_region
        by_cases hfg : f k = g k
        · have hfg' : (f k != g k) = false := by simp [hfg]
          have HE := hid hfg
          clear hfg
          go_wp2
          go_round
          case rel => exact ⟨k + 1, by omega, by go_num, upto HA.out HE.out, q + 1, rfl⟩
          case measure => simp [intOf]; omega
        · have hfg' : (f k != g k) = true := by simp [hfg]
          go_wp2
          go_ret
          exact ⟨false, rfl, by simp only [Bool.false_eq_true, false_iff]; intro h; exact hfg (h.2 k hlt), q + 1, rfl⟩
      · obtain rfl : k = s.n := by omega
        go_wp2
        go_ret
        exact ⟨true, rfl, by simp only [true_iff]; exact ⟨HN.out, HA.out⟩, q, rfl⟩
  · have hn' : ((s.n : Int) != (t.n : Int)) = true := by simp; omega
    go_enter Try.func137, Try.ntmps137
    go_wp2
    go_ret
    exact ⟨false, rfl, by simp [Eqs, hn], 0, rfl⟩

theorem at56 {w : World} {s : Sl} {f : Nat → Int} (h : Ints w s f) {k : Nat} (hk : k < s.n) :
    ∃ b o, (∀ wx, (Instr.indexAt 49 (.slice s.a s.n s.c) (.int .i64 k)).run Try.prog wx = .ok (.pointer (some ⟨b, o, none⟩)) wx) ∧ w.cell? ⟨b, o, none⟩ = some (.int .i64 (f k)) := by
  obtain ⟨b, off, ha, hc⟩ := h.2.2.2 (by omega)
  exact ⟨b, off + k * 1, index_row ha underlying49 size2 hk, by rw [Nat.mul_one]; exact hc k hk⟩

end Go.Proofs.Ytbmfimojhcdnbaa.Mod
