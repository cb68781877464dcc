/-
  slices.Reverse over a row of the call's own.
-/
import Derived.Test.YtbmfimojhcdnbaaFloP
import Derived.Test.YtbmfimojhcdnbaaFloQ
import Derived.Deep.RegionHeld3
import Derived.BigRegion
namespace Go.Proofs.Ytbmfimojhcdnbaa.Flo
open Go.RowKit View Rd Copy Num Ty Srt

set_option linter.unusedVariables false

/-- k of each end are turned about. -/
def flip (n k : Nat) (f : Nat → Int) : Nat → Int := fun i => if i < k ∨ n ≤ i + k then f (n - 1 - i) else f i

def Turned (g : Nat) (w : World) (s : Sl) (f : Nat → Int) (e : Ending) (w' : World) : Prop := e = .returned (.tuple #[]) ∧ Ints w' s f ∧ Turn (fun b => b = g) w w'

theorem frz {g : Nat} {w wr : World} (h : Turn (fun b => b = g) w wr) (hg : g < w.heap.size) (hf : ∀ i, w.frozen? ⟨g, i, none⟩ = false) (i : Nat) : wr.frozen? ⟨g, i, none⟩ = false := by
  rw [h.froz _ hg]; exact hf i

set_option maxHeartbeats 2000000 in
theorem reverse_any (s : Sl) (g : Nat) (f : Nat → Int) (w : World) (hs : Ints w s f) (ha : 0 < s.n → s.a = some ⟨g, 0, none⟩) (hg : 0 < s.n → g < w.heap.size) (hfz : 0 < s.n → ∀ i, w.frozen? ⟨g, i, none⟩ = false) (hn : s.n ≤ 1000) :
    Calls Try.prog 57 #[.slice s.a s.n s.c] w fun e w' => Turned g w s (fun i => f (s.n - 1 - i)) e w' := by
  have HS := hid hs
  have HA := hid ha
  have HG := hid hg
  have HZ := hid hfz
  clear hs ha hg hfz
  go_enter Try.func57, Try.ntmps57
  go_wp2
  go_loopw [2, 3] (fun i j wr => ∃ k : Nat, 2 * k ≤ s.n + 1 ∧ i = .int .i64 k ∧ j = .int .i64 ((s.n : Int) - 1 - k) ∧ Ints wr s (flip s.n k f) ∧ Turn (fun b => b = g) w wr) (fun i _ _ => s.n - (intOf i).toNat)
  case atStart => exact ⟨0, by omega, rfl, by simp, HS.out.congr (fun i hi => by simp [flip]; omega), Turn.refl _ _⟩
  case round =>
    obtain ⟨k, hk, rfl, rfl, hi, ht⟩ := hrel
    have HI := hid hi
    have HT := hid ht
    clear hi ht
    by_cases hlt : 2 * k + 1 < s.n
    · obtain ⟨m, hm⟩ : ∃ m : Nat, s.n = k + 1 + m + 1 + k := ⟨s.n - (k + 1) - 1 - k, by omega⟩
      have hga := HA.out (by omega)
      have hgl := HG.out (by omega)
      have hz := frz HT.out hgl (HZ.out (by omega))
      obtain ⟨x1, y1⟩ := own_at HI.out hga (k := k) (by omega)
      obtain ⟨x2, y2⟩ := own_at HI.out hga (k := k + 1 + m) (by omega)
      have z1 := hz k
      have z2 := hz (k + 1 + m)
      have hj : ((s.n : Int) - 1 - k) = ((k + 1 + m : Nat) : Int) := by omega
      rw [hj]
      have hne : k ≠ k + 1 + m := by omega
      have hne' : ¬ (k + 1 + m = k) := by omega
      have HM := hid (And.intro hm hga)
      obtain ⟨p, hp⟩ : ∃ p, flip s.n k f k = p := ⟨_, rfl⟩
      obtain ⟨q, hq⟩ : ∃ q, flip s.n k f (k + 1 + m) = q := ⟨_, rfl⟩
      rw [hp] at y1
      rw [hq] at y2
      have HPQ := hid (And.intro hp hq)
      obtain ⟨jj, hjj⟩ : ∃ jj, k + 1 + m = jj := ⟨_, rfl⟩
      rw [hjj] at x2 y2 z2 hne hne'
      rw [hjj]
      have HJ := hid hjj
      have hlt2 : (k : Int) < jj := by omega
      have hkl : jj < 1000 := by omega
      clear hm hga hp hq hz hj hjj
      go_wp2
      go_region
      go_wp2
      go_round
      case rel =>
        obtain ⟨hm, hga⟩ := HM.out
        have hj := HJ.out
        have i1 := own_set HI.out hga (k := k) (by omega) q
        have i2 := own_set i1 hga (k := jj) (by omega) p
        refine ⟨k + 1, by omega, by go_num, by congr 1; omega, ?_, ((HT.out.setCell (x := ⟨g, k, none⟩) (.inl rfl) _).setCell (x := ⟨g, jj, none⟩) (.inl rfl) _).drew⟩
        have i3 := i2.congr (g := flip s.n (k + 1) f) (fun i hi => by
          obtain ⟨hp, hq⟩ := HPQ.out
          by_cases e1 : i = jj
          · rw [if_pos e1, ← hp]
            unfold flip
            rw [if_neg (by omega), if_pos (by omega)]
            congr 1; omega
          · rw [if_neg e1]
            by_cases e2 : i = k
            · rw [if_pos e2, ← hq]
              unfold flip
              rw [if_neg (by omega), if_pos (by omega)]
              congr 1; omega
            · rw [if_neg e2]
              unfold flip
              by_cases e3 : i < k ∨ s.n ≤ i + k
              · rw [if_pos e3, if_pos (by omega)]
              · rw [if_neg e3, if_neg (by omega)])
        exact i3
      case measure => simp [intOf]; omega
    · have e1 : decide ((k : Int) < (s.n : Int) - 1 - k) = false := by simp; omega
      go_wp2
      go_end0
      refine ⟨rfl, HI.out.congr (fun i hi => ?_), HT.out⟩
      unfold flip
      split
      · rfl
      · congr 1; omega

end Go.Proofs.Ytbmfimojhcdnbaa.Flo
