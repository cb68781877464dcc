/-
  How often each value stands in an Args: ir.countArgs, ir.Uses, plnref3.Uses.
-/
import Derived.Test.YthaedlnefikigaaTy
import Derived.Test.YthaedlnefikigaaSortF
namespace Go.Proofs.Ythaedlnefikigaa.Use
open Go.RowKit View Rd Copy Srt Ty

set_option linter.unusedVariables false

/-- How often v stands among the first n. -/
def occ (f : Nat → Int) (v : Nat) : Nat → Nat
  | 0 => 0
  | n + 1 => occ f v n + if f n = (v : Int) then 1 else 0

theorem occ_le (f : Nat → Int) (v : Nat) : ∀ n, occ f v n ≤ n
  | 0 => Nat.le_refl _
  | n + 1 => by have := occ_le f v n; rw [occ]; split <;> omega

def rowOcc (A : Nat → Nat → Int) (I : Nat → IV) (v k : Nat) : Nat := cnt (fun t => occ (A t) v (I t).args.n) k

def allOcc (F : FV) (v j : Nat) : Nat := cnt (fun j => rowOcc (F.A j) (F.I j) v (F.B j).n) j

/-- What countArgs leaves. -/
def Counted (s t : Sl) (u : Nat → Nat) (f : Nat → Int) (g : Nat) (w : World) (e : Ending) (w' : World) : Prop :=
  e = .returned (.tuple #[]) ∧ Ints w' s (fun v => ((u v + occ f v t.n : Nat) : Int)) ∧ Turn (fun b => b = g) w w'

set_option maxHeartbeats 1000000 in
theorem countArgs_any (s t : Sl) (u : Nat → Nat) (f : Nat → Int) (g : Nat) (w : World) (hs : Ints w s (fun v => (u v : Int))) (ht : Ints w t f) (hg : s.a = some ⟨g, 0, none⟩) (hgl : g < w.heap.size) (hfz : ∀ i, w.frozen? ⟨g, i, none⟩ = false)
    (hne : ∀ b o, t.a = some ⟨b, o, none⟩ → 0 < t.n → b ≠ g) (hu : ∀ v, u v ≤ 1000000) (hn : t.n ≤ 1000) (hsn : s.n ≤ 1000000) :
    Calls Try.prog 50 #[.slice s.a s.n s.c, .slice t.a t.n t.c] w fun e w' => Counted s t u f g w e w' := by
  have HS := hid hs
  have HT := hid ht
  have HG := hid hg
  have HF := hid hfz
  have NE := hid hne
  have HU := hid hu
  clear hs ht hg hfz hne hu
  go_enter Try.func50, Try.ntmps50
  go_wp2_with fail
  go_loopw [8] (fun i wr => ∃ k : Nat, k ≤ t.n ∧ i = .int .i64 k ∧ Ints wr s (fun v => ((u v + occ f v k : Nat) : Int)) ∧ Turn (fun b => b = g) w wr) (fun i _ => t.n - (intOf i).toNat)
  case atStart => exact ⟨0, Nat.zero_le _, rfl, HS.out, Turn.refl _ _⟩
  case round =>
    obtain ⟨k, hk, rfl, is, htu⟩ := hrel
    have IS := hid (And.intro is htu)
    clear is htu
    by_cases hlt : k < t.n
    · have it : Ints wr t f := HT.out.kept IS.out.2.kept (fun b o ha h0 => ⟨by
        obtain ⟨b', o', ha', hc⟩ := HT.out.2.2.2 h0
        have e := ha.symm.trans ha'
        simp at e
        rw [e.1]; exact World.block_lt_of_cell? _ _ (hc 0 h0), NE.out b o ha h0⟩)
      obtain ⟨b1, o1, hix, hc⟩ := it.at hlt
      by_cases h0 : f k < 0
      · have r0 : decide (0 ≤ f k) = false := by simp; omega
        have r1 : decide (f k < 0) = true := by simpa using h0
        go_wp2_with fail
        go_round
        case rel => exact ⟨k + 1, by omega, by go_num, IS.out.1.congr (fun v _ => by rw [occ, if_neg (by omega)]; simp), IS.out.2⟩
        case measure => simp [intOf]; omega
      by_cases h1 : (s.n : Int) ≤ f k
      · have r0 : decide (0 ≤ f k) = true := by simp; omega
        have r2 : decide (f k < (s.n : Int)) = false := by simp; omega
        go_wp2_with fail
        go_round
        case rel => exact ⟨k + 1, by omega, by go_num, IS.out.1.congr (fun v hv => by rw [occ, if_neg (by omega)]; simp), IS.out.2⟩
        case measure => simp [intOf]; omega
      obtain ⟨v, hv⟩ : ∃ v : Nat, f k = v := ⟨(f k).toNat, by omega⟩
      have hvs : v < s.n := by omega
      obtain ⟨x1, y1⟩ := own_at IS.out.1 HG.out hvs
      have x2 : ∀ wx, (Instr.indexAt 33 (.slice s.a s.n s.c) (.int .i64 (f k))).run Try.prog wx = .ok (.pointer (some ⟨g, v, none⟩)) wx := by rw [hv]; exact x1
      have f1 : wr.frozen? ⟨g, v, none⟩ = false := by rw [IS.out.2.froz _ hgl]; exact HF.out v
      obtain ⟨C, hC⟩ : ∃ C, u v + occ f v k = C := ⟨_, rfl⟩
      have hCb : C ≤ 1001000 := by have := HU.out v; have := occ_le f v k; omega
      rw [hC] at y1
      have r0 : decide (0 ≤ f k) = true := by simp; omega
      have r2 : decide (f k < (s.n : Int)) = true := by simp; omega
      have HV := hid hv
      have HC := hid hC
      clear hv hC x1 it
      go_wp2_with fail
      go_round
      case rel =>
        refine ⟨k + 1, by omega, by go_num, (own_set IS.out.1 HG.out hvs ((C : Int) + 1)).congr (fun z hz => ?_), IS.out.2.setCell (x := ⟨g, v, none⟩) (.inl rfl) _⟩
        by_cases e : z = v
        · subst e
          rw [if_pos rfl, occ, if_pos HV.out]
          have := HC.out
          omega
        · rw [if_neg e, occ, if_neg (fun h => e (by have := HV.out; omega))]
          simp
      case measure => simp [intOf]; omega
    · obtain rfl : k = t.n := by omega
      go_wp2_with fail
      go_end0
      exact ⟨rfl, IS.out.1, IS.out.2⟩

end Go.Proofs.Ythaedlnefikigaa.Use
