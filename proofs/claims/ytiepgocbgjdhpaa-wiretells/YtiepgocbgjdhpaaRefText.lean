/-
  What the document's own GetText answers (plnref1.GetText), as a contract of the translated code.
-/
import Derived.Test.YtiepgocbgjdhpaaProg
import Derived.Test.YtiepgocbgjdhpaaRefGet
import Derived.Test.YtiepgocbgjdhpaaConv
import Derived.WalkKit
import Derived.ProofKit
import Derived.WalkSpells
import Derived.Deep.Light
namespace Go.Proofs.Ytiepgocbgjdhpaa.RefText
open Go.RowKit Plain Get Cv GetText RefGet

set_option linter.unusedVariables false

theorem rget_is (a : Option Addr) (n c : Nat) (p : Int) (f : Nat → Int) (w : World) (h : Reads w a n c f) (v nx e : Int) (hg : got f n p = (v, nx, e)) :
    Calls Try.prog 9 #[.slice a n c, .int .i64 p] w fun r w' => r = .returned (.tuple #[.int .i64 v, .int .i64 nx, .int .i64 e]) ∧ ∃ q, w' = w.drewN q := by
  have := rget_any a n c p f w h
  rw [hg] at this
  exact this.mono fun _ _ ⟨h1, h2⟩ => ⟨h1, 0, by rw [h2]; rfl⟩

set_option maxHeartbeats 400000 in
theorem rtext_err (a : Option Addr) (n c : Nat) (p most : Int) (f : Nat → Int) (w : World) (h : Reads w a n c f) (v nx e : Int) (hg : got f n p = (v, nx, e)) (he : (e != 0) = true) :
    Calls Try.prog 11 #[.slice a n c, .int .i64 p, .int .i64 most] w fun r w' => r = .returned (.tuple #[.string (str []), .int .i64 0, .int .i64 e]) ∧ ∃ q, w' = w.drewN q := by
  have HG := hide hg
  have HR := hide h
  have hn1 := h.1
  have hn2 := h.2.1
  unfold maxLen at hn2
  clear hg h
  go_enter Try.func11, Try.ntmps11
  go_wp2_with fail
  refine (rget_is _ n c p f w HR.out v nx e HG.out).mono ?_
  rintro e w1 ⟨rfl, q, rfl⟩
  go_wp2
  go_ret3
  exact ⟨rfl, _, rfl⟩

set_option maxHeartbeats 400000 in
theorem rtext_below (a : Option Addr) (n c : Nat) (p most : Int) (f : Nat → Int) (w : World) (h : Reads w a n c f) (v nx : Int) (hg : got f n p = (v, nx, 0)) (hv : v < 0) :
    Calls Try.prog 11 #[.slice a n c, .int .i64 p, .int .i64 most] w fun r w' => r = .returned (.tuple #[.string (str []), .int .i64 0, .int .i64 1]) ∧ ∃ q, w' = w.drewN q := by
  have HG := hide hg
  have HR := hide h
  have hn1 := h.1
  have hn2 := h.2.1
  unfold maxLen at hn2
  clear hg h
  go_enter Try.func11, Try.ntmps11
  go_wp2_with fail
  refine (rget_is _ n c p f w HR.out v nx 0 HG.out).mono ?_
  rintro e w1 ⟨rfl, q, rfl⟩
  go_wp2
  go_ret3
  exact ⟨rfl, _, rfl⟩

set_option maxHeartbeats 400000 in
theorem rtext_most (a : Option Addr) (n c : Nat) (p most : Int) (f : Nat → Int) (w : World) (h : Reads w a n c f) (v nx : Int) (hg : got f n p = (v, nx, 0)) (hv : 0 ≤ v) (hv2 : most < v) :
    Calls Try.prog 11 #[.slice a n c, .int .i64 p, .int .i64 most] w fun r w' => r = .returned (.tuple #[.string (str []), .int .i64 0, .int .i64 2]) ∧ ∃ q, w' = w.drewN q := by
  have HG := hide hg
  have HR := hide h
  have hn1 := h.1
  have hn2 := h.2.1
  unfold maxLen at hn2
  clear hg h
  go_enter Try.func11, Try.ntmps11
  go_wp2_with fail
  refine (rget_is _ n c p f w HR.out v nx 0 HG.out).mono ?_
  rintro e w1 ⟨rfl, q, rfl⟩
  go_wp2
  go_ret3
  exact ⟨rfl, _, rfl⟩

set_option maxHeartbeats 400000 in
theorem rtext_cut (a : Option Addr) (n c : Nat) (p most : Int) (f : Nat → Int) (w : World) (h : Reads w a n c f) (v : Int) (nx : Nat) (hg : got f n p = (v, (nx : Int), 0)) (hv : 0 ≤ v) (hv2 : v ≤ most) (hnx : nx ≤ n) (hv3 : (n : Int) - nx < v) :
    Calls Try.prog 11 #[.slice a n c, .int .i64 p, .int .i64 most] w fun r w' => r = .returned (.tuple #[.string (str []), .int .i64 0, .int .i64 1]) ∧ ∃ q, w' = w.drewN q := by
  have HG := hide hg
  have HR := hide h
  have hn1 := h.1
  have hn2 := h.2.1
  unfold maxLen at hn2
  clear hg h
  go_enter Try.func11, Try.ntmps11
  go_wp2_with fail
  refine (rget_is _ n c p f w HR.out v nx 0 HG.out).mono ?_
  rintro e w1 ⟨rfl, q, rfl⟩
  go_wp2
  go_ret3
  exact ⟨rfl, _, rfl⟩

set_option maxHeartbeats 400000 in
theorem rtext_ok (a : Option Addr) (n c : Nat) (p most : Int) (f : Nat → Int) (w : World) (h : Reads w a n c f) (v nx : Nat) (hg : got f n p = ((v : Int), (nx : Int), 0)) (hv2 : (v : Int) ≤ most) (hv3 : nx + v ≤ n) (h0 : 0 < n) :
    Calls Try.prog 11 #[.slice a n c, .int .i64 p, .int .i64 most] w fun r w' => r = .returned (.tuple #[.string (str (seg f nx v)), .int .i64 (nx + v), .int .i64 0]) ∧ ∃ q, w' = w.drewN q := by
  obtain ⟨b, off, rfl, hc⟩ := h.2.2.2 h0
  have HG := hide hg
  have HR := hide h
  have hn1 := h.1
  have hn2 := h.2.1
  unfold maxLen at hn2
  clear hg h
  have hv1 : ¬ (v : Int) < 0 := by omega
  have hv4 : (v : Int) ≤ (n : Int) - nx := by omega
  by_cases hcap : c = nx
  · have hv0 : v ≤ 0 := by omega
    have hcv : ∀ q, (convert 22 9 (.slice (some ⟨b, off, none⟩) v 0)).run Try.prog (w.drewN q) = .ok (.string (str (seg f nx v))) (w.drewN q) := fun q => run_conv _ _ v _ _ (seg_length f nx v) (fun h => absurd h (by omega))
    have HV := hide hv0
    subst hcap
    clear hc hv0
    go_enter Try.func11, Try.ntmps11
    go_wp2_with fail
    refine (rget_is _ n c p f w HR.out v c 0 HG.out).mono ?_
    rintro e w1 ⟨rfl, q, rfl⟩
    go_wp2
    go_ret3
    exact ⟨by simp, _, rfl⟩
  · have hcv : ∀ q, (convert 22 9 (.slice (some ⟨b, off + nx, none⟩) v (c - nx))).run Try.prog (w.drewN q) = .ok (.string (str (seg f nx v))) (w.drewN q) := fun q =>
      run_conv _ _ v _ _ (seg_length f nx v) (fun _ => ⟨b, off + nx, rfl, fun i hi => by
        rw [seg_get f nx v i hi, Nat.add_assoc]; exact hc _ (by omega)⟩)
    clear hc
    go_enter Try.func11, Try.ntmps11
    go_wp2_with fail
    refine (rget_is _ n c p f w HR.out v nx 0 HG.out).mono ?_
    rintro e w1 ⟨rfl, q, rfl⟩
    go_wp2
    go_ret3
    exact ⟨by simp, _, rfl⟩

theorem rtext_any (a : Option Addr) (n c : Nat) (p most : Int) (f : Nat → Int) (w : World) (h : Reads w a n c f) :
    Calls Try.prog 11 #[.slice a n c, .int .i64 p, .int .i64 most] w fun r w' => r = .returned (.tuple #[.string (str (gotText f n p most).1), .int .i64 (gotText f n p most).2.1, .int .i64 (gotText f n p most).2.2]) ∧ ∃ q, w' = w.drewN q := by
  have hok := got_ok f n p h.2.2.1
  unfold gotText
  obtain ⟨⟨v, nx, e⟩, hg⟩ : ∃ g, got f n p = g := ⟨_, rfl⟩
  rw [hg] at hok ⊢
  simp only at hok ⊢
  by_cases h1 : e = 0
  · subst h1
    rw [if_neg (by simp)]
    obtain ⟨hn, hp, hnx, hp0⟩ := hok rfl
    by_cases h2 : v < 0
    · rw [if_pos h2]; exact rtext_below a n c p most f w h v nx hg h2
    rw [if_neg h2]
    by_cases h3 : most < v
    · rw [if_pos h3]; exact rtext_most a n c p most f w h v nx hg (by omega) h3
    rw [if_neg h3]
    obtain ⟨nx, rfl⟩ := Int.eq_ofNat_of_zero_le (a := nx) (by omega)
    by_cases h4 : (n : Int) - nx < v
    · rw [if_pos h4]; exact rtext_cut a n c p most f w h v nx hg (by omega) (by omega) (by omega) h4
    rw [if_neg h4]
    obtain ⟨v, rfl⟩ := Int.eq_ofNat_of_zero_le (a := v) (by omega)
    simp only [Int.toNat_natCast]
    exact rtext_ok a n c p most f w h v nx hg (by omega) (by omega) hn
  · rw [if_pos h1]; exact rtext_err a n c p most f w h v nx e hg (by simpa using h1)

end Go.Proofs.Ytiepgocbgjdhpaa.RefText
