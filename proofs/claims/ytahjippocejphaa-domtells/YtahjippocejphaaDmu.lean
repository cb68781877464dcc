/-
  Chapter 5's example, plainly: what is over what, nearest, in front.
-/
import Derived.Test.YtahjippocejphaaDmq
import Derived.Test.YtahjippocejphaaDmk
import Derived.Test.YtahjippocejphaaFloE
namespace Go.Proofs.Ytahjippocejphaa.Dm
open Go.RowKit View Rd Copy Num Ty Srt Go.Proofs.Ytahjippocejphaa.Flo Go.Proofs.Ytahjippocejphaa.Lt

set_option linter.unusedVariables false

theorem way4 {N y : Nat} (h : Go.Proofs.Ytahjippocejphaa.Flo.Way (su (ex4 N)) 0 y) : y < 4 := way_ltK (F := ex4 N) (show 0 < 4 by decide) h

theorem r4_1 (N : Nat) : Go.Proofs.Ytahjippocejphaa.Flo.Way (su (ex4 N)) 0 1 := .step (.refl 0) (by rw [su4_0]; decide)
theorem r4_2 (N : Nat) : Go.Proofs.Ytahjippocejphaa.Flo.Way (su (ex4 N)) 0 2 := .step (.refl 0) (by rw [su4_0]; decide)
theorem r4_3 (N : Nat) : Go.Proofs.Ytahjippocejphaa.Flo.Way (su (ex4 N)) 0 3 := .step (r4_1 N) (by rw [su4_1]; decide)

theorem dom4_0 {N b : Nat} (h : Go.Proofs.Ytahjippocejphaa.Flo.Way (su (ex4 N)) 0 b) : DomR (ex4 N) 0 b := ⟨.refl 0, h, .inr fun z => z.1 rfl⟩

theorem l4_0 (N : Nat) (a : Int) : suL (ex4 N) a 0 = ([1, 2] : List Nat).filter (fun t : Nat => decide ((t : Int) ≠ a)) := by unfold suL; rw [su4_0]
theorem l4_1 (N : Nat) (a : Int) : suL (ex4 N) a 1 = ([3] : List Nat).filter (fun t : Nat => decide ((t : Int) ≠ a)) := by unfold suL; rw [su4_1]
theorem l4_2 (N : Nat) (a : Int) : suL (ex4 N) a 2 = ([3] : List Nat).filter (fun t : Nat => decide ((t : Int) ≠ a)) := by unfold suL; rw [su4_2]

theorem not_dom4 {N a b : Nat} (ha : a ≠ 0) (hb : a ≠ b) (h : Go.Proofs.Ytahjippocejphaa.Flo.Way (suL (ex4 N) a) 0 b) : ¬ DomR (ex4 N) a b := fun q => by
  rcases q.2.2 with e | e
  · exact hb e
  · exact e ⟨ha, h⟩

theorem nd4_21 (N : Nat) : ¬ DomR (ex4 N) 2 1 := not_dom4 (by decide) (by decide) (.step (.refl 0) (by rw [l4_0]; decide))
theorem nd4_31 (N : Nat) : ¬ DomR (ex4 N) 3 1 := not_dom4 (by decide) (by decide) (.step (.refl 0) (by rw [l4_0]; decide))
theorem nd4_12 (N : Nat) : ¬ DomR (ex4 N) 1 2 := not_dom4 (by decide) (by decide) (.step (.refl 0) (by rw [l4_0]; decide))
theorem nd4_32 (N : Nat) : ¬ DomR (ex4 N) 3 2 := not_dom4 (by decide) (by decide) (.step (.refl 0) (by rw [l4_0]; decide))
theorem nd4_10 (N : Nat) : ¬ DomR (ex4 N) 1 0 := not_dom4 (by decide) (by decide) (.refl 0)
theorem nd4_13 (N : Nat) : ¬ DomR (ex4 N) 1 3 := not_dom4 (by decide) (by decide) (.step (b := 2) (.step (.refl 0) (by rw [l4_0]; decide)) (by rw [l4_2]; decide))
theorem nd4_23 (N : Nat) : ¬ DomR (ex4 N) 2 3 := not_dom4 (by decide) (by decide) (.step (b := 1) (.step (.refl 0) (by rw [l4_0]; decide)) (by rw [l4_1]; decide))

theorem near4 (N : Nat) : NearB (ex4 N) 1 0 ∧ NearB (ex4 N) 2 0 ∧ NearB (ex4 N) 3 0 := by
  have go : ∀ b, Go.Proofs.Ytahjippocejphaa.Flo.Way (su (ex4 N)) 0 b → b ≠ 0 → (∀ d, d < 4 → d ≠ 0 → d ≠ b → ¬ DomR (ex4 N) d b) → NearB (ex4 N) b 0 := fun b hw hb hd =>
    ⟨dom4_0 hw, fun e => hb e.symm, fun d h1 h2 => by
      by_cases e : d = 0
      · subst e; exact dom4_0 (.refl 0)
      · exact absurd h2 (hd d (way4 h2.1) e h1)⟩
  refine ⟨go 1 (r4_1 N) (by decide) ?_, go 2 (r4_2 N) (by decide) ?_, go 3 (r4_3 N) (by decide) ?_⟩
  · exact four (p := fun d => d ≠ 0 → d ≠ 1 → ¬ DomR (ex4 N) d 1) (fun h => absurd rfl h) (fun _ h => absurd rfl h) (fun _ _ => nd4_21 N) (fun _ _ => nd4_31 N)
  · exact four (p := fun d => d ≠ 0 → d ≠ 2 → ¬ DomR (ex4 N) d 2) (fun h => absurd rfl h) (fun _ _ => nd4_12 N) (fun _ h => absurd rfl h) (fun _ _ => nd4_32 N)
  · exact four (p := fun d => d ≠ 0 → d ≠ 3 → ¬ DomR (ex4 N) d 3) (fun h => absurd rfl h) (fun _ _ => nd4_13 N) (fun _ _ => nd4_23 N) (fun _ h => absurd rfl h)

theorem over4 {N : Nat} {ov : Nat → Int} (h : OverIs (ex4 N) ov) : ∀ i, i < 4 → ov i = ([-1, 0, 0, 0] : List Int).getD i 0 := by
  obtain ⟨L, par, hgr⟩ := gro_ex (light4 N) (show 0 < 4 by decide)
  have at_ : ∀ b, b < 4 → b ≠ 0 → Go.Proofs.Ytahjippocejphaa.Flo.Way (su (ex4 N)) 0 b → NearB (ex4 N) b 0 → ov b = 0 := fun b h1 h2 h3 h4 => by
    obtain ⟨a, _, ha, hn⟩ := h.some b h1 h2 h3
    rw [ha, nearB_unique hn h4 hgr]
    rfl
  exact four (p := fun i => ov i = ([-1, 0, 0, 0] : List Int).getD i 0) (h.none 0 (show 0 < 4 by decide) (.inl rfl)) (at_ 1 (by decide) (by decide) (r4_1 N) (near4 N).1) (at_ 2 (by decide) (by decide) (r4_2 N) (near4 N).2.1) (at_ 3 (by decide) (by decide) (r4_3 N) (near4 N).2.2)

theorem pv4_0 (N : Nat) : pvL (ex4 N) 4 0 = [] := rfl
theorem pv4_1 (N : Nat) : pvL (ex4 N) 4 1 = [0] := rfl
theorem pv4_2 (N : Nat) : pvL (ex4 N) 4 2 = [0] := rfl
theorem pv4_3 (N : Nat) : pvL (ex4 N) 4 3 = [1, 2] := rfl

theorem front4 (N : Nat) : frL (ex4 N) 4 1 = [3] := by
  have f0 : ¬ FrA (ex4 N) 0 (pvL (ex4 N) (ex4 N).blk.n 0).length 1 := fun ⟨i, h, _⟩ => by
    have : i < 0 := h
    omega
  have f1 : ¬ FrA (ex4 N) 1 (pvL (ex4 N) (ex4 N).blk.n 1).length 1 := fun ⟨i, h, _, h3⟩ => by
    obtain rfl : i = 0 := by have : i < 1 := h; omega
    exact nd4_10 N h3.1
  have f2 : ¬ FrA (ex4 N) 2 (pvL (ex4 N) (ex4 N).blk.n 2).length 1 := fun ⟨i, h, _, h3⟩ => by
    obtain rfl : i = 0 := by have : i < 1 := h; omega
    exact nd4_10 N h3.1
  have f3 : FrA (ex4 N) 3 (pvL (ex4 N) (ex4 N).blk.n 3).length 1 := ⟨0, show 0 < 2 by decide, r4_1 N, dom_self (r4_1 N), .inr (nd4_13 N)⟩
  unfold frL
  rw [show List.range 4 = [0, 1, 2, 3] from rfl]
  simp [f0, f1, f2, f3]

theorem dom4_03 (N : Nat) : DomR (ex4 N) 0 3 := dom4_0 (r4_3 N)

end Go.Proofs.Ytahjippocejphaa.Dm
