/-
  The chapter's example: plnlaw7.first.
-/
import Derived.Test.YtlakhndnoaoheaaDoorLxE
namespace Go.Proofs.YtlakhndnoaoheaaDoor.Lx
open Go.RowKit

set_option linter.unusedVariables false

def exa : ByteArray := { data := #[37, 50, 32, 61, 32, 97, 100, 100, 32, 35, 32, 120] }

theorem exa_lines : linesOf (bts exa) exa.size = [[(0, 2), (3, 4), (5, 8)]] := by decide +kernel
theorem exa_text : exa.extract 5 8 = { data := #[97, 100, 100] } := by decide +kernel
theorem exa_good : Good exa := by
  have h : ∀ i, i < 12 → okC (byteAt exa i) = true := by decide +kernel
  exact h

theorem Row.idx {α : Type} {z : Nat} {p : World → Nat → Nat → α → Prop} {w : World} {a : Option Addr} {n c : Nat} {f : Nat → α} (h : Row z p w ⟨a, n, c⟩ f) {T e : Nat} (hT : Tryd.prog.underlying T = some (.slice e)) (hz : (Tryd.prog.info? e).map (fun i => i.size) = some z) (k : Nat) (i : Int) (hi : i = k) (hk : k < n) :
    ∃ b o, (∀ wx, (Instr.indexAt T (.slice a n c) (.int .i64 i)).run Tryd.prog wx = .ok (.pointer (some ⟨b, o, none⟩)) wx) ∧ p w b o (f k) := by
  subst hi
  exact h.at hT hz hk

theorem good_not_bad {s : ByteArray} {k : Nat} (h : Good s) (b : Bad s k) : False := by
  have := h k b.1
  rw [b.2.1] at this
  cases this

set_option maxHeartbeats 1000000 in
theorem first_true (w : World) : Calls Tryd.prog 5 #[] w fun e w' => e = .returned (.bool true) ∧ Below w.heap.size w w' := by
  go_enter Tryd.func5, Tryd.ntmps5
  go_wp2_with fail
  refine (lines_any exa _ (by decide)).mono ?_
  rintro e w1 ⟨⟨sa, sn, sc⟩, at_, er, rfl, hb, h⟩
  rcases h with ⟨k, hk, _⟩ | ⟨_, rfl, rfl, hn, f, hrow, hel⟩
  · exact (good_not_bad exa_good hk).elim
  rw [exa_lines] at hn hel
  obtain rfl : sn = 1 := hn
  obtain ⟨b, o, ix, hc⟩ := hrow.idx undLines sizeLine 0 0 rfl (by omega)
  obtain ⟨hn0, hr0⟩ := hel 0 (Nat.lt_succ_self 0)
  obtain ⟨⟨wa, wn, wc⟩, hf⟩ : ∃ t, f 0 = t := ⟨_, rfl⟩
  rw [hf] at hc hn0 hr0
  obtain rfl : wn = 3 := hn0
  obtain ⟨b0, o0, ix0, c00, c01⟩ := hr0.idx undWords sizeWord 0 0 rfl (by omega)
  obtain ⟨b1, o1, ix1, c10, c11⟩ := hr0.idx undWords sizeWord 1 1 rfl (by omega)
  obtain ⟨b2, o2, ix2, c20, c21⟩ := hr0.idx undWords sizeWord 2 2 rfl (by omega)
  have e0 : w1.cell? ⟨b, o, none⟩ = some (.slice wa 3 wc) := hc
  have e1 : w1.cell? ⟨b0, o0 + 1, none⟩ = some (.int .i64 0) := c01
  have e2 : w1.cell? ⟨b1, o1 + 1, none⟩ = some (.int .i64 3) := c11
  have e3 : w1.cell? ⟨b2, o2 + 1, none⟩ = some (.int .i64 5) := c21
  have e4 : w1.cell? ⟨b2, o2, none⟩ = some (.string { data := #[97, 100, 100] }) := by rw [c20]; exact congrArg (fun t => some (Value.string t)) exa_text
  have HB := hid hb
  clear hb hrow hel hr0 hc c00 c01 c10 c11 c20 c21 hf
  go_wp2_with fail
  go_ret
  exact ⟨rfl, HB.out⟩

end Go.Proofs.YtlakhndnoaoheaaDoor.Lx
