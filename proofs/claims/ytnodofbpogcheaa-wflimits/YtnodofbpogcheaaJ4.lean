/-
  FloT, FloY: laid together.
-/
import Derived.Test.YtnodofbpogcheaaFloS
import Derived.Deep.RegionHeld3
/-
  By the document: plnref3.from, Reach.
-/
namespace Go.Proofs.Ytnodofbpogcheaa.Flo
open Go.RowKit View Rd Copy Num Ty Srt

set_option linter.unusedVariables false

/-- Where block b goes, one left out. -/
def suL (F : FV) (ls : Int) (b : Nat) : List Nat := (su F b).filter (fun t => decide ((t : Int) ≠ ls))

theorem mem_suL {F : FV} {ls : Int} {b t : Nat} : t ∈ suL F ls b ↔ t ∈ su F b ∧ (t : Int) ≠ ls := by simp [suL]

/-- What is met so far is met by ways, and the start is. -/
structure Met (F : FV) (ls : Int) (s0 : Nat) (f : Nat → Bool) : Prop where
  start : f s0 = true
  way : ∀ i, f i = true → Way (suL F ls) s0 i

theorem Met.more {F : FV} {ls : Int} {s0 : Nat} {f : Nat → Bool} (h : Met F ls s0 f) {b x : Nat} (hb : f b = true) (hx : x ∈ suL F ls b) : Met F ls s0 (upd f x) := by
  refine ⟨by unfold upd; split; rfl; exact h.start, fun i hi => ?_⟩
  unfold upd at hi
  split at hi
  · next e => subst e; exact (h.way b hb).step hx
  · exact h.way i hi

/-- All that goes on from those below b is met. -/
def Shut (F : FV) (ls : Int) (f : Nat → Bool) (b : Nat) : Prop := ∀ c, c < b → f c = true → ∀ t ∈ suL F ls c, f t = true

def FromIs (F : FV) (st ls : Int) (w : World) (e : Ending) (w' : World) : Prop :=
  ∃ f : Nat → Bool, ReachIs F.blk.n f w e w' ∧ ∀ i, i < F.blk.n → (f i = true ↔ isB F st = true ∧ st ≠ ls ∧ Way (suL F ls) st.toNat i)

end Go.Proofs.Ytnodofbpogcheaa.Flo

/-
  By the document: plnref3.Prev; plnkeep.Rows.
-/
namespace Go.Proofs.Ytnodofbpogcheaa.Flo
open Go.RowKit View Rd Copy Num Ty Srt

set_option linter.unusedVariables false

theorem wp_app {P : Program} {o : Oper} {a : Act} {w w' : World} {v' v u : Value} {t : TypeId} {s x : Operand} {K : Act → World → Prop} {Q : Exit → Act → World → Prop} {d : Option Tmp} (ho : o.op = .call { callee := .builtin .append, args := #[s, x], argTypes := #[t, t] }) (hd : o.dst = d) (hs : a.eval s = v) (hx : a.eval x = u) (hr : (Builtin.append_ #[t, t] o.type #[v, u]).run P w = .ok v' w') (h : K (a.put d v') w') : o.wp P a w K Q := by
  subst hd
  unfold Oper.wp execOp
  simp only [ho, resolve, invoke, builtin, Sem.run_bind, Sem.run_pure, Result.andThen_ok, List.map_toArray, List.map_cons, List.map_nil, hs, hx, hr]
  exact h

theorem Pv.ints {w : World} {M n : Nat} {R : Nat → Sl} {L : Nat → List Nat} (h : Pv w M n R L) {i : Nat} (hi : i < n) (hl : (L i).length ≤ 1000) : Ints w (R i) (fun k => (((L i).getD k 0 : Nat) : Int)) ∧ (R i).n = (L i).length := by
  obtain ⟨s, hs, hn, hI, _⟩ := ints_of_owns (h.own i hi) (by simp; omega)
  have e : R i = s := by
    have h1 : (R i).a = s.a ∧ (R i).n = s.n ∧ (R i).c = s.c := by simpa [Sl.val] using hs
    cases hR : R i; cases s; rw [hR] at h1; simp at h1; simp [h1]
  rw [e]
  exact ⟨hI.congr (fun k hk => getD_ints _ _ (by rw [hn] at hk; simpa using hk)), by simpa using hn⟩

end Go.Proofs.Ytnodofbpogcheaa.Flo
