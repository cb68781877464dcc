/-
  Rows of answers; plnref3.In.
-/
import Derived.Test.YtbmfimojhcdnbaaFlo
import Derived.Test.YtbmfimojhcdnbaaFloQ
import Derived.Test.YtbmfimojhcdnbaaFloP
import Derived.Deep.OwnRows
import Derived.Deep.RegionHeld3
namespace Go.Proofs.Ytbmfimojhcdnbaa.Flo
open Go.RowKit View Rd Copy Num Ty Srt

set_option linter.unusedVariables false

theorem underlying45 : Try.prog.underlying 45 = some (.slice 4) := by kernel_rfl
theorem info4 : (Try.prog.info? 4).map (fun i => (i.zero, i.size, i.bytes)) = some (some (.bool false), 1, 1) := by kernel_rfl
theorem size4 : (Try.prog.info? 4).map (fun i => i.size) = some 1 := by kernel_rfl

theorem bool_at {g n x : Nat} (hx : x < n) : ∀ wx, (Instr.indexAt 45 (.slice (some ⟨g, 0, none⟩) n n) (.int .i64 x)).run Try.prog wx = .ok (.pointer (some ⟨g, x, none⟩)) wx := by
  have := index_row (s := ⟨some ⟨g, 0, none⟩, n, n⟩) rfl underlying45 size4 hx
  simpa using this

theorem unmet_none (n : Nat) : unmet (fun _ => false) n = n := by
  induction n with
  | zero => rfl
  | succ n ih => rw [unmet, ih]; simp

/-- A row of answers is handed back. -/
def ReachIs (n : Nat) (f : Nat → Bool) (w : World) (e : Ending) (w' : World) : Prop :=
  ∃ M, e = .returned (.slice (some ⟨M, 0, none⟩) n n) ∧ w'.rowIs M 4 n (fun i => .bool (f i)) ∧ w.heap.size ≤ M ∧ Below w.heap.size w w'

set_option maxHeartbeats 400000 in
theorem in_any (s : Sl) (f : Nat → Int) (x : Int) (w : World) (hs : Ints w s f) (hn : s.n ≤ 1000) :
    Calls Try.prog 35 #[.slice s.a s.n s.c, .int .i64 x] w fun e w' => ∃ b : Bool, e = .returned (.bool b) ∧ (b = true ↔ ∃ i, i < s.n ∧ f i = x) ∧ Below w.heap.size w w' := by
  have HS := hid hs
  clear hs
  go_enter Try.func35, Try.ntmps35
  go_wp2_with fail
  go_loopw [5] (fun i wr => ∃ k : Nat, k ≤ s.n ∧ i = .int .i64 k ∧ (∀ i, i < k → f i ≠ x) ∧ Below w.heap.size w wr) (fun i _ => s.n - (intOf i).toNat)
  case atStart => exact ⟨0, Nat.zero_le _, rfl, fun i hi => by omega, same w⟩
  case round =>
    obtain ⟨k, hk, rfl, hno, hb⟩ := hrel
    have HN := hid hno
    clear hno
    by_cases hlt : k < s.n
    · obtain ⟨ib, io, hiy, hcell⟩ := (HS.out.on hb).at hlt
      by_cases he : f k = x
      · have t1 : (f k == x) = true := by simp [he]
        have HE := hid he
        clear he
        go_wp2_with fail
        go_ret
        exact ⟨true, rfl, by simp; exact ⟨k, hlt, HE.out⟩, hb⟩
      · have t1 : (f k == x) = false := by simp [he]
        have HE := hid he
        clear he
        go_wp2_with fail
        go_round
        case rel => exact ⟨k + 1, by omega, by go_num, fun i hi => by
          by_cases e : i = k
          · rw [e]; exact HE.out
          · exact HN.out i (by omega), hb⟩
        case measure => simp [intOf]; omega
    · obtain rfl : k = s.n := by omega
      go_wp2_with fail
      go_ret
      exact ⟨false, rfl, by simp; exact HN.out, hb⟩

/-- An operation is taken first; where it leaves its value is told. -/
theorem takeAt {P : Program} {ops : Array Oper} {Q : Exit → Act → World → Prop} {md : Region.Mode} {S : World → Prop} {i : Nat} {oi : Oper} {d : Option Tmp} {v : Value} {fuel : Nat} {listed : Array Bool} {a : Act} {w : World} (hi : ops[i]? = some oi) (hd : oi.dst = d)
    (hs : Region.noSelect ops = true) (hf : Region.free md ops listed i = true) (hr : (Region.ready md ops listed).contains i = true)
    (hQ : ∀ c a w, Q (.panic c) (a.put d v) w → Q (.panic c) a w) (hy : YieldsIf P ops S oi v a) (hS : S w)
    (h : wpAnyH P md ops Q S fuel (listed.setIfInBounds i true) (a.put d v) w) : wpAnyH P md ops Q S (fuel + 1) listed a w := by
  subst hd
  exact wpAnyH_take hi hs hf hr hQ hy hS h

/-- Another condition, which says more, from here on. -/
theorem wpAnyH_switch {P : Program} {ops : Array Oper} {Q : Exit → Act → World → Prop} {md : Region.Mode} {S S' : World → Prop} (h : ∀ w, S' w → S w) :
    ∀ (fuel : Nat) (listed : Array Bool) (a : Act) (w : World), wpAnyH P md ops Q S' fuel listed a w → wpAnyH P md ops Q S fuel listed a w
  | 0, _, _, _, H => H
  | fuel + 1, _, _, _, H => ⟨H.1, fun i hi => wpOp_mono (fun a' w' h' => ⟨h w' h'.1, wpAnyH_switch h fuel _ a' w' h'.2⟩) (H.2 i hi)⟩

end Go.Proofs.Ytbmfimojhcdnbaa.Flo
