/-
  Pure, First, NeatLaw, ChkX, ChkN: laid together.
-/
import Derived.Test.YtnodofbpogcheaaNeat
import Derived.Test.YtnodofbpogcheaaJ2
import Derived.Test.YtnodofbpogcheaaJ5
import Derived.Test.YtnodofbpogcheaaJ1
import Derived.BigQuiet
import Derived.Deep.QuietTactic
import Derived.Test.YtnodofbpogcheaaChkV
import Derived.Test.YtnodofbpogcheaaChkL
/-
  Made neat twice is made neat; what numbers become (no program in it).
-/
namespace Go.Proofs.Ytnodofbpogcheaa.Own
open Go.RowKit View Rd Copy Srt Num Ty

set_option linter.unusedVariables false

/-- Numbered in order. -/
def Neatly (G : FV) : Prop := ∀ j, j < G.blk.n → ∀ k, k < (G.B j).n → (G.I j k).to = newTo G j k

theorem Neats.last {F G : FV} (h : Neats F G) {j : Nat} (hj : j ≤ F.blk.n) : lastOf G j = lastOf F j := by
  show G.par.n + _ = F.par.n + _
  rw [h.par, cnt_congr (g := fun j => giv (F.I j) (F.B j).n) (fun t ht => by rw [h.B t (by omega)]; exact giv_congr fun t' ht' => h.ty t (by omega) t' (by omega))]

theorem tyRow_congr {f g : Nat → IV} : ∀ {k : Nat}, (∀ t, t < k → (f t).ty = (g t).ty) → tyRow f k = tyRow g k
  | 0, _ => rfl
  | k + 1, h => by rw [tyRow, tyRow, tyRow_congr (fun t ht => h t (by omega)), h k (by omega)]

theorem Neats.types {F G : FV} (h : Neats F G) : typesL G = typesL F := by
  have e1 : row G.P G.par.n = row F.P F.par.n := by
    rw [h.par]; exact List.map_congr_left fun i hi => h.P i (List.mem_range.1 hi)
  have e2 : ∀ j, j ≤ F.blk.n → tyAll G j = tyAll F j := by
    intro j
    induction j with
    | zero => intro _; rfl
    | succ j ih => intro hj; rw [tyAll, tyAll, ih (by omega), h.B j (by omega), tyRow_congr (fun t ht => h.ty j (by omega) t ht)]
  rw [typesL, typesL, e1, h.blk, e2 _ (Nat.le_refl _)]

theorem Neats.size {F G : FV} (h : Neats F G) : cnt (fun j => (G.B j).n) G.blk.n = cnt (fun j => (F.B j).n) F.blk.n := by
  rw [h.blk]; exact cnt_congr fun t ht => h.B t ht

theorem Neats.light {F G : FV} (h : Neats F G) (hl : Light F) : Light G := by
  refine ⟨by rw [h.size]; exact hl.all, by rw [h.name]; exact hl.name, by rw [h.par]; exact hl.par, by rw [h.blk]; exact hl.blk, fun j hj => ?_, fun j hj k hk => ?_, fun j hj k hk => ?_⟩
  · rw [h.blk] at hj; rw [h.B j hj]; exact hl.ins j hj
  · rw [h.blk] at hj; rw [h.B j hj] at hk; rw [h.an j hj k hk]; exact hl.args j hj k hk
  · rw [h.blk] at hj; rw [h.B j hj] at hk; rw [h.jn j hj k hk]; exact hl.into j hj k hk

end Go.Proofs.Ytnodofbpogcheaa.Own

/-
  The chapter's example: plnlaw3.first answers true.
-/
namespace Go.Proofs.Ytnodofbpogcheaa.First
open Go.RowKit View Rd Copy Srt Num Own

set_option linter.unusedVariables false

abbrev i0 (N : Nat) : IV := ⟨4, 1, 9, 0, 0, ⟨some ⟨N + 1, 0, none⟩, 2, 2⟩, ⟨none, 0, 0⟩⟩
abbrev i1 (N : Nat) : IV := ⟨29, 0, 0, 0, 0, ⟨some ⟨N + 1 + 1, 0, none⟩, 1, 1⟩, ⟨none, 0, 0⟩⟩

abbrev ex (N : Nat) : FV where
  name := ⟨#[]⟩
  out := false
  par := ⟨some ⟨N, 0, none⟩, 2, 2⟩
  res := 0
  blk := ⟨some ⟨N + 1 + 1 + 1 + 1, 0, none⟩, 1, 1⟩
  P := fun _ => 1
  B := fun _ => ⟨some ⟨N + 1 + 1 + 1, 0, none⟩, 2, 2⟩
  I := fun _ k => if k = 0 then i0 N else i1 N
  A := fun _ k i => if k = 0 then (i : Int) + 1 else 9
  J := fun _ _ _ => 0

theorem lit1 (w : World) (x : Int) (N : Nat) (hN : w.heap.size = N) : Ints (w.alloc (.cells #[.int .i64 x] 3)) ⟨some ⟨N, 0, none⟩, 1, 1⟩ (fun _ => x) := by
  subst hN
  refine ⟨Nat.le_refl _, by show 1 ≤ _; omega, fun h => by simp at h, fun _ => ⟨w.heap.size, 0, rfl, fun i hi => ?_⟩⟩
  obtain rfl : i = 0 := by simp at hi; omega
  simp

theorem lit2 (w : World) (f : Nat → Int) (N : Nat) (hN : w.heap.size = N) : Ints (w.alloc (.cells #[.int .i64 (f 0), .int .i64 (f 1)] 3)) ⟨some ⟨N, 0, none⟩, 2, 2⟩ f := by
  subst hN
  refine ⟨Nat.le_refl _, by show 2 ≤ _; omega, fun h => by simp at h, fun _ => ⟨w.heap.size, 0, rfl, fun i hi => ?_⟩⟩
  have : i = 0 ∨ i = 1 := by simp at hi; omega
  rcases this with rfl | rfl <;> simp

theorem litN (w : World) (f : Nat → Int) : Ints w ⟨none, 0, 0⟩ f := ⟨Nat.le_refl _, Nat.zero_le _, fun _ => rfl, fun h => absurd h (by simp)⟩

end Go.Proofs.Ytnodofbpogcheaa.First

/-
  The walk of plnlaw3.IrNeat: it answers true, whatever function lies there.
-/
namespace Go.Proofs.Ytnodofbpogcheaa.NeatLaw
open Go.RowKit View Rd Copy Srt Num Own Ty First

set_option linter.unusedVariables false

theorem cnt_mono {f g : Nat → Nat} : ∀ {k : Nat}, (∀ t, t < k → f t ≤ g t) → cnt f k ≤ cnt g k
  | 0, _ => Nat.le_refl _
  | k + 1, h => by
    have h1 := cnt_mono (k := k) (fun t ht => h t (by omega))
    have h2 := h k (by omega)
    rw [cnt, cnt]; omega

theorem total_le {F : FV} (hl : Light F) : F.par.n + cnt (fun j => giv (F.I j) (F.B j).n) F.blk.n ≤ 408 := by
  have h1 := cnt_mono (f := fun j => giv (F.I j) (F.B j).n) (g := fun j => (F.B j).n) (k := F.blk.n) (fun t ht => giv_le _ _)
  have := hl.all
  have := hl.par
  omega

end Go.Proofs.Ytnodofbpogcheaa.NeatLaw

/-
  Types that fit, by the document: plnref3.types.
-/
namespace Go.Proofs.Ytnodofbpogcheaa.Chk
open Go.RowKit View Rd Num Opn Copy Ty Srt Go.Proofs.Ytnodofbpogcheaa.Mod

set_option linter.unusedVariables false

/-- What the values taken are. -/
def gotT (F : FV) (j k i : Nat) : Int := (typesL F).getD (F.A j k i).toNat 0

def TypeF (M : MV) (F : FV) : Prop := ∀ j, j < F.blk.n → ∀ k, k < (F.B j).n → FitI M F (F.I j k) (F.I j k).args.n (gotT F j k)

/-- What is taken is there. -/
def ArgsF (F : FV) : Prop := ∀ j, j < F.blk.n → ∀ k, k < (F.B j).n → ∀ i, i < (F.I j k).args.n → 0 ≤ F.A j k i ∧ F.A j k i < (typesL F).length

end Go.Proofs.Ytnodofbpogcheaa.Chk

/-
  Names, by the document: plnref3.Name.
-/
namespace Go.Proofs.Ytnodofbpogcheaa.Chk
open Go.RowKit View Rd Num Opn Copy Go.Proofs.Ytnodofbpogcheaa.Mod

set_option linter.unusedVariables false

def byteAt (s : ByteArray) (i : Nat) : Int := if h : i < s.size then ((s[i]'h).toNat : Int) else 0

def chOk (c : Int) : Bool := (decide (97 ≤ c) && decide (c ≤ 122)) || (decide (48 ≤ c) && decide (c ≤ 57)) || decide (c = 95)

def NameOk (s : ByteArray) : Prop := 1 ≤ s.size ∧ s.size ≤ 12 ∧ 97 ≤ byteAt s 0 ∧ byteAt s 0 ≤ 122 ∧ ∀ i, i < s.size → chOk (byteAt s i) = true

theorem index_str (s : ByteArray) {i : Nat} (hi : i < s.size) : ∀ wx, (Instr.index 9 (.string s) (.int .i64 i)).run Try.prog wx = .ok (.int .u8 (byteAt s i)) wx := by
  intro wx
  rw [run_index_string wx 9 s .i64 i (by kernel_rfl), dif_pos ⟨by omega, by omega⟩]
  unfold byteAt
  rw [dif_pos hi]
  simp

def NameIs (s : ByteArray) (w : World) (e : Ending) (w' : World) : Prop := ∃ r : Bool, e = .returned (.bool r) ∧ (r = true ↔ NameOk s) ∧ w' = w

end Go.Proofs.Ytnodofbpogcheaa.Chk
