/-
  ChkO, ChkQ, ChkAll, FloE, Wga, Wla: laid together.
-/
import Derived.Test.YtnodofbpogcheaaJ8
import Derived.Maps.OwnSet
import Derived.Maps.OwnOps
import Derived.Test.YtnodofbpogcheaaChkZ
import Derived.Test.YtnodofbpogcheaaChkL
import Derived.Test.YtnodofbpogcheaaChkS
import Derived.Deep.RegionHeld3
import Derived.Test.YtnodofbpogcheaaJ3
import Derived.Test.YtnodofbpogcheaaJ1
import Derived.Lib.ItoaLen
/-
  Names that stand once, by the document: plnref3.one, names.
-/
namespace Go.Proofs.Ytnodofbpogcheaa.Chk
open Go.RowKit View Rd Num Opn Copy Go.Proofs.Ytnodofbpogcheaa.Mod
open Go.Maps (Keyed string_keyed)

set_option linter.unusedVariables false

theorem underlying9 : Try.prog.underlying 9 = some .string := by kernel_rfl
theorem underlying90 : Try.prog.underlying 90 = some (.map 9 3) := by kernel_rfl
theorem law9 : Keyed Try.prog 9 := string_keyed underlying9

/-- Block B is a map of at most n entries that counts: m. -/
def SMap (w : World) (B n : Nat) (m : List UInt8 → Nat) : Prop :=
  ∃ D : DataW Unit, w.ownsMap Try.prog 9 (plainElem Try.prog 3) B n D ∧ ∀ l, D.atKey (.string l) (.lit (.int .i64 0)) = .lit (.int .i64 (m l))

theorem SMap.at_block {w w' : World} {B n : Nat} {m : List UInt8 → Nat} (h : SMap w B n m) (e : w'.heap[B]? = w.heap[B]?) : SMap w' B n m := by
  obtain ⟨D, ⟨es, clock, hb, hr⟩, hv⟩ := h
  exact ⟨D, ⟨es, clock, by rw [e]; exact hb, hr⟩, hv⟩

theorem SMap.lt {w : World} {B n : Nat} {m : List UInt8 → Nat} (h : SMap w B n m) : B < w.heap.size := by
  obtain ⟨D, ⟨es, clock, hb, hr⟩, hv⟩ := h
  exact (Array.getElem?_eq_some_iff.1 hb).1

theorem SMap.on {w w' : World} {B n : Nat} {m : List UInt8 → Nat} (hb : Below w.heap.size w w') (h : SMap w B n m) : SMap w' B n m := h.at_block (hb.block B h.lt)

theorem SMap.congr {w : World} {B n : Nat} {m m' : List UInt8 → Nat} (h : SMap w B n m) (e : ∀ l, m l = m' l) : SMap w B n m' := by
  obtain ⟨D, ho, hv⟩ := h
  exact ⟨D, ho, fun l => by rw [← e l]; exact hv l⟩

theorem SMap.made (w : World) : SMap (w.alloc (.map #[] 0)) w.heap.size 0 (fun _ => 0) := ⟨.map [], World.ownsMap_made _ _ _ _, fun l => rfl⟩

theorem key9 {s : ByteArray} (hs : s.size ≤ 40) : keyOf Try.prog 9 (.string s) = some (.string s.data.toList) := WideMaps.keyOf_string_mk underlying9 (by unfold maxLen; omega)

theorem SMap.look {w : World} {B n : Nat} {m : List UInt8 → Nat} (h : SMap w B n m) {s : ByteArray} (hs : s.size ≤ 40) : (Instr.lookup 90 (.map (some B)) (.string s) false).run Try.prog w = .ok (.int .i64 (m s.data.toList)) w := by
  obtain ⟨D, ho, hm⟩ := h
  obtain ⟨c, hrun, hat, _⟩ := ho.lookup_int law9 underlying90 underlying3 (zero3 w) (key9 hs)
  rw [hm] at hat
  simp at hat
  rw [hat]; exact hrun

/-- What one gives, and leaves. -/
def OneIs (B n : Nat) (m : List UInt8 → Nat) (s : ByteArray) (w : World) (e : Ending) (w' : World) : Prop :=
  ∃ r : Nat, e = .returned (.int .i64 r) ∧ (r = 0 ∨ r = 1) ∧ (r = 0 ↔ NameOk s ∧ m s.data.toList = 0) ∧ SMap w' B (n + 1) (fun l => if l = s.data.toList then m l + 1 else m l) ∧ w.grownBy w' (some B)

end Go.Proofs.Ytnodofbpogcheaa.Chk

/-
  Names that stand once, by the document: plnref3.names.
-/
namespace Go.Proofs.Ytnodofbpogcheaa.Chk
open Go.RowKit View Rd Num Opn Copy Go.Proofs.Ytnodofbpogcheaa.Mod

set_option linter.unusedVariables false

abbrev bytesOf (s : ByteArray) : List UInt8 := s.data.toList

/-- Names that may be, none twice. -/
def Good (L : List ByteArray) : Prop := (∀ s ∈ L, NameOk s) ∧ (L.map bytesOf).Nodup

structure Nm (w : World) (B : Nat) (L : List ByteArray) (t : Nat) : Prop where
  map : SMap w B L.length (fun l => (L.map bytesOf).count l)
  le : t ≤ L.length
  good : t = 0 ↔ Good L

theorem good_snoc {L : List ByteArray} {s : ByteArray} : Good (L ++ [s]) ↔ Good L ∧ NameOk s ∧ (L.map bytesOf).count (bytesOf s) = 0 := by
  unfold Good
  rw [List.map_append, List.count_eq_zero]
  simp only [List.map_cons, List.map_nil, List.mem_append, List.mem_singleton]
  constructor
  · rintro ⟨h1, h2⟩
    rw [List.nodup_append] at h2
    refine ⟨⟨fun x hx => h1 x (.inl hx), h2.1⟩, h1 s (.inr rfl), fun hm => ?_⟩
    exact h2.2.2 _ hm _ (by simp) rfl
  · rintro ⟨⟨h1, h2⟩, h3, h4⟩
    refine ⟨fun x hx => ?_, ?_⟩
    · rcases hx with hx | rfl
      · exact h1 x hx
      · exact h3
    · rw [List.nodup_append]
      refine ⟨h2, by simp, fun a ha b hb e => ?_⟩
      simp at hb
      subst hb
      subst e
      exact h4 ha

theorem Nm.step {w w' : World} {B t : Nat} {L : List ByteArray} {s : ByteArray} (h : Nm w B L t) {r : Nat} (hr : r = 0 ∨ r = 1) (hz : r = 0 ↔ NameOk s ∧ (L.map bytesOf).count (bytesOf s) = 0) (hm : SMap w' B (L.length + 1) (fun l => if l = bytesOf s then (L.map bytesOf).count l + 1 else (L.map bytesOf).count l)) : Nm w' B (L ++ [s]) (t + r) := by
  refine ⟨?_, by simp; have := h.le; omega, ?_⟩
  · rw [List.length_append, List.length_singleton]
    refine hm.congr fun l => ?_
    rw [List.map_append, List.count_append]
    by_cases e : l = bytesOf s
    · rw [if_pos e, e]; simp
    · rw [if_neg e]
      have : List.count l (List.map bytesOf [s]) = 0 := by
        rw [List.count_eq_zero]; simp; exact e
      rw [this]; rfl
  · rw [good_snoc, ← hz, ← h.good]
    omega

def namesE (M : MV) (k : Nat) : List ByteArray := (List.range k).map (fun i => (M.E i).name)
def namesG (M : MV) (k : Nat) : List ByteArray := namesE M M.ext.n ++ (List.range k).map (fun i => (M.G i).name)
def namesT (M : MV) (k : Nat) : List ByteArray := namesG M M.glo.n ++ (List.range k).map (fun i => (M.T i).name)
def namesF (M : MV) (k : Nat) : List ByteArray := namesT M M.tab.n ++ (List.range k).map (fun i => (M.F i).name)

theorem namesE_next (M : MV) (k : Nat) : namesE M (k + 1) = namesE M k ++ [(M.E k).name] := by unfold namesE; rw [List.range_succ, List.map_append]; rfl
theorem namesG_next (M : MV) (k : Nat) : namesG M (k + 1) = namesG M k ++ [(M.G k).name] := by unfold namesG; rw [List.range_succ, List.map_append, ← List.append_assoc]; rfl
theorem namesT_next (M : MV) (k : Nat) : namesT M (k + 1) = namesT M k ++ [(M.T k).name] := by unfold namesT; rw [List.range_succ, List.map_append, ← List.append_assoc]; rfl
theorem namesF_next (M : MV) (k : Nat) : namesF M (k + 1) = namesF M k ++ [(M.F k).name] := by unfold namesF; rw [List.range_succ, List.map_append, ← List.append_assoc]; rfl
theorem lenE (M : MV) (k : Nat) : (namesE M k).length = k := by simp [namesE]
theorem lenG (M : MV) (k : Nat) : (namesG M k).length = M.ext.n + k := by simp [namesG, lenE]
theorem lenT (M : MV) (k : Nat) : (namesT M k).length = M.ext.n + M.glo.n + k := by simp [namesT, lenG]
theorem lenF (M : MV) (k : Nat) : (namesF M k).length = M.ext.n + M.glo.n + M.tab.n + k := by simp [namesF, lenT]

/-- All names of a module. -/
def NameM (M : MV) : Prop := Good (namesF M M.fns.n)

end Go.Proofs.Ytnodofbpogcheaa.Chk

/-
  Which modules may be, by the document: plnref3.Check; plnkeep.Fit.
-/
namespace Go.Proofs.Ytnodofbpogcheaa.Chk
open Go.RowKit View Rd Num Opn Copy Ty Srt Go.Proofs.Ytnodofbpogcheaa.Mod Go.Proofs.Ytnodofbpogcheaa.Flo

set_option linter.unusedVariables false

/-- A module that may be. -/
structure FitM (M : MV) : Prop where
  lim : LimM M
  form : FormM M
  name : NameM M
  sym : SymM M
  flow : ∀ i, i < M.fns.n → FlowF (M.F i)
  use : ∀ i, i < M.fns.n → UseF (M.F i)
  type : ∀ i, i < M.fns.n → TypeF M (M.F i)

theorem argsF_of {F : FV} (h : UseF F) : ArgsF F := fun j hj k hk i hi => by
  obtain ⟨h1, h2, _⟩ := h.2 j hj k hk i hi
  rw [typesL_length]
  unfold allV at h2
  omega

def FlowA (M : MV) : Prop := ∀ i, i < M.fns.n → FlowF (M.F i)

def UseA (M : MV) : Prop := ∀ i, i < M.fns.n → UseF (M.F i)

def TypeA (M : MV) : Prop := ∀ i, i < M.fns.n → TypeF M (M.F i)

open Classical in
/-- The first error that holds. -/
noncomputable def errM (M : MV) : Int :=
  if ¬ LimM M then 2 else if ¬ FormM M then 1 else if ¬ NameM M then 3 else if ¬ SymM M then 4 else if ¬ FlowA M then 5 else if ¬ UseA M then 6 else if ¬ TypeA M then 7 else 0

theorem err_lim {M : MV} (h : ¬ LimM M) : errM M = 2 := by simp [errM, h]
theorem err_form {M : MV} (h1 : LimM M) (h : ¬ FormM M) : errM M = 1 := by simp [errM, h1, h]
theorem err_name {M : MV} (h1 : LimM M) (h2 : FormM M) (h : ¬ NameM M) : errM M = 3 := by simp [errM, h1, h2, h]
theorem err_sym {M : MV} (h1 : LimM M) (h2 : FormM M) (h3 : NameM M) (h : ¬ SymM M) : errM M = 4 := by simp [errM, h1, h2, h3, h]
theorem err_flow {M : MV} (h1 : LimM M) (h2 : FormM M) (h3 : NameM M) (h4 : SymM M) (h : ¬ FlowA M) : errM M = 5 := by simp [errM, h1, h2, h3, h4, h]
theorem err_use {M : MV} (h1 : LimM M) (h2 : FormM M) (h3 : NameM M) (h4 : SymM M) (h5 : FlowA M) (h : ¬ UseA M) : errM M = 6 := by simp [errM, h1, h2, h3, h4, h5, h]
theorem err_type {M : MV} (h1 : LimM M) (h2 : FormM M) (h3 : NameM M) (h4 : SymM M) (h5 : FlowA M) (h6 : UseA M) (h : ¬ TypeA M) : errM M = 7 := by simp [errM, h1, h2, h3, h4, h5, h6, h]
theorem err_ok {M : MV} (h : FitM M) : errM M = 0 := by
  have h1 := h.lim; have h2 := h.form; have h3 := h.name; have h4 := h.sym
  have h5 : FlowA M := h.flow; have h6 : UseA M := h.use; have h7 : TypeA M := h.type
  simp [errM, h1, h2, h3, h4, h5, h6, h7]

/-- An answer: that number. -/
def ErrX (x : Int) (w : World) (e : Ending) (w' : World) : Prop := ∃ r : Int, e = .returned (.int .i64 r) ∧ r = x ∧ Below w.heap.size w w'

/-- An answer: 0 where p holds. -/
def Err (p : Prop) (w : World) (e : Ending) (w' : World) : Prop := ∃ r : Int, e = .returned (.int .i64 r) ∧ (r = 0 ↔ p) ∧ Below w.heap.size w w'

end Go.Proofs.Ytnodofbpogcheaa.Chk

/-
  The example of chapters 4 and 5: the function, as it lies in memory.
-/
namespace Go.Proofs.Ytnodofbpogcheaa.Flo
open Go.RowKit View Rd Copy Num Ty Srt

set_option linter.unusedVariables false

abbrev xi (N j : Nat) : IV :=
  if j = 0 then ⟨28, 0, 0, 0, 0, ⟨some ⟨N, 0, none⟩, 1, 1⟩, ⟨some ⟨N + 1, 0, none⟩, 2, 2⟩⟩
  else if j = 1 then ⟨27, 0, 0, 0, 0, ⟨none, 0, 0⟩, ⟨some ⟨N + 1 + 1 + 1, 0, none⟩, 1, 1⟩⟩
  else if j = 2 then ⟨27, 0, 0, 0, 0, ⟨none, 0, 0⟩, ⟨some ⟨N + 1 + 1 + 1 + 1 + 1, 0, none⟩, 1, 1⟩⟩
  else ⟨29, 0, 0, 0, 0, ⟨none, 0, 0⟩, ⟨none, 0, 0⟩⟩

abbrev xb (N j : Nat) : Sl :=
  if j = 0 then ⟨some ⟨N + 1 + 1, 0, none⟩, 1, 1⟩
  else if j = 1 then ⟨some ⟨N + 1 + 1 + 1 + 1, 0, none⟩, 1, 1⟩
  else if j = 2 then ⟨some ⟨N + 1 + 1 + 1 + 1 + 1 + 1, 0, none⟩, 1, 1⟩
  else ⟨some ⟨N + 1 + 1 + 1 + 1 + 1 + 1 + 1, 0, none⟩, 1, 1⟩

abbrev ex4 (N : Nat) : FV where
  name := ⟨#[]⟩
  out := false
  par := ⟨none, 0, 0⟩
  res := 0
  blk := ⟨some ⟨N + 1 + 1 + 1 + 1 + 1 + 1 + 1 + 1, 0, none⟩, 4, 4⟩
  P := fun _ => 0
  B := fun j => xb N j
  I := fun j _ => xi N j
  A := fun _ _ _ => 1
  J := fun j _ i => if j = 0 then (i : Int) + 1 else 3

theorem lit1 (w : World) (x : Int) (f : Nat → Int) (hf : f 0 = x) (N : Nat) (hN : w.heap.size = N) : Ints (w.alloc (.cells #[.int .i64 x] 3)) ⟨some ⟨N, 0, none⟩, 1, 1⟩ f := by
  subst hN
  refine ⟨Nat.le_refl _, by show 1 ≤ _; omega, fun h => by simp at h, fun _ => ⟨w.heap.size, 0, rfl, fun i hi => ?_⟩⟩
  obtain rfl : i = 0 := by simp at hi; omega
  simp [hf]

theorem lit2 (w : World) (x y : Int) (f : Nat → Int) (hx : f 0 = x) (hy : f 1 = y) (N : Nat) (hN : w.heap.size = N) : Ints (w.alloc (.cells #[.int .i64 x, .int .i64 y] 3)) ⟨some ⟨N, 0, none⟩, 2, 2⟩ f := by
  subst hN
  refine ⟨Nat.le_refl _, by show 2 ≤ _; omega, fun h => by simp at h, fun _ => ⟨w.heap.size, 0, rfl, fun i hi => ?_⟩⟩
  have : i = 0 ∨ i = 1 := by simp at hi; omega
  rcases this with rfl | rfl <;> simp [hx, hy]

theorem litN (w : World) (f : Nat → Int) : Ints w ⟨none, 0, 0⟩ f := ⟨Nat.le_refl _, Nat.zero_le _, fun _ => rfl, fun h => absurd h (by simp)⟩

abbrev w4 (w : World) : World :=
  ((((((((w.alloc (.cells #[.int .i64 1] 3)).alloc (.cells #[.int .i64 1, .int .i64 2] 3)).alloc (.cells (xi w.heap.size 0).cells 39)).alloc (.cells #[.int .i64 3] 3)).alloc (.cells (xi w.heap.size 1).cells 39)).alloc (.cells #[.int .i64 3] 3)).alloc (.cells (xi w.heap.size 2).cells 39)).alloc (.cells (xi w.heap.size 3).cells 39)).alloc
    (.cells #[.slice (xb w.heap.size 0).a (xb w.heap.size 0).n (xb w.heap.size 0).c, .slice (xb w.heap.size 1).a (xb w.heap.size 1).n (xb w.heap.size 1).c, .slice (xb w.heap.size 2).a (xb w.heap.size 2).n (xb w.heap.size 2).c, .slice (xb w.heap.size 3).a (xb w.heap.size 3).n (xb w.heap.size 3).c] 37)

end Go.Proofs.Ytnodofbpogcheaa.Flo

/-
  wf: the modules of chapter 6's examples, plainly: the empty one, one function of one block of one Ins.
-/
namespace Go.Proofs.Ytnodofbpogcheaa.Wf
open Go.RowKit View Rd Num Opn Copy Srt Go.Proofs.Ytnodofbpogcheaa.Mod Go.Proofs.Ytnodofbpogcheaa.Chk Go.Proofs.Ytnodofbpogcheaa.Flo

set_option linter.unusedVariables false

/-- A function f of one block of one Ins. -/
abbrev oneF (b r : Nat) (v : IV) (J : Nat → Int) : FV where
  name := ⟨#[102]⟩
  out := false
  par := ⟨none, 0, 0⟩
  res := 0
  blk := ⟨some ⟨b, 0, none⟩, 1, 1⟩
  P := fun _ => 0
  B := fun _ => ⟨some ⟨r, 0, none⟩, 1, 1⟩
  I := fun _ _ => v
  A := fun _ _ _ => 0
  J := fun _ _ => J

abbrev oneM (m : Nat) (F : FV) : MV where
  ext := ⟨none, 0, 0⟩
  glo := ⟨none, 0, 0⟩
  tab := ⟨none, 0, 0⟩
  fns := ⟨some ⟨m, 0, none⟩, 1, 1⟩
  E := fun _ => default
  EP := fun _ _ => 0
  G := fun _ => default
  GC := fun _ _ => 0
  T := fun _ => default
  TF := fun _ _ => 0
  F := fun _ => F

abbrev noM : MV where
  ext := ⟨none, 0, 0⟩
  glo := ⟨none, 0, 0⟩
  tab := ⟨none, 0, 0⟩
  fns := ⟨none, 0, 0⟩
  E := fun _ => default
  EP := fun _ _ => 0
  G := fun _ => default
  GC := fun _ _ => 0
  T := fun _ => default
  TF := fun _ _ => 0
  F := fun _ => default

abbrev retI : IV := ⟨29, 0, 0, 0, 0, ⟨none, 0, 0⟩, ⟨none, 0, 0⟩⟩
abbrev jumpI (a : Nat) : IV := ⟨27, 0, 0, 0, 0, ⟨none, 0, 0⟩, ⟨some ⟨a, 0, none⟩, 1, 1⟩⟩

theorem light_one (b r : Nat) (v : IV) (J : Nat → Int) (h1 : v.args.n ≤ 20) (h2 : v.into.n ≤ 20) : Light (oneF b r v J) :=
  ⟨show 0 + 1 ≤ 400 by decide, show (1 : Nat) ≤ 40 by decide, show 0 ≤ 8 by decide, show 1 ≤ 48 by decide, fun j hj => show 1 ≤ 400 by decide, fun j hj k hk => h1, fun j hj k hk => h2⟩

theorem small_one (m b r : Nat) (v : IV) (J : Nat → Int) (h1 : v.args.n ≤ 20) (h2 : v.into.n ≤ 20) : SmallM (oneM m (oneF b r v J)) :=
  ⟨show 0 ≤ 14 by decide, show 0 ≤ 14 by decide, show 0 ≤ 8 by decide, show 1 ≤ 26 by decide, fun i hi => absurd (show i < 0 from hi) (by omega), fun i hi => absurd (show i < 0 from hi) (by omega), fun i hi => absurd (show i < 0 from hi) (by omega), fun k hk => light_one b r v J h1 h2, show 0 + (0 + 1) ≤ 400 by decide⟩

theorem small_no : SmallM noM :=
  ⟨show 0 ≤ 14 by decide, show 0 ≤ 14 by decide, show 0 ≤ 8 by decide, show 0 ≤ 26 by decide, fun i hi => absurd (show i < 0 from hi) (by omega), fun i hi => absurd (show i < 0 from hi) (by omega), fun i hi => absurd (show i < 0 from hi) (by omega), fun i hi => absurd (show i < 0 from hi) (by omega), show 0 ≤ 400 by decide⟩

theorem fit_no : FitM noM where
  lim := ⟨show 0 ≤ 24 by decide, show 0 ≤ 12 by decide, show 0 ≤ 12 by decide, show 0 ≤ 6 by decide, fun i hi => absurd (show i < 0 from hi) (by omega), fun i hi => absurd (show i < 0 from hi) (by omega), fun i hi => absurd (show i < 0 from hi) (by omega), fun i hi => absurd (show i < 0 from hi) (by omega)⟩
  form := ⟨fun i hi => absurd (show i < 0 from hi) (by omega), fun i hi => absurd (show i < 0 from hi) (by omega)⟩
  name := by
    have e : namesF noM noM.fns.n = [] := rfl
    unfold NameM Chk.Good
    rw [e]
    exact ⟨fun s h => by simp at h, by simp⟩
  sym := ⟨fun i hi => absurd (show i < 0 from hi) (by omega), fun i hi => absurd (show i < 0 from hi) (by omega)⟩
  flow := fun i hi => absurd (show i < 0 from hi) (by omega)
  use := fun i hi => absurd (show i < 0 from hi) (by omega)
  type := fun i hi => absurd (show i < 0 from hi) (by omega)

theorem lim_one (m b r : Nat) (v : IV) (J : Nat → Int) : LimM (oneM m (oneF b r v J)) :=
  ⟨show 1 ≤ 24 by decide, show 0 ≤ 12 by decide, show 0 ≤ 12 by decide, show 0 ≤ 6 by decide, fun i hi => absurd (show i < 0 from hi) (by omega), fun i hi => absurd (show i < 0 from hi) (by omega), fun i hi => absurd (show i < 0 from hi) (by omega), fun i hi => ⟨show 0 ≤ 5 by decide, show 1 ≤ 1 by decide, show 1 ≤ 40 by decide, show 0 + 1 ≤ 300 by decide⟩⟩

theorem form_one (m b r : Nat) (v : IV) (J : Nat → Int) (h : formB v = true) : FormM (oneM m (oneF b r v J)) :=
  ⟨fun i hi => absurd (show i < 0 from hi) (by omega), fun i hi => ⟨⟨show (0 : Int) ≤ 0 by decide, show (0 : Int) ≤ 4 by decide, show (0 : Int) ≠ 3 by decide, fun h => by cases h⟩, fun k hk => absurd (show k < 0 from hk) (by omega), fun j hj k hk => h⟩⟩

theorem name_f : NameOk ⟨#[102]⟩ := by
  refine ⟨by decide, by decide, by decide +kernel, by decide +kernel, fun i hi => ?_⟩
  have hi' : i < 1 := hi
  obtain rfl : i = 0 := by omega
  decide +kernel

theorem name_one (m b r : Nat) (v : IV) (J : Nat → Int) : NameM (oneM m (oneF b r v J)) := by
  have e : namesF (oneM m (oneF b r v J)) (oneM m (oneF b r v J)).fns.n = [⟨#[102]⟩] := rfl
  unfold NameM Chk.Good
  rw [e]
  refine ⟨fun s h => ?_, by simp⟩
  rw [List.mem_singleton.1 h]
  exact name_f

theorem sym_one (m b r : Nat) (v : IV) (J : Nat → Int) (h0 : v.sym = 0) (h : v.op = 27 ∨ v.op = 29) : SymM (oneM m (oneF b r v J)) :=
  ⟨fun i hi => absurd (show i < 0 from hi) (by omega), fun i hi j hj k hk => by
    show SymI _ v
    unfold SymI symN
    rcases h with h | h <;> rw [h, h0] <;> simp⟩

theorem fit_ret (m b r : Nat) (J : Nat → Int) : FitM (oneM m (oneF b r retI J)) where
  lim := lim_one _ _ _ _ _
  form := form_one _ _ _ _ _ (by decide)
  name := name_one _ _ _ _ _
  sym := sym_one _ _ _ _ _ rfl (.inr rfl)
  flow := fun i hi => by
    refine ⟨fun a ha => ⟨show 1 ≤ 1 by decide, fun k hk => ⟨?_, ?_⟩, fun i hi => absurd (show i < 0 from hi) (by omega), fun h => absurd (show (29 : Int) = 28 from h) (by decide)⟩, fun a ha => ⟨?_, fun k hk h => absurd (show (29 : Int) = 26 from h) (by decide)⟩⟩
    · have hk' : k < 1 := hk
      obtain rfl : k = 0 := by omega
      show endB 29 = decide (0 = 1 - 1)
      simp [endB]
    · rintro ⟨_, h, _⟩
      exact absurd (show (29 : Int) = 26 from h) (by decide)
    · have ha' : a < 1 := ha
      obtain rfl : a = 0 := by omega
      exact .refl 0
  use := fun i hi => ⟨fun a ha k hk h => absurd (show (0 : Int) = 0 from rfl) h, fun a ha k hk i hi => absurd (show i < 0 from hi) (by omega)⟩
  type := fun i hi j hj k hk => by
    show FitI _ _ retI 0 _
    simp [FitI]

theorem err_jump (m b r a : Nat) : errM (oneM m (oneF b r (jumpI a) (fun _ => 0))) = 5 := by
  refine err_flow (lim_one _ _ _ _ _) (form_one _ _ _ _ _ (by simp [formB, mk, swB, endB])) (name_one _ _ _ _ _) (sym_one _ _ _ _ _ rfl (.inl rfl)) (fun h => ?_)
  have h1 := ((h 0 (show 0 < 1 by decide)).1 0 (show 0 < 1 by decide)).2.2.1 0 (show 0 < 1 by decide)
  exact absurd (show (1 : Int) ≤ 0 from h1.1) (by decide)

theorem jng_one {m b r : Nat} {v : IV} : ∀ i, i < (oneM m (oneF b r v (fun _ => 0))).fns.n → Jng ((oneM m (oneF b r v (fun _ => 0))).F i) :=
  fun i hi j hj k hk t ht => by show W64 0; constructor <;> decide

theorem in_one {w : World} {b r : Nat} {v : IV} {J : Nat → Int} (hb : Sls w ⟨some ⟨b, 0, none⟩, 1, 1⟩ (fun _ => ⟨some ⟨r, 0, none⟩, 1, 1⟩)) (hr : Inss w ⟨some ⟨r, 0, none⟩, 1, 1⟩ (fun _ => v)) (ha : Ints w v.args (fun _ => 0)) (hj : Ints w v.into J) : In w (oneF b r v J) :=
  ⟨litN _ _, hb, fun j hj => hr, fun j hj' k hk => ha, fun j hj' k hk => hj⟩

theorem row_no {α : Type} {z : Nat} {p : World → Nat → Nat → α → Prop} {w : World} {f : Nat → α} : Row z p w ⟨none, 0, 0⟩ f := ⟨Nat.le_refl _, Nat.zero_le _, fun _ => rfl, fun h => absurd h (by simp)⟩

theorem inM_one {w : World} {m : Nat} {F : FV} (hr : Row 5 FAt w ⟨some ⟨m, 0, none⟩, 1, 1⟩ (fun _ => F)) (hF : In w F) : InM w (oneM m F) :=
  ⟨row_no, fun i hi => absurd (show i < 0 from hi) (by omega), row_no, fun i hi => absurd (show i < 0 from hi) (by omega), row_no, fun i hi => absurd (show i < 0 from hi) (by omega), hr, fun k hk => hF⟩

theorem inM_no {w : World} : InM w noM :=
  ⟨row_no, fun i hi => absurd (show i < 0 from hi) (by omega), row_no, fun i hi => absurd (show i < 0 from hi) (by omega), row_no, fun i hi => absurd (show i < 0 from hi) (by omega), row_no, fun i hi => absurd (show i < 0 from hi) (by omega)⟩

theorem lit_ins (w : World) (v : IV) (N : Nat) (hN : w.heap.size = N) : Inss (w.alloc (.cells v.cells 39)) ⟨some ⟨N, 0, none⟩, 1, 1⟩ (fun _ => v) := by
  subst hN
  refine ⟨Nat.le_refl _, by show 1 ≤ _; omega, fun h => by simp at h, fun _ => ⟨w.heap.size, 0, rfl, fun i hi => ?_⟩⟩
  obtain rfl : i = 0 := by simp at hi; omega
  exact InsAt.alloc w v

theorem lit_blk (w : World) (s : Sl) (N : Nat) (hN : w.heap.size = N) : Sls (w.alloc (.cells #[.slice s.a s.n s.c] 37)) ⟨some ⟨N, 0, none⟩, 1, 1⟩ (fun _ => s) := by
  subst hN
  refine ⟨Nat.le_refl _, by show 1 ≤ _; omega, fun h => by simp at h, fun _ => ⟨w.heap.size, 0, rfl, fun i hi => ?_⟩⟩
  obtain rfl : i = 0 := by simp at hi; omega
  simp

theorem lit_fn (w : World) (F : FV) (N : Nat) (hN : w.heap.size = N) : Row 5 FAt (w.alloc (.cells (fcells F) 33)) ⟨some ⟨N, 0, none⟩, 1, 1⟩ (fun _ => F) := by
  subst hN
  refine ⟨Nat.le_refl _, by show 1 ≤ _; omega, fun h => by simp at h, fun _ => ⟨w.heap.size, 0, rfl, fun i hi => ?_⟩⟩
  obtain rfl : i = 0 := by simp at hi; omega
  exact ⟨by simp, by simp, by simp, by simp, by simp⟩

end Go.Proofs.Ytnodofbpogcheaa.Wf

/-
  wf: modules at their limits, plainly: functions of one ret, globals, a chain of blocks, a row of numbers.
-/
namespace Go.Proofs.Ytnodofbpogcheaa.Wf
open Go.RowKit View Rd Num Opn Copy Srt Go.Proofs.Ytnodofbpogcheaa.Mod Go.Proofs.Ytnodofbpogcheaa.Chk Go.Proofs.Ytnodofbpogcheaa.Flo

set_option linter.unusedVariables false

abbrev no0 : Sl := ⟨none, 0, 0⟩

/-- A module of functions alone. -/
abbrev funM (s : Sl) (F : Nat → FV) : MV where
  ext := no0
  glo := no0
  tab := no0
  fns := s
  E := fun _ => default
  EP := fun _ _ => 0
  G := fun _ => default
  GC := fun _ _ => 0
  T := fun _ => default
  TF := fun _ _ => 0
  F := F

/-- A module of globals alone. -/
abbrev gloM (s : Sl) (G : Nat → GV) (C : Nat → Nat → Int) : MV where
  ext := no0
  glo := s
  tab := no0
  fns := no0
  E := fun _ => default
  EP := fun _ _ => 0
  G := G
  GC := C
  T := fun _ => default
  TF := fun _ _ => 0
  F := fun _ => default

/-- A function of blocks, without values to take. -/
abbrev blkF (nm : ByteArray) (p : Sl) (b : Sl) (B : Nat → Sl) (I : Nat → Nat → IV) (J : Nat → Nat → Nat → Int) : FV where
  name := nm
  out := false
  par := p
  res := 0
  blk := b
  P := fun _ => 1
  B := B
  I := I
  A := fun _ _ _ => 0
  J := J

/-- What holds of a function that may be, beside its name. -/
structure FnOk (F : FV) : Prop where
  form : FormF F
  sym : ∀ j, j < F.blk.n → ∀ k, k < (F.B j).n → ∀ M, SymI M (F.I j k)
  flow : FlowF F
  use : UseF F
  type : ∀ M, TypeF M F

theorem fit_fun (s : Sl) (F : Nat → FV) (hn : s.n ≤ 24) (hl : ∀ i, i < s.n → LimF (F i)) (hf : ∀ i, i < s.n → FnOk (F i)) (hg : Chk.Good ((List.range s.n).map fun i => (F i).name)) : FitM (funM s F) where
  lim := ⟨hn, Nat.zero_le _, Nat.zero_le _, Nat.zero_le _, fun i hi => absurd (show i < 0 from hi) (by omega), fun i hi => absurd (show i < 0 from hi) (by omega), fun i hi => absurd (show i < 0 from hi) (by omega), hl⟩
  form := ⟨fun i hi => absurd (show i < 0 from hi) (by omega), fun i hi => (hf i hi).form⟩
  name := by
    have e : namesF (funM s F) (funM s F).fns.n = (List.range s.n).map fun i => (F i).name := rfl
    unfold NameM
    rw [e]
    exact hg
  sym := ⟨fun i hi => absurd (show i < 0 from hi) (by omega), fun i hi j hj k hk => (hf i hi).sym j hj k hk _⟩
  flow := fun i hi => (hf i hi).flow
  use := fun i hi => (hf i hi).use
  type := fun i hi => (hf i hi).type _

theorem small_fun (s : Sl) (F : Nat → FV) (hn : s.n ≤ 26) (hl : ∀ i, i < s.n → Light (F i)) (ha : cnt (fun k => fsize (F k)) s.n ≤ 400) : SmallM (funM s F) :=
  ⟨Nat.zero_le _, Nat.zero_le _, Nat.zero_le _, hn, fun i hi => absurd (show i < 0 from hi) (by omega), fun i hi => absurd (show i < 0 from hi) (by omega), fun i hi => absurd (show i < 0 from hi) (by omega), hl, ha⟩

theorem inM_fun {w : World} {s : Sl} {F : Nat → FV} (hr : Row 5 FAt w s F) (hF : ∀ i, i < s.n → In w (F i)) : InM w (funM s F) :=
  ⟨row_no, fun i hi => absurd (show i < 0 from hi) (by omega), row_no, fun i hi => absurd (show i < 0 from hi) (by omega), row_no, fun i hi => absurd (show i < 0 from hi) (by omega), hr, hF⟩

theorem fit_glo (s : Sl) (G : Nat → GV) (C : Nat → Nat → Int) (hn : s.n ≤ 12) (hl : ∀ i, i < s.n → 1 ≤ (G i).cel.n ∧ (G i).cel.n ≤ 16) (hg : Chk.Good ((List.range s.n).map fun i => (G i).name)) : FitM (gloM s G C) where
  lim := ⟨Nat.zero_le _, Nat.zero_le _, hn, Nat.zero_le _, fun i hi => absurd (show i < 0 from hi) (by omega), hl, fun i hi => absurd (show i < 0 from hi) (by omega), fun i hi => absurd (show i < 0 from hi) (by omega)⟩
  form := ⟨fun i hi => absurd (show i < 0 from hi) (by omega), fun i hi => absurd (show i < 0 from hi) (by omega)⟩
  name := by
    have e : namesF (gloM s G C) (gloM s G C).fns.n = (List.range s.n).map fun i => (G i).name := by
      show ((((List.range 0).map _ ++ (List.range s.n).map fun i => (G i).name) ++ (List.range 0).map _) ++ (List.range 0).map _) = _
      simp
    unfold NameM
    rw [e]
    exact hg
  sym := ⟨fun i hi => absurd (show i < 0 from hi) (by omega), fun i hi => absurd (show i < 0 from hi) (by omega)⟩
  flow := fun i hi => absurd (show i < 0 from hi) (by omega)
  use := fun i hi => absurd (show i < 0 from hi) (by omega)
  type := fun i hi => absurd (show i < 0 from hi) (by omega)

theorem small_glo (s : Sl) (G : Nat → GV) (C : Nat → Nat → Int) (hn : s.n ≤ 14) (hl : ∀ i, i < s.n → (G i).name.size ≤ 40 ∧ (G i).cel.n ≤ 20) : SmallM (gloM s G C) :=
  ⟨Nat.zero_le _, hn, Nat.zero_le _, Nat.zero_le _, fun i hi => absurd (show i < 0 from hi) (by omega), hl, fun i hi => absurd (show i < 0 from hi) (by omega), fun i hi => absurd (show i < 0 from hi) (by omega), by show cnt _ 0 ≤ 400; simp [cnt]⟩

theorem inM_glo {w : World} {s : Sl} {G : Nat → GV} {C : Nat → Nat → Int} (hr : Row 2 GAt w s G) (hC : ∀ i, i < s.n → Ints w (G i).cel (C i)) : InM w (gloM s G C) :=
  ⟨row_no, fun i hi => absurd (show i < 0 from hi) (by omega), hr, hC, row_no, fun i hi => absurd (show i < 0 from hi) (by omega), row_no, fun i hi => absurd (show i < 0 from hi) (by omega)⟩

/-- A number's name. -/
def nm (c : UInt8) (i : Nat) : ByteArray := ⟨(c :: Lib.itoa (i : Int)).toArray⟩

def nmD (c : UInt8) (i : Nat) : ByteArray := if i < 10 then ⟨#[c, UInt8.ofNat (48 + i)]⟩ else ⟨#[c, UInt8.ofNat (48 + i / 10), UInt8.ofNat (48 + i % 10)]⟩

theorem dec_two {u : Nat} (h : ¬ u < 10) : Lib.decDigits u = Lib.decDigits (u / 10) ++ [UInt8.ofNat (48 + u % 10)] := by
  rw [Lib.decDigits]; simp [h]

theorem nm_eq {c : UInt8} {i : Nat} (h : i < 100) : nm c i = nmD c i := by
  unfold nm nmD
  rw [Lib.itoa_nonneg]
  split
  · rw [Lib.decDigits_one (by omega)]
  · rw [dec_two (by omega), Lib.decDigits_one (by omega)]
    rfl

theorem nm_size {c : UInt8} {i : Nat} (h : i < 100) : (nm c i).size ≤ 3 := by
  rw [nm_eq h]
  unfold nmD
  split
  · show 2 ≤ 3; decide
  · show 3 ≤ 3; decide

theorem okD_f : ∀ i, i < 25 → (1 ≤ (nmD 102 i).size ∧ 97 ≤ Chk.byteAt (nmD 102 i) 0 ∧ Chk.byteAt (nmD 102 i) 0 ≤ 122 ∧ ∀ k, k < 3 → k < (nmD 102 i).size → chOk (Chk.byteAt (nmD 102 i) k) = true) := by decide +kernel
theorem okD_g : ∀ i, i < 25 → (1 ≤ (nmD 103 i).size ∧ 97 ≤ Chk.byteAt (nmD 103 i) 0 ∧ Chk.byteAt (nmD 103 i) 0 ≤ 122 ∧ ∀ k, k < 3 → k < (nmD 103 i).size → chOk (Chk.byteAt (nmD 103 i) k) = true) := by decide +kernel
theorem inD_f : ∀ i, i < 25 → ∀ j, j < 25 → bytesOf (nmD 102 i) = bytesOf (nmD 102 j) → i = j := by decide +kernel
theorem inD_g : ∀ i, i < 25 → ∀ j, j < 25 → bytesOf (nmD 103 i) = bytesOf (nmD 103 j) → i = j := by decide +kernel

theorem good_nm {c : UInt8} (h1 : ∀ i, i < 25 → (1 ≤ (nmD c i).size ∧ 97 ≤ Chk.byteAt (nmD c i) 0 ∧ Chk.byteAt (nmD c i) 0 ≤ 122 ∧ ∀ k, k < 3 → k < (nmD c i).size → chOk (Chk.byteAt (nmD c i) k) = true)) (h2 : ∀ i, i < 25 → ∀ j, j < 25 → bytesOf (nmD c i) = bytesOf (nmD c j) → i = j) :
    ∀ n, n ≤ 25 → Chk.Good ((List.range n).map (nm c)) := by
  intro n
  induction n with
  | zero => intro _; simp [Chk.Good]
  | succ n ih =>
    intro hn
    rw [List.range_succ, List.map_append]
    refine good_snoc.2 ⟨ih (by omega), ?_, ?_⟩
    · have hz := nm_size (c := c) (i := n) (by omega)
      rw [nm_eq (by omega)] at hz ⊢
      obtain ⟨a1, a2, a3, a4⟩ := h1 n (by omega)
      exact ⟨a1, by omega, a2, a3, fun k hk => a4 k (by omega) hk⟩
    · rw [List.count_eq_zero]
      intro hm
      obtain ⟨x, hx, hxe⟩ := List.mem_map.1 hm
      obtain ⟨j, hj, rfl⟩ := List.mem_map.1 hx
      have hj' := List.mem_range.1 hj
      rw [nm_eq (by omega), nm_eq (by omega)] at hxe
      have := h2 j (by omega) n (by omega) hxe
      omega

/-- A function of one ret. -/
theorem ret_ok (nm : ByteArray) (p : Sl) (b r : Nat) : FnOk (blkF nm p ⟨some ⟨b, 0, none⟩, 1, 1⟩ (fun _ => ⟨some ⟨r, 0, none⟩, 1, 1⟩) (fun _ _ => retI) (fun _ _ _ => 0)) where
  form := ⟨⟨show (0 : Int) ≤ 0 by decide, show (0 : Int) ≤ 4 by decide, show (0 : Int) ≠ 3 by decide, fun h => by cases h⟩, fun k hk => by show FormP _ k; unfold FormP; simp, fun j hj k hk => by show formB retI = true; decide⟩
  sym := fun j hj k hk M => by show SymI _ retI; unfold SymI symN; simp
  flow := by
    refine ⟨fun a ha => ⟨show 1 ≤ 1 by decide, fun k hk => ⟨?_, ?_⟩, fun i hi => absurd (show i < 0 from hi) (by omega), fun h => absurd (show (29 : Int) = 28 from h) (by decide)⟩, fun a ha => ⟨?_, fun k hk h => absurd (show (29 : Int) = 26 from h) (by decide)⟩⟩
    · have hk' : k < 1 := hk
      obtain rfl : k = 0 := by omega
      show endB 29 = decide (0 = 1 - 1)
      simp [endB]
    · rintro ⟨_, h, _⟩
      exact absurd (show (29 : Int) = 26 from h) (by decide)
    · have ha' : a < 1 := ha
      obtain rfl : a = 0 := by omega
      exact .refl 0
  use := ⟨fun a ha k hk h => absurd (show (0 : Int) = 0 from rfl) h, fun a ha k hk i hi => absurd (show i < 0 from hi) (by omega)⟩
  type := fun M j hj k hk => by
    show FitI _ _ retI 0 _
    simp [FitI]

theorem ret_lim (nm : ByteArray) (p : Sl) (b r : Nat) (hp : p.n ≤ 5) : LimF (blkF nm p ⟨some ⟨b, 0, none⟩, 1, 1⟩ (fun _ => ⟨some ⟨r, 0, none⟩, 1, 1⟩) (fun _ _ => retI) (fun _ _ _ => 0)) :=
  ⟨hp, show 1 ≤ 1 by decide, show 1 ≤ 40 by decide, show 0 + 1 ≤ 300 by decide⟩

theorem ret_light (nm : ByteArray) (p : Sl) (b r : Nat) (hn : nm.size ≤ 40) (hp : p.n ≤ 8) : Light (blkF nm p ⟨some ⟨b, 0, none⟩, 1, 1⟩ (fun _ => ⟨some ⟨r, 0, none⟩, 1, 1⟩) (fun _ _ => retI) (fun _ _ _ => 0)) :=
  ⟨show 0 + 1 ≤ 400 by decide, hn, hp, show 1 ≤ 48 by decide, fun j hj => show 1 ≤ 400 by decide, fun j hj k hk => Nat.zero_le _, fun j hj k hk => Nat.zero_le _⟩

theorem jng_ret (nm : ByteArray) (p : Sl) (b r : Nat) : Jng (blkF nm p ⟨some ⟨b, 0, none⟩, 1, 1⟩ (fun _ => ⟨some ⟨r, 0, none⟩, 1, 1⟩) (fun _ _ => retI) (fun _ _ _ => 0)) :=
  fun j hj k hk t ht => by show W64 0; constructor <;> decide

/-- A chain of blocks: each leads to the next one, the last one returns. -/
abbrev chI (n : Nat) (a : Nat → Nat) (j : Nat) : IV := if j + 1 < n then jumpI (a j) else retI

abbrev chF (s : Sl) (B : Nat → Sl) (n : Nat) (a : Nat → Nat) : FV := blkF ⟨#[102]⟩ no0 s B (fun j _ => chI n a j) (fun j _ _ => ((j + 1 : Nat) : Int))

theorem ch_ok (s : Sl) (B : Nat → Sl) (a : Nat → Nat) (n : Nat) (h0 : 1 ≤ n) (hs : s.n = n) (hB : ∀ j, j < n → (B j).n = 1) : FnOk (chF s B n a) where
  form := ⟨⟨show (0 : Int) ≤ 0 by decide, show (0 : Int) ≤ 4 by decide, show (0 : Int) ≠ 3 by decide, fun h => by cases h⟩, fun k hk => absurd (show k < 0 from hk) (by omega), fun j hj k hk => by
    show formB (chI n a j) = true
    unfold chI
    split <;> simp [formB, mk, swB, endB]⟩
  sym := fun j hj k hk M => by
    show SymI _ (chI n a j)
    unfold chI
    split <;> (unfold SymI symN; simp)
  flow := by
    have key : ∀ b, b < n → ∀ k, k < (B b).n → k = 0 := fun b hb k hk => by have := hB b hb; omega
    have op26 : ∀ j, (chI n a j).op ≠ 26 := fun j => by unfold chI; split <;> simp
    have op28 : ∀ j, (chI n a j).op ≠ 28 := fun j => by unfold chI; split <;> simp
    refine ⟨fun b hb => ⟨?_, fun k hk => ⟨?_, ?_⟩, fun i hi => ?_, fun h => absurd (show (chI n a b).op = 28 from h) (op28 b)⟩, fun b hb => ⟨?_, fun k hk h => absurd (show (chI n a b).op = 26 from h) (op26 b)⟩⟩
    · have hb' : b < n := by rw [← hs]; exact hb
      show 1 ≤ (B b).n
      rw [hB b hb']; exact Nat.le_refl _
    · have hb' : b < n := by rw [← hs]; exact hb
      obtain rfl := key b hb' k hk
      show endB (chI n a b).op = decide (0 = (B b).n - 1)
      rw [hB b hb']
      unfold chI
      split <;> simp [endB]
    · rintro ⟨_, h, _⟩
      exact absurd (show (chI n a b).op = 26 from h) (op26 b)
    · have hb' : b < n := by rw [← hs]; exact hb
      have hi' : i < (chI n a b).into.n := hi
      by_cases hl : b + 1 < n
      · show (1 : Int) ≤ ((b + 1 : Nat) : Int) ∧ ((b + 1 : Nat) : Int) < (s.n : Nat)
        rw [hs]
        omega
      · simp [chI, hl] at hi'
    · have hb' : b < n := by rw [← hs]; exact hb
      clear hb
      induction b with
      | zero => exact .refl 0
      | succ b ih =>
        refine .step (ih (by omega)) ?_
        unfold su
        have e1 : b < (chF s B n a).blk.n := by show b < s.n; omega
        rw [if_pos e1]
        show b + 1 ∈ nxt s.n (fun _ => ((b + 1 : Nat) : Int)) (led (B b) (fun _ => chI n a b)).n
        have e2 : (led (B b) (fun _ => chI n a b)).n = 1 := by
          have e3 : chI n a b = jumpI (a b) := if_pos (by omega)
          rw [e3]
          simp [led, hB b (by omega)]
        rw [e2]
        rw [nxt_yes (by omega) (by omega) (by simp [nxt])]
        simp [nxt]
  use := ⟨fun b hb k hk h => absurd (show (chI n a b).ty = 0 by unfold chI; split <;> rfl) h, fun b hb k hk i hi => by
    have : (chI n a b).args.n = 0 := by unfold chI; split <;> rfl
    have hi' : i < (chI n a b).args.n := hi
    omega⟩
  type := fun M j hj k hk => by
    show FitI _ _ (chI n a j) (chI n a j).args.n _
    unfold chI
    split <;> simp [FitI]

theorem ch_lim (s : Sl) (B : Nat → Sl) (a : Nat → Nat) (n : Nat) (h0 : 1 ≤ n) (h1 : n ≤ 40) (hs : s.n = n) (hB : ∀ j, j < n → (B j).n = 1) : LimF (chF s B n a) := by
  refine ⟨Nat.zero_le _, by show 1 ≤ s.n; omega, by show s.n ≤ 40; omega, ?_⟩
  show cnt (fun j => (B j).n) s.n ≤ 300
  have := cnt_le (n := fun j => (B j).n) (m := 1) (j := s.n) (fun i hi => by rw [hB i (by omega)]; exact Nat.le_refl _)
  omega

theorem ch_light (s : Sl) (B : Nat → Sl) (a : Nat → Nat) (n : Nat) (h1 : n ≤ 48) (hs : s.n = n) (hB : ∀ j, j < n → (B j).n = 1) : Light (chF s B n a) := by
  refine ⟨?_, show (1 : Nat) ≤ 40 by decide, Nat.zero_le _, by show s.n ≤ 48; omega, fun j hj => ?_, fun j hj k hk => ?_, fun j hj k hk => ?_⟩
  · show cnt (fun j => (B j).n) s.n ≤ 400
    have := cnt_le (n := fun j => (B j).n) (m := 1) (j := s.n) (fun i hi => by rw [hB i (by omega)]; exact Nat.le_refl _)
    omega
  · have hj' : j < s.n := hj
    show (B j).n ≤ 400
    rw [hB j (by omega)]; decide
  · show (chI n a j).args.n ≤ 20
    unfold chI; split <;> simp
  · show (chI n a j).into.n ≤ 20
    unfold chI; split <;> simp

theorem ch_jng (s : Sl) (B : Nat → Sl) (a : Nat → Nat) (n : Nat) (h1 : n ≤ 48) (hs : s.n = n) : Jng (chF s B n a) :=
  fun j hj k hk t ht => by
    have hj' : j < s.n := hj
    show W64 ((j + 1 : Nat) : Int)
    constructor <;> omega

/-- A row of numbers, and a ret. -/
abbrev nuI (n k : Nat) : IV := if k + 1 < n then ⟨1, 1, ((k + 1 : Nat) : Int), 0, (k : Int), no0, no0⟩ else retI

abbrev nuF (b : Nat) (r : Sl) (n : Nat) : FV := blkF ⟨#[102]⟩ no0 ⟨some ⟨b, 0, none⟩, 1, 1⟩ (fun _ => r) (fun _ k => nuI n k) (fun _ _ _ => 0)

theorem giv_nu (n : Nat) : ∀ k, k + 1 ≤ n → giv (nuI n) k = k := by
  intro k
  induction k with
  | zero => intro _; simp [giv]
  | succ k ih =>
    intro h
    have := ih (by omega)
    have e : nuI n k = ⟨1, 1, ((k + 1 : Nat) : Int), 0, (k : Int), no0, no0⟩ := if_pos (by omega)
    simp [giv, this, e]

theorem nu_ok (b : Nat) (r : Sl) (n : Nat) (h0 : 1 ≤ n) (hr : r.n = n) : FnOk (nuF b r n) where
  form := ⟨⟨show (0 : Int) ≤ 0 by decide, show (0 : Int) ≤ 4 by decide, show (0 : Int) ≠ 3 by decide, fun h => by cases h⟩, fun k hk => absurd (show k < 0 from hk) (by omega), fun j hj k hk => by
    show formB (nuI n k) = true
    unfold nuI
    split
    · simp [formB, mk, swB, endB]; omega
    · decide⟩
  sym := fun j hj k hk M => by
    show SymI _ (nuI n k)
    unfold nuI
    split <;> (unfold SymI symN; simp)
  flow := by
    have op26 : ∀ j, (nuI n j).op ≠ 26 := fun j => by unfold nuI; split <;> simp
    have op28 : ∀ j, (nuI n j).op ≠ 28 := fun j => by unfold nuI; split <;> simp
    refine ⟨fun b hb => ⟨by show 1 ≤ r.n; omega, fun k hk => ⟨?_, ?_⟩, fun i hi => ?_, fun h => absurd (show (nuI n (r.n - 1)).op = 28 from h) (op28 _)⟩, fun b hb => ⟨?_, fun k hk h => absurd (show (nuI n k).op = 26 from h) (op26 k)⟩⟩
    · have hk' : k < r.n := hk
      show endB (nuI n k).op = decide (k = r.n - 1)
      rw [hr]
      unfold nuI
      split
      · have : ¬ k = n - 1 := by omega
        simp [endB, this]
      · have : k = n - 1 := by omega
        simp [endB, this]
    · rintro ⟨_, h, _⟩
      exact absurd (show (nuI n k).op = 26 from h) (op26 k)
    · have hi' : i < (nuI n (r.n - 1)).into.n := hi
      have : (nuI n (r.n - 1)).into.n = 0 := by unfold nuI; split <;> rfl
      omega
    · have hb' : b < 1 := hb
      obtain rfl : b = 0 := by omega
      exact .refl 0
  use := ⟨fun b hb k hk h => by
    have hb' : b < 1 := hb
    obtain rfl : b = 0 := by omega
    have hk' : k < r.n := hk
    have hl : k + 1 < n := by
      by_cases hl : k + 1 < n
      · exact hl
      · exact absurd (show (nuI n k).ty = 0 by unfold nuI; rw [if_neg hl]) h
    show (nuI n k).to = ((idx (nuF _ r n) 0 k : Nat) : Int)
    have e : nuI n k = ⟨1, 1, ((k + 1 : Nat) : Int), 0, (k : Int), no0, no0⟩ := if_pos hl
    rw [e]
    show ((k + 1 : Nat) : Int) = ((lastOf (nuF _ r n) 0 + giv (nuI n) (k + 1) : Nat) : Int)
    rw [giv_nu n (k + 1) (by omega)]
    have : lastOf (nuF b r n) 0 = 0 := by first | rfl | simp [lastOf, cnt]
    rw [this, Nat.zero_add], fun b hb k hk i hi => by
    have : (nuI n k).args.n = 0 := by unfold nuI; split <;> rfl
    have hi' : i < (nuI n k).args.n := hi
    omega⟩
  type := fun M j hj k hk => by
    show FitI _ _ (nuI n k) (nuI n k).args.n _
    unfold nuI
    split <;> simp [FitI]

theorem nu_lim (b : Nat) (r : Sl) (n : Nat) (h1 : n ≤ 300) (hr : r.n = n) : LimF (nuF b r n) :=
  ⟨Nat.zero_le _, show 1 ≤ 1 by decide, show 1 ≤ 40 by decide, by show 0 + r.n ≤ 300; omega⟩

theorem nu_light (b : Nat) (r : Sl) (n : Nat) (h1 : n ≤ 400) (hr : r.n = n) : Light (nuF b r n) := by
  refine ⟨by show 0 + r.n ≤ 400; omega, show (1 : Nat) ≤ 40 by decide, Nat.zero_le _, show 1 ≤ 48 by decide, fun j hj => by show r.n ≤ 400; omega, fun j hj k hk => ?_, fun j hj k hk => ?_⟩
  · show (nuI n k).args.n ≤ 20
    unfold nuI; split <;> simp
  · show (nuI n k).into.n ≤ 20
    unfold nuI; split <;> simp

theorem nu_jng (b : Nat) (r : Sl) (n : Nat) : Jng (nuF b r n) := fun j hj k hk t ht => by show W64 0; constructor <;> decide

end Go.Proofs.Ytnodofbpogcheaa.Wf
