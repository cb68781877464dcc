/-
  Names that stand once, by the document: plnref3.one, names.
-/
import Derived.Test.YtclioagemjpnoaaChkN
import Derived.Maps.OwnSet
import Derived.Maps.OwnOps
namespace Go.Proofs.Ytclioagemjpnoaa.Chk
open Go.RowKit View Rd Num Opn Copy Go.Proofs.Ytclioagemjpnoaa.Mod
open Go.Maps (Keyed string_keyed)

set_option linter.unusedVariables false

theorem underlying9 : Try.prog.underlying 9 = some .string := by kernel_rfl
theorem underlying122 : Try.prog.underlying 122 = some (.map 9 3) := by kernel_rfl
theorem law9 : Keyed Try.prog 9 := string_keyed underlying9

/-- Block B is a map of at most n entries that counts: m. -/
def SMap (w : World) (B n : Nat) (m : List UInt8 → Nat) : Prop :=
  ∃ D : DataW Unit, w.ownsMap Try.prog 9 (plainElem Try.prog 3) B n D ∧ ∀ l, D.atKey (.string l) (.lit (.int .i64 0)) = .lit (.int .i64 (m l))

theorem SMap.at_block {w w' : World} {B n : Nat} {m : List UInt8 → Nat} (h : SMap w B n m) (e : w'.heap[B]? = w.heap[B]?) : SMap w' B n m := by
  obtain ⟨D, ⟨es, clock, hb, hr⟩, hv⟩ := h
  exact ⟨D, ⟨es, clock, by rw [e]; exact hb, hr⟩, hv⟩

theorem SMap.lt {w : World} {B n : Nat} {m : List UInt8 → Nat} (h : SMap w B n m) : B < w.heap.size := by
  obtain ⟨D, ⟨es, clock, hb, hr⟩, hv⟩ := h
  exact (Array.getElem?_eq_some_iff.1 hb).1

theorem SMap.on {w w' : World} {B n : Nat} {m : List UInt8 → Nat} (hb : Below w.heap.size w w') (h : SMap w B n m) : SMap w' B n m := h.at_block (hb.block B h.lt)

theorem SMap.congr {w : World} {B n : Nat} {m m' : List UInt8 → Nat} (h : SMap w B n m) (e : ∀ l, m l = m' l) : SMap w B n m' := by
  obtain ⟨D, ho, hv⟩ := h
  exact ⟨D, ho, fun l => by rw [← e l]; exact hv l⟩

theorem SMap.made (w : World) : SMap (w.alloc (.map #[] 0)) w.heap.size 0 (fun _ => 0) := ⟨.map [], World.ownsMap_made _ _ _ _, fun l => rfl⟩

theorem key9 {s : ByteArray} (hs : s.size ≤ 40) : keyOf Try.prog 9 (.string s) = some (.string s.data.toList) := WideMaps.keyOf_string_mk underlying9 (by unfold maxLen; omega)

theorem SMap.look {w : World} {B n : Nat} {m : List UInt8 → Nat} (h : SMap w B n m) {s : ByteArray} (hs : s.size ≤ 40) : (Instr.lookup 122 (.map (some B)) (.string s) false).run Try.prog w = .ok (.int .i64 (m s.data.toList)) w := by
  obtain ⟨D, ho, hm⟩ := h
  obtain ⟨c, hrun, hat, _⟩ := ho.lookup_int law9 underlying122 underlying3 (zero3 w) (key9 hs)
  rw [hm] at hat
  simp at hat
  rw [hat]; exact hrun

theorem wpList_count {ops : Array Oper} {rest : List Oper} {o : Oper} {a : Act} {Q : Exit → Act → World → Prop} {w : World} (hg : o.guard = none) (mo x y : Operand) (hop : o.op = Op.mapUpdate 122 mo x y)
    (B n : Nat) (m : List UInt8 → Nat) (hm : a.eval mo = .map (some B)) (h : SMap w B n m) (hn : n ≤ 1000000) (s : ByteArray) (u : Nat) (ui : Int) (hui : ui = u) (hx : a.eval x = .string s) (hy : a.eval y = .int .i64 ui) (hs : s.size ≤ 40) (hu : u ≤ 1000000)
    (hK : ∀ w', SMap w' B (n + 1) (fun l => if l = s.data.toList then u else m l) → w.grownBy w' (some B) → wpList Try.prog ops Q rest (a.put o.dst undef) w') :
    wpList Try.prog ops Q (o :: rest) a w := by
  subst hui
  obtain ⟨D, ho, hD⟩ := h
  refine wpList_mapUpdate_own w hg mo x y 122 hop 9 3 law9 underlying122 _ B n D hm ho (by unfold maxLen; omega) _ _ _ hx hy (key9 hs) _ [] (plainElem_int underlying3 (wf64 ⟨by omega, by omega⟩)) ?_
  intro w' hown hgr
  refine hK w' ⟨_, hown, fun l => ?_⟩ hgr
  have hmap : Maps.IsMap D := by obtain ⟨_, _, _, _, _, e⟩ := ho; exact ⟨_, e⟩
  by_cases e : l = s.data.toList
  · subst e
    dsimp only
    rw [if_pos rfl]
    have hk : WideAt.IsKeyLit (.string s.data.toList) := by simp [WideAt.IsKeyLit]
    exact Maps.atKey_put_same hmap hk _ _
  · have hne : (Lit.string l) ≠ .string s.data.toList := fun h => e (by simpa using h)
    dsimp only
    rw [if_neg e, Maps.atKey_put_other hne]
    exact hD l

/-- What one gives, and leaves. -/
def OneIs (B n : Nat) (m : List UInt8 → Nat) (s : ByteArray) (w : World) (e : Ending) (w' : World) : Prop :=
  ∃ r : Nat, e = .returned (.int .i64 r) ∧ (r = 0 ∨ r = 1) ∧ (r = 0 ↔ NameOk s ∧ m s.data.toList = 0) ∧ SMap w' B (n + 1) (fun l => if l = s.data.toList then m l + 1 else m l) ∧ w.grownBy w' (some B)

set_option maxHeartbeats 1000000 in
theorem one_any (B n : Nat) (m : List UInt8 → Nat) (s : ByteArray) (w : World) (h : SMap w B n m) (hn : n ≤ 1000) (hm : m s.data.toList ≤ 1000) (hs : s.size ≤ 40) :
    Calls Try.prog 99 #[.map (some B), .string s] w fun e w' => OneIs B n m s w e w' := by
  have lk := h.look hs
  have H := hid h
  obtain ⟨c, hc⟩ : ∃ c, m s.data.toList = c := ⟨_, rfl⟩
  rw [hc] at lk hm
  have HC := hid hc
  clear h hc
  go_enter Try.func99, Try.ntmps99
  go_wp2_with (at_mapUpdate; refine wpList_count rfl (.tmp 5) (.tmp 6) (.tmp 8) rfl B n m rfl H.out (by omega) s (c + 1) ((c : Int) + 1) (by simp) rfl rfl hs (by omega) ?_; intro w1 hs1 hg1)
  have HS1 := hid (hs1.congr (m' := fun l => if l = s.data.toList then m l + 1 else m l) (fun l => by
    by_cases e : l = s.data.toList
    · rw [if_pos e, if_pos e, e, HC.out]
    · rw [if_neg e, if_neg e]))
  have HG1 := hid hg1
  have lk1 := hs1.look hs
  simp only [if_true] at lk1
  clear hs1 hg1 lk
  refine (name_any s _ hs).mono ?_
  rintro e w2 ⟨r, rfl, hr, rfl⟩
  have HR := hid hr
  clear hr
  cases r with
  | false =>
    go_wp2_with fail
    go_ret
    exact ⟨1, rfl, .inr rfl, by have := HR.out; simp at this ⊢; exact fun h => absurd h this, HS1.out, HG1.out⟩
  | true =>
    have hok : NameOk s := HR.out.1 rfl
    have HK := hid hok
    clear hok
    by_cases h0 : c = 0
    · have t1 : decide ((1 : Int) < ((c + 1 : Nat) : Int)) = false := by simp; omega
      have t1' : decide ((1 : Int) < (c : Int) + 1) = false := by simp; omega
      have H0 := hid h0
      clear h0
      go_wp2_with fail
      go_ret
      exact ⟨0, rfl, .inl rfl, by simp; exact ⟨HK.out, by rw [HC.out]; exact H0.out⟩, HS1.out, HG1.out⟩
    · have t1 : decide ((1 : Int) < ((c + 1 : Nat) : Int)) = true := by simp; omega
      have t1' : decide ((1 : Int) < (c : Int) + 1) = true := by simp; omega
      have H0 := hid h0
      clear h0
      go_wp2_with fail
      go_ret
      exact ⟨1, rfl, .inr rfl, by simp; intro _; rw [HC.out]; exact H0.out, HS1.out, HG1.out⟩

end Go.Proofs.Ytclioagemjpnoaa.Chk
