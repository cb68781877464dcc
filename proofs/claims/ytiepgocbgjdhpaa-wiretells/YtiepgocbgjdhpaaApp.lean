/-
  Appending bytes that came in to a row that the call has made; an empty row.
-/
import Derived.Test.YtiepgocbgjdhpaaLaw
import Derived.Laws.AppendOwnNone
namespace Go.Proofs.Ytiepgocbgjdhpaa.App
open Go.RowKit Plain Get Cv Put GetText First Law

/-- The cells of bytes that came in. -/
theorem In.cells {w : World} {ad : Addr} {m c : Nat} {ys : List Int} (h : In w (some ad) m c ys) : ∀ j u, (ys.map (Value.int .u8))[j]? = some u → w.cell? (ad.add j) = some u := by
  intro j u hu
  have hj : j < m := by have := (List.getElem?_eq_some_iff.1 hu).1; have := h.1; simp at *; omega
  obtain ⟨b, off, hab, hcell⟩ := h.2.1.2.2.2 (by omega)
  obtain rfl := Option.some.inj hab
  rw [Addr.add_lit, hcell j hj, ← hu]
  simp [h.1, hj]

theorem append_in {ops : Array Oper} {rest : List Oper} {o : Oper} {a : Act} {Q : Exit → Act → World → Prop} {w : World} (hgd : o.guard = none) (s x : Operand)
    (ho : o.op = .call { callee := .builtin .append, args := #[s, x], argTypes := #[22, 22] })
    (base : Nat) (v : Value) (n : Nat) (xs : List Int) (hs : a.eval s = v) (hown : w.ownsRow base 5 1 v n (xs.map (Value.int .u8)))
    (ao : Option Addr) (m c : Nat) (ys : List Int) (hx : a.eval x = .slice ao m c) (hin : In w ao m c ys)
    (hbytes : n + m ≤ 140737488355328) (hbase : base ≤ w.heap.size)
    (h : ∀ v' w', w'.ownsRow base 5 1 v' (n + m) ((xs ++ ys).map (Value.int .u8)) → w.grownBy w' v.ownBlock → wpList Try.prog ops Q rest (a.put o.dst v') w') : wpList Try.prog ops Q (o :: rest) a w := by
  obtain ⟨i0, hi, hz0, hz1, hz2⟩ := info_parts info5
  cases ao with
  | some ad =>
    refine wpList_append_own w hgd s x 22 ho base 5 i0 (.int .u8 0) 1 1 Try.underlying22 hi hz0 hz1 hz2 rfl (by decide) v n _ hs hown ad m c (ys.map (Value.int .u8)) hx (by simp [hin.1]) (In.cells hin) (ints_oneCell _ _) (by unfold maxLen; omega) (by omega) hbase ?_
    intro v' w' h1 h2 _
    exact h v' w' (by rw [List.map_append]; exact h1) h2
  | none =>
    obtain ⟨rfl, rfl⟩ := hin.2.2 rfl
    have hy : ys = [] := List.eq_nil_of_length_eq_zero hin.1
    subst hy
    exact wpList_append_own_none hgd s x 22 ho base 5 i0 1 Try.underlying22 hi v n _ hs hown hx (h v w (by simpa using hown) (World.grownBy.refl _ _))

/-- The same, the value written out. -/
theorem append_lies {ops : Array Oper} {rest : List Oper} {o : Oper} {a : Act} {Q : Exit → Act → World → Prop} {w : World} (hgd : o.guard = none) (s x : Operand)
    (ho : o.op = .call { callee := .builtin .append, args := #[s, x], argTypes := #[22, 22] })
    (base : Nat) (v : Value) (n : Nat) (xs : List Int) (hs : a.eval s = v) (hown : w.ownsRow base 5 1 v n (xs.map (Value.int .u8)))
    (ao : Option Addr) (m c : Nat) (ys : List Int) (hx : a.eval x = .slice ao m c) (hin : In w ao m c ys)
    (hbytes : n + m ≤ 140737488355328) (hbase : base ≤ w.heap.size) (hpos : 0 < n + m)
    (h : ∀ g cap w', w'.ownsRow base 5 1 (.slice (some ⟨g, 0, none⟩) (n + m) cap) (n + m) ((xs ++ ys).map (Value.int .u8)) → Below base w w' → wpList Try.prog ops Q rest (a.put o.dst (.slice (some ⟨g, 0, none⟩) (n + m) cap)) w') : wpList Try.prog ops Q (o :: rest) a w := by
  refine append_in hgd s x ho base v n xs hs hown ao m c ys hx hin hbytes hbase ?_
  intro v' w' h1 h2
  obtain ⟨g, cap, rfl, _, _⟩ := h1.form hpos
  exact h g cap w' h1 ((Below.refl base w).grown h2 hbase (fun k hk => (hown.lt k hk).1))

end Go.Proofs.Ytiepgocbgjdhpaa.App
