/-
  Copies of a module's other parts, in new memory: ir.copyList at int64, copyExtern, copyGlobal, copyTable, copyEach at each.
-/
import Derived.Test.YtclioagemjpnoaaMod
import Derived.Test.YtclioagemjpnoaaNeat
namespace Go.Proofs.Ytclioagemjpnoaa.CpM
open Go.RowKit View Rd Copy Srt Own Go.Proofs.Ytclioagemjpnoaa.Mod

set_option linter.unusedVariables false

theorem info2 : (Try.prog.info? 2).map (fun i => (i.zero, i.size, i.bytes)) = some (some (.int .i64 0), 1, 8) := by kernel_rfl

theorem ints_of_owns64 {w : World} {base : Nat} {v : Value} {n : Nat} {xs : List Int} (h : w.ownsRow base 2 1 v n (xs.map (Value.int .i64))) (hn : n ≤ 1000000) :
    ∃ s : Sl, v = .slice s.a s.n s.c ∧ s.n = n ∧ Ints w s (fun i => xs.getD i 0) ∧ Mine base w.heap.size w s := by
  obtain ⟨hlen, h⟩ := h
  simp at hlen
  rcases h with ⟨rfl, rfl⟩ | ⟨g, cap, cur, rfl, hb, hg, hnc, hm, hs, ht⟩
  · exact ⟨⟨none, 0, 0⟩, rfl, rfl, ⟨Nat.le_refl _, Nat.zero_le _, fun _ => rfl, fun h => absurd h (by simp)⟩, fun h => absurd h (by simp)⟩
  · have hlt : g < w.heap.size := (Array.getElem?_eq_some_iff.1 hg).1
    refine ⟨⟨some ⟨g, 0, none⟩, n, cap⟩, rfl, rfl, ⟨hnc, by show n ≤ _; omega, fun h => by simp at h, fun h0 => ⟨g, 0, rfl, fun i hi => ?_⟩⟩, fun h0 => ⟨g, rfl, hb, hlt, fun i => ?_⟩⟩
    · rw [Nat.zero_add, cell_of_row w g i cur 2 (0, 0) hg]
      have h1 : (cur.toList.take (n * 1))[i]? = (xs.map (Value.int .i64))[i]? := by rw [ht]
      rw [List.getElem?_take, if_pos (by simpa using hi)] at h1
      simp at h1
      rw [h1]
      have : i < xs.length := by rw [hlen]; exact hi
      simp [List.getD, this]
    · simp [World.frozen?, hg]

theorem append_in64 {ops : Array Oper} {rest : List Oper} {o : Oper} {a : Act} {Q : Exit → Act → World → Prop} {w : World} (hgd : o.guard = none) (s x : Operand)
    (ho : o.op = .call { callee := .builtin .append, args := #[s, x], argTypes := #[69, 69] })
    (base : Nat) (v : Value) (n : Nat) (xs : List Int) (hs : a.eval s = v) (hown : w.ownsRow base 2 1 v n (xs.map (Value.int .i64)))
    (sl : Sl) (f : Nat → Int) (hx : a.eval x = .slice sl.a sl.n sl.c) (hin : Ints w sl f)
    (hsm : n + sl.n ≤ 1000000) (hbase : base ≤ w.heap.size)
    (h : ∀ v' w', w'.ownsRow base 2 1 v' (n + sl.n) ((xs ++ row f sl.n).map (Value.int .i64)) → w.grownBy w' v.ownBlock → wpList Try.prog ops Q rest (a.put o.dst v') w') : wpList Try.prog ops Q (o :: rest) a w := by
  obtain ⟨i0, hi, hz0, hz1, hz2⟩ := info_parts info2
  obtain ⟨ao, m, c⟩ := sl
  cases ao with
  | some ad =>
    refine wpList_append_own w hgd s x 69 ho base 2 i0 (.int .i64 0) 1 8 underlying69 hi hz0 hz1 hz2 rfl (by decide) v n _ hs hown ad m c ((row f m).map (Value.int .i64)) hx (by simp [row_length]) (row_cells hin) (ints_oneCell _ _) (by simp only [maxLen] at *; omega) (by simp only at *; omega) hbase ?_
    intro v' w' h1 h2 _
    exact h v' w' (by rw [List.map_append]; exact h1) h2
  | none =>
    have hc0 := hin.2.2.1 rfl
    have hm0 := hin.1
    simp only at hc0 hm0
    subst hc0
    obtain rfl : m = 0 := by omega
    exact wpList_append_own_none hgd s x 69 ho base 2 i0 1 underlying69 hi v n _ hs hown hx (h v w (by simpa [row] using hown) (World.grownBy.refl _ _))

/-- A thing with one row of numbers, copied: the row is new. -/
def NewRow (n : Nat) (f : Nat → Int) (mk : Sl → Value) (w : World) (e : Ending) (w' : World) : Prop :=
  ∃ t : Sl, e = .returned (mk t) ∧ t.n = n ∧ Ints w' t f ∧ Mine (w.heap.size + 2) w'.heap.size w' t ∧ Below w.heap.size w w'

theorem newRow_fin {n : Nat} {f : Nat → Int} {mk : Sl → Value} {w w1 w2 : World} {t : Sl} (h1 : t.n = n) (hi : Ints w1 t f) (hm : Mine (w.heap.size + 2) w1.heap.size w1 t) (k : Kept (fun k => w.heap.size + 2 ≤ k) w1 w2) (hb : Below w.heap.size w w2) : NewRow n f mk w (.returned (mk t)) w2 :=
  ⟨t, rfl, h1, hi.kept' hm k (fun b h _ => h), (hm.kept k (fun b h _ => h)).wide (Nat.le_refl _) k.size, hb⟩

end Go.Proofs.Ytclioagemjpnoaa.CpM
