/-
  Copies by the document: plnref3.CopyIns.
-/
import Derived.Test.YtahjippocejphaaCopyF
namespace Go.Proofs.Ytahjippocejphaa.Copy
open Go.RowKit View Rd

set_option linter.unusedVariables false

/-- append([]int(nil), s...): a row of its own. -/
theorem append_copy {ops : Array Oper} {rest : List Oper} {o : Oper} {a : Act} {Q : Exit → Act → World → Prop} {w : World} (hgd : o.guard = none) (x : Operand)
    (ho : o.op = .call { callee := .builtin .append, args := #[.const (.slice none 0 0), x], argTypes := #[30, 30] })
    (s : Sl) (f : Nat → Int) (hx : a.eval x = .slice s.a s.n s.c) (hin : Ints w s f) (hn : s.n ≤ 1000)
    (h : ∀ (t : Sl) w', t.n = s.n → Ints w' t f → Mine w.heap.size w'.heap.size w' t → Below w.heap.size w w' → wpList Try.prog ops Q rest (a.put o.dst (.slice t.a t.n t.c)) w') : wpList Try.prog ops Q (o :: rest) a w := by
  refine append_in hgd (.const (.slice none 0 0)) x ho w.heap.size _ 0 [] rfl (World.ownsRow_nil _ _ _ _) s f hx hin (by omega) (Nat.le_refl _) ?_
  intro v1 w1 hown1 hgrow1
  simp only [Nat.zero_add, List.nil_append] at hown1
  obtain ⟨t, rfl, ht, hi, hm⟩ := ints_of_owns hown1 (by omega)
  exact h t w1 ht (Ints.congr hi (fun i h => getD_row f s.n i (by omega))) hm ((Below.refl _ w).grown hgrow1 (Nat.le_refl _) (fun k hk => by cases hk))

set_option maxHeartbeats 1000000 in
theorem copyIns_ref (v : IV) (a j : Nat → Int) (w : World) (ha : Ints w v.args a) (hj : Ints w v.into j) (h1 : v.args.n ≤ 1000) (h2 : v.into.n ≤ 1000) :
    Calls Try.prog 46 #[v.val] w fun e w' => ∃ sa si : Sl, e = .returned ({ v with args := sa, into := si } : IV).val ∧ Twin w.heap.size w'.heap.size w' sa si v a j ∧ Below w.heap.size w w' := by
  have HA := hid ha
  have HJ := hid hj
  clear ha hj
  go_enter Try.func46, Try.ntmps46
  go_wp2_with (at_builtin; first | (refine append_copy rfl (.tmp 4) rfl v.args a rfl (HA.out.on (new (new (same w) _) _)) h1 ?_; intro sa w1 hn1 hi1 hm1 hb1; have B1 : InsAt w1 w.heap.size 0 v := (((InsAt.alloc w v).on (new (same _) _)).on hb1); have D1 : InsAt w1 (w.heap.size + 1) 0 IV.zero := (by have := (InsAt.alloc (w.alloc (.cells v.cells 42)) IV.zero).on hb1; simpa using this); have F1 : ∀ i, w1.frozen? ⟨w.heap.size, i, none⟩ = false := (fun i => (by rw [hb1.frozen (by simp; omega)]; simp [World.frozen?_alloc_old])); have F1' : ∀ i, w1.frozen? ⟨w.heap.size + 1, i, none⟩ = false := (fun i => (by rw [hb1.frozen (by simp)]; simp)); have K1 := hid (more (new (new (same w) _) _) hb1); obtain ⟨c0, c1, c2, c3, c4, c5, c6⟩ := B1.head; have hm1' : Mine (w.heap.size + 2) w1.heap.size w1 sa := (by simpa using hm1); have Z1 := hid (show w.heap.size + 2 ≤ w1.heap.size by have := hb1.size; simp at this; omega); have M1 := hid (And.intro hn1 (And.intro hi1 hm1')); have HB1 := hid B1; have HD1 := hid D1; clear hn1 hi1 hm1 hm1' B1 D1 hb1) | (refine append_copy rfl (.tmp 8) rfl v.into j rfl (HJ.out.on (K1.out.setCell (p := ⟨w.heap.size, 5, none⟩) (Nat.le_refl _) (.slice sa.a sa.n sa.c))) h2 ?_; intro si w2 hn2 hi2 hm2 hb2; have B2 : InsAt w2 w.heap.size 0 { v with args := sa } := (InsAt.on hb2 (by have := HB1.out.set5 sa; simpa using this)); have D2 : InsAt w2 (w.heap.size + 1) 0 IV.zero := (InsAt.on hb2 (HD1.out.kept ((Kept.refl (fun k => k ≠ w.heap.size) w1).setCell (a := ⟨w.heap.size, 5, none⟩) (fun h => h rfl) _) (by show _ ≠ _; omega))); clear c0 c1 c2 c3 c4 c5 c6; obtain ⟨c0, c1, c2, c3, c4, c5, c6⟩ := B2.head; obtain ⟨d0, d1, d2, d3, d4, d5, d6⟩ := D2.head; have F2 : ∀ i, w2.frozen? ⟨w.heap.size, i, none⟩ = false := (fun i => (by rw [hb2.frozen (by have := Z1.out; simp; omega)]; simp [F1])); have F2' : ∀ i, w2.frozen? ⟨w.heap.size + 1, i, none⟩ = false := (fun i => (by rw [hb2.frozen (by have := Z1.out; simp; omega)]; simp [F1'])); have K3 := hid (more (K1.out.setCell (p := ⟨w.heap.size, 5, none⟩) (Nat.le_refl _) (.slice sa.a sa.n sa.c)) hb2); have M2 := hid (And.intro hn2 (And.intro hi2 hm2)); have H2 := hid hb2; clear hn2 hi2 hm2 B2 D2 hb2 F1 F1'))
  refine bodyPost_ret (v := ({ v with args := sa, into := si } : IV).val) (by rw [results_cell rfl]; go_simp) rfl ?_
  have Z2 : w1.heap.size ≤ w2.heap.size := by have := H2.out.size; simpa using this
  have z1 := Z1.out
  have KW : Kept (fun k => w.heap.size + 2 ≤ k) w1 (w1.setCell ⟨w.heap.size, 5, none⟩ (.slice sa.a sa.n sa.c)) := (Kept.refl _ _).setCell (by simp) _
  have a1 : Ints w2 sa a := Ints.on H2.out (M1.out.2.1.kept' M1.out.2.2 KW (fun b h _ => h))
  have a2 : Mine (w.heap.size + 2) w1.heap.size w2 sa := Mine.on H2.out (by simp) (M1.out.2.2.kept KW (fun b h _ => h))
  have j1 : Mine (w1.heap.size) w2.heap.size w2 si := by have := M2.out.2.2; simpa using this
  have KE : Kept (fun k => w.heap.size + 2 ≤ k) w2 ((((((((w2.setCell { block := w.heap.size, off := 6 } (.slice si.a si.n si.c)).setCell { block := w.heap.size + 1, off := 0 } (.int .i64 v.op)).setCell { block := w.heap.size + 1, off := 1 } (.int .i64 v.ty)).setCell { block := w.heap.size + 1, off := 2 } (.int .i64 v.to)).setCell { block := w.heap.size + 1, off := 3 } (.int .i64 v.sym)).setCell { block := w.heap.size + 1, off := 4 } (.int .i64 v.num)).setCell { block := w.heap.size + 1, off := 5 } (.slice sa.a sa.n sa.c)).setCell { block := w.heap.size + 1, off := 6 } (.slice si.a si.n si.c)) := by
    repeat (refine Kept.setCell ?_ (by simp) _)
    exact Kept.refl _ _
  refine ⟨sa, si, rfl, ⟨M1.out.1, M2.out.1, a1.kept' a2 KE (fun b h _ => h), M2.out.2.1.kept' j1 KE (fun b h _ => by omega), (a2.kept KE (fun b h _ => h)).wide (by omega) (by have := KE.size; omega), (j1.kept KE (fun b h _ => by omega)).wide (by omega) (by have := KE.size; omega), ?_⟩, ?_⟩
  · intro g g' h h' h0 h0'
    obtain ⟨g1, e1, _, e2, _⟩ := a2 h0
    have := (j1.ge g' 0 h' h0').1
    rw [h] at e1
    simp at e1
    omega
  · repeat (refine Below.setCell ?_ (by simp) _)
    exact K3.out

end Go.Proofs.Ytahjippocejphaa.Copy
