/-
  Copies of a module's other parts, in new memory: ir.copyList at int64, copyExtern, copyGlobal, copyTable, copyEach at each.
-/
import Derived.Test.YthaedlnefikigaaMod
import Derived.Test.YthaedlnefikigaaNeat
namespace Go.Proofs.Ythaedlnefikigaa.CpM
open Go.RowKit View Rd Copy Srt Own Go.Proofs.Ythaedlnefikigaa.Mod

set_option linter.unusedVariables false

theorem info2 : (Try.prog.info? 2).map (fun i => (i.zero, i.size, i.bytes)) = some (some (.int .i64 0), 1, 8) := by kernel_rfl

theorem ints_of_owns64 {w : World} {base : Nat} {v : Value} {n : Nat} {xs : List Int} (h : w.ownsRow base 2 1 v n (xs.map (Value.int .i64))) (hn : n ≤ 1000000) :
    ∃ s : Sl, v = .slice s.a s.n s.c ∧ s.n = n ∧ Ints w s (fun i => xs.getD i 0) ∧ Mine base w.heap.size w s := by
  obtain ⟨hlen, h⟩ := h
  simp at hlen
  rcases h with ⟨rfl, rfl⟩ | ⟨g, cap, cur, rfl, hb, hg, hnc, hm, hs, ht⟩
  · exact ⟨⟨none, 0, 0⟩, rfl, rfl, ⟨Nat.le_refl _, Nat.zero_le _, fun _ => rfl, fun h => absurd h (by simp)⟩, fun h => absurd h (by simp)⟩
  · have hlt : g < w.heap.size := (Array.getElem?_eq_some_iff.1 hg).1
    refine ⟨⟨some ⟨g, 0, none⟩, n, cap⟩, rfl, rfl, ⟨hnc, by show n ≤ _; omega, fun h => by simp at h, fun h0 => ⟨g, 0, rfl, fun i hi => ?_⟩⟩, fun h0 => ⟨g, rfl, hb, hlt, fun i => ?_⟩⟩
    · rw [Nat.zero_add, cell_of_row w g i cur 2 (0, 0) hg]
      have h1 : (cur.toList.take (n * 1))[i]? = (xs.map (Value.int .i64))[i]? := by rw [ht]
      rw [List.getElem?_take, if_pos (by simpa using hi)] at h1
      simp at h1
      rw [h1]
      have : i < xs.length := by rw [hlen]; exact hi
      simp [List.getD, this]
    · simp [World.frozen?, hg]

theorem append_in64 {ops : Array Oper} {rest : List Oper} {o : Oper} {a : Act} {Q : Exit → Act → World → Prop} {w : World} (hgd : o.guard = none) (s x : Operand)
    (ho : o.op = .call { callee := .builtin .append, args := #[s, x], argTypes := #[56, 56] })
    (base : Nat) (v : Value) (n : Nat) (xs : List Int) (hs : a.eval s = v) (hown : w.ownsRow base 2 1 v n (xs.map (Value.int .i64)))
    (sl : Sl) (f : Nat → Int) (hx : a.eval x = .slice sl.a sl.n sl.c) (hin : Ints w sl f)
    (hsm : n + sl.n ≤ 1000000) (hbase : base ≤ w.heap.size)
    (h : ∀ v' w', w'.ownsRow base 2 1 v' (n + sl.n) ((xs ++ row f sl.n).map (Value.int .i64)) → w.grownBy w' v.ownBlock → wpList Try.prog ops Q rest (a.put o.dst v') w') : wpList Try.prog ops Q (o :: rest) a w := by
  obtain ⟨i0, hi, hz0, hz1, hz2⟩ := info_parts info2
  obtain ⟨ao, m, c⟩ := sl
  cases ao with
  | some ad =>
    refine wpList_append_own w hgd s x 56 ho base 2 i0 (.int .i64 0) 1 8 underlying56 hi hz0 hz1 hz2 rfl (by decide) v n _ hs hown ad m c ((row f m).map (Value.int .i64)) hx (by simp [row_length]) (row_cells hin) (ints_oneCell _ _) (by simp only [maxLen] at *; omega) (by simp only at *; omega) hbase ?_
    intro v' w' h1 h2 _
    exact h v' w' (by rw [List.map_append]; exact h1) h2
  | none =>
    have hc0 := hin.2.2.1 rfl
    have hm0 := hin.1
    simp only at hc0 hm0
    subst hc0
    obtain rfl : m = 0 := by omega
    exact wpList_append_own_none hgd s x 56 ho base 2 i0 1 underlying56 hi v n _ hs hown hx (h v w (by simpa [row] using hown) (World.grownBy.refl _ _))

set_option maxHeartbeats 400000 in
theorem copyList64_any (s : Sl) (f : Nat → Int) (w : World) (hs : Ints w s f) (hn : s.n ≤ 1000) :
    Calls Try.prog 62 #[.slice s.a s.n s.c] w fun e w' => ∃ t : Sl, e = .returned (.slice t.a t.n t.c) ∧ t.n = s.n ∧ Ints w' t f ∧ Mine w.heap.size w'.heap.size w' t ∧ Below w.heap.size w w' := by
  have HS := hid hs
  clear hs
  go_enter Try.func62, Try.ntmps62
  go_wp2_with (at_builtin; refine append_in64 rfl (.const (.slice none 0 0)) (.tmp 3) rfl w.heap.size _ 0 [] rfl (World.ownsRow_nil _ _ _ _) s f rfl HS.out (by omega) (Nat.le_refl _) ?_; intro v1 w1 hown1 hgrow1)
  go_ret
  simp only [Nat.zero_add, List.nil_append] at hown1
  obtain ⟨t, rfl, ht, hi, hm⟩ := ints_of_owns64 hown1 (by omega)
  exact ⟨t, rfl, ht, Ints.congr hi (fun i h => getD_row f s.n i (by omega)), hm, (Below.refl _ w).grown hgrow1 (Nat.le_refl _) (fun k hk => by cases hk)⟩

/-- A thing with one row of numbers, copied: the row is new. -/
def NewRow (n : Nat) (f : Nat → Int) (mk : Sl → Value) (w : World) (e : Ending) (w' : World) : Prop :=
  ∃ t : Sl, e = .returned (mk t) ∧ t.n = n ∧ Ints w' t f ∧ Mine (w.heap.size + 2) w'.heap.size w' t ∧ Below w.heap.size w w'

theorem newRow_fin {n : Nat} {f : Nat → Int} {mk : Sl → Value} {w w1 w2 : World} {t : Sl} (h1 : t.n = n) (hi : Ints w1 t f) (hm : Mine (w.heap.size + 2) w1.heap.size w1 t) (k : Kept (fun k => w.heap.size + 2 ≤ k) w1 w2) (hb : Below w.heap.size w w2) : NewRow n f mk w (.returned (mk t)) w2 :=
  ⟨t, rfl, h1, hi.kept' hm k (fun b h _ => h), (hm.kept k (fun b h _ => h)).wide (Nat.le_refl _) k.size, hb⟩

set_option maxHeartbeats 1000000 in
theorem copyExtern_any (v : EV) (f : Nat → Int) (w : World) (hs : Ints w v.par f) (hn : v.par.n ≤ 1000) :
    Calls Try.prog 42 #[.agg #[.string v.name, .slice v.par.a v.par.n v.par.c, .int .i64 v.res]] w fun e w' => NewRow v.par.n f (fun t => .agg #[.string v.name, .slice t.a t.n t.c, .int .i64 v.res]) w e w' := by
  have HS := hid hs
  clear hs
  go_enter Try.func42, Try.ntmps42
  go_wp2_with fail
  refine (copyList_any v.par f _ (HS.out.on (new (new (same w) _) _)) hn).mono ?_
  rintro e w1 ⟨t, rfl, hn1, hi1, hm1, hb1⟩
  have z1 : w.heap.size + 2 ≤ w1.heap.size := by have := hb1.size; simp at this; omega
  have B1 : ∀ i, w1.cell? ⟨w.heap.size, i, none⟩ = ((w.alloc (.cells #[.string v.name, .slice v.par.a v.par.n v.par.c, .int .i64 v.res] 55)).alloc (.cells #[.string ByteArray.empty, .slice none 0 0, .int .i64 0] 55)).cell? ⟨w.heap.size, i, none⟩ := fun i => World.cell?_of_block (hb1.block _ (by simp; omega))
  have D1 : ∀ i, w1.cell? ⟨w.heap.size + 1, i, none⟩ = ((w.alloc (.cells #[.string v.name, .slice v.par.a v.par.n v.par.c, .int .i64 v.res] 55)).alloc (.cells #[.string ByteArray.empty, .slice none 0 0, .int .i64 0] 55)).cell? ⟨w.heap.size + 1, i, none⟩ := fun i => World.cell?_of_block (hb1.block _ (by simp))
  have c0 : w1.cell? ⟨w.heap.size, 0, none⟩ = some (.string v.name) := by rw [B1]; simp
  have d0 : w1.cell? ⟨w.heap.size + 1, 0, none⟩ = some (.string ByteArray.empty) := by rw [D1]; simp
  have c1 : w1.cell? ⟨w.heap.size, 1, none⟩ = some (.slice v.par.a v.par.n v.par.c) := by rw [B1]; simp
  have d1 : w1.cell? ⟨w.heap.size + 1, 1, none⟩ = some (.slice none 0 0) := by rw [D1]; simp
  have c2 : w1.cell? ⟨w.heap.size, 2, none⟩ = some (.int .i64 v.res) := by rw [B1]; simp
  have d2 : w1.cell? ⟨w.heap.size + 1, 2, none⟩ = some (.int .i64 0) := by rw [D1]; simp
  have F1 : ∀ i, w1.frozen? ⟨w.heap.size, i, none⟩ = false := fun i => by rw [hb1.frozen (by simp; omega)]; simp [World.frozen?_alloc_old]
  have F1' : ∀ i, w1.frozen? ⟨w.heap.size + 1, i, none⟩ = false := fun i => by rw [hb1.frozen (by simp)]; simp
  have hm2 : Mine (w.heap.size + 2) w1.heap.size w1 t := by simpa using hm1
  have FIN := hid (And.intro hn1 (And.intro hi1 (And.intro hm2 (more (new (new (same w) _) _) hb1))))
  clear hn1 hi1 hm1 hm2 hb1 B1 D1
  go_wp2_with fail
  refine bodyPost_ret (v := .agg #[.string v.name, .slice t.a t.n t.c, .int .i64 v.res]) (by rw [results_cell rfl]; go_simp) rfl ?_
  obtain ⟨hn1, hi1, hm2, hb2⟩ := FIN.out
  refine newRow_fin hn1 hi1 hm2 ?_ ?_
  · repeat (refine Kept.setCell ?_ (by simp) _)
    exact Kept.refl _ _
  · repeat (refine Below.setCell ?_ (by simp) _)
    exact hb2

set_option maxHeartbeats 400000 in
theorem copyGlobal_any (v : GV) (f : Nat → Int) (w : World) (hs : Ints w v.cel f) (hn : v.cel.n ≤ 1000) :
    Calls Try.prog 44 #[.agg #[.string v.name, .slice v.cel.a v.cel.n v.cel.c]] w fun e w' => NewRow v.cel.n f (fun t => .agg #[.string v.name, .slice t.a t.n t.c]) w e w' := by
  have HS := hid hs
  clear hs
  go_enter Try.func44, Try.ntmps44
  go_wp2_with fail
  refine (copyList64_any v.cel f _ (HS.out.on (new (new (same w) _) _)) hn).mono ?_
  rintro e w1 ⟨t, rfl, hn1, hi1, hm1, hb1⟩
  have z1 : w.heap.size + 2 ≤ w1.heap.size := by have := hb1.size; simp at this; omega
  have B1 : ∀ i, w1.cell? ⟨w.heap.size, i, none⟩ = ((w.alloc (.cells #[.string v.name, .slice v.cel.a v.cel.n v.cel.c] 58)).alloc (.cells #[.string ByteArray.empty, .slice none 0 0] 58)).cell? ⟨w.heap.size, i, none⟩ := fun i => World.cell?_of_block (hb1.block _ (by simp; omega))
  have D1 : ∀ i, w1.cell? ⟨w.heap.size + 1, i, none⟩ = ((w.alloc (.cells #[.string v.name, .slice v.cel.a v.cel.n v.cel.c] 58)).alloc (.cells #[.string ByteArray.empty, .slice none 0 0] 58)).cell? ⟨w.heap.size + 1, i, none⟩ := fun i => World.cell?_of_block (hb1.block _ (by simp))
  have c0 : w1.cell? ⟨w.heap.size, 0, none⟩ = some (.string v.name) := by rw [B1]; simp
  have d0 : w1.cell? ⟨w.heap.size + 1, 0, none⟩ = some (.string ByteArray.empty) := by rw [D1]; simp
  have c1 : w1.cell? ⟨w.heap.size, 1, none⟩ = some (.slice v.cel.a v.cel.n v.cel.c) := by rw [B1]; simp
  have d1 : w1.cell? ⟨w.heap.size + 1, 1, none⟩ = some (.slice none 0 0) := by rw [D1]; simp
  have F1 : ∀ i, w1.frozen? ⟨w.heap.size, i, none⟩ = false := fun i => by rw [hb1.frozen (by simp; omega)]; simp [World.frozen?_alloc_old]
  have F1' : ∀ i, w1.frozen? ⟨w.heap.size + 1, i, none⟩ = false := fun i => by rw [hb1.frozen (by simp)]; simp
  have hm2 : Mine (w.heap.size + 2) w1.heap.size w1 t := by simpa using hm1
  have FIN := hid (And.intro hn1 (And.intro hi1 (And.intro hm2 (more (new (new (same w) _) _) hb1))))
  clear hn1 hi1 hm1 hm2 hb1 B1 D1
  go_wp2_with fail
  refine bodyPost_ret (v := .agg #[.string v.name, .slice t.a t.n t.c]) (by rw [results_cell rfl]; go_simp) rfl ?_
  obtain ⟨hn1, hi1, hm2, hb2⟩ := FIN.out
  refine newRow_fin hn1 hi1 hm2 ?_ ?_
  · repeat (refine Kept.setCell ?_ (by simp) _)
    exact Kept.refl _ _
  · repeat (refine Below.setCell ?_ (by simp) _)
    exact hb2

set_option maxHeartbeats 400000 in
theorem copyTable_any (v : GV) (f : Nat → Int) (w : World) (hs : Ints w v.cel f) (hn : v.cel.n ≤ 1000) :
    Calls Try.prog 46 #[.agg #[.string v.name, .slice v.cel.a v.cel.n v.cel.c]] w fun e w' => NewRow v.cel.n f (fun t => .agg #[.string v.name, .slice t.a t.n t.c]) w e w' := by
  have HS := hid hs
  clear hs
  go_enter Try.func46, Try.ntmps46
  go_wp2_with fail
  refine (copyList_any v.cel f _ (HS.out.on (new (new (same w) _) _)) hn).mono ?_
  rintro e w1 ⟨t, rfl, hn1, hi1, hm1, hb1⟩
  have z1 : w.heap.size + 2 ≤ w1.heap.size := by have := hb1.size; simp at this; omega
  have B1 : ∀ i, w1.cell? ⟨w.heap.size, i, none⟩ = ((w.alloc (.cells #[.string v.name, .slice v.cel.a v.cel.n v.cel.c] 60)).alloc (.cells #[.string ByteArray.empty, .slice none 0 0] 60)).cell? ⟨w.heap.size, i, none⟩ := fun i => World.cell?_of_block (hb1.block _ (by simp; omega))
  have D1 : ∀ i, w1.cell? ⟨w.heap.size + 1, i, none⟩ = ((w.alloc (.cells #[.string v.name, .slice v.cel.a v.cel.n v.cel.c] 60)).alloc (.cells #[.string ByteArray.empty, .slice none 0 0] 60)).cell? ⟨w.heap.size + 1, i, none⟩ := fun i => World.cell?_of_block (hb1.block _ (by simp))
  have c0 : w1.cell? ⟨w.heap.size, 0, none⟩ = some (.string v.name) := by rw [B1]; simp
  have d0 : w1.cell? ⟨w.heap.size + 1, 0, none⟩ = some (.string ByteArray.empty) := by rw [D1]; simp
  have c1 : w1.cell? ⟨w.heap.size, 1, none⟩ = some (.slice v.cel.a v.cel.n v.cel.c) := by rw [B1]; simp
  have d1 : w1.cell? ⟨w.heap.size + 1, 1, none⟩ = some (.slice none 0 0) := by rw [D1]; simp
  have F1 : ∀ i, w1.frozen? ⟨w.heap.size, i, none⟩ = false := fun i => by rw [hb1.frozen (by simp; omega)]; simp [World.frozen?_alloc_old]
  have F1' : ∀ i, w1.frozen? ⟨w.heap.size + 1, i, none⟩ = false := fun i => by rw [hb1.frozen (by simp)]; simp
  have hm2 : Mine (w.heap.size + 2) w1.heap.size w1 t := by simpa using hm1
  have FIN := hid (And.intro hn1 (And.intro hi1 (And.intro hm2 (more (new (new (same w) _) _) hb1))))
  clear hn1 hi1 hm1 hm2 hb1 B1 D1
  go_wp2_with fail
  refine bodyPost_ret (v := .agg #[.string v.name, .slice t.a t.n t.c]) (by rw [results_cell rfl]; go_simp) rfl ?_
  obtain ⟨hn1, hi1, hm2, hb2⟩ := FIN.out
  refine newRow_fin hn1 hi1 hm2 ?_ ?_
  · repeat (refine Kept.setCell ?_ (by simp) _)
    exact Kept.refl _ _
  · repeat (refine Below.setCell ?_ (by simp) _)
    exact hb2

end Go.Proofs.Ythaedlnefikigaa.CpM
