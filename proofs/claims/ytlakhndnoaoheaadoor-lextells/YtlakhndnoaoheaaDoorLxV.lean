/-
  The document's own Lines (plnref1): what holds between its steps.
-/
import Derived.Test.YtlakhndnoaoheaaDoorLxE
namespace Go.Proofs.YtlakhndnoaoheaaDoor.Lx
open Go.RowKit

set_option linter.unusedVariables false

theorem words_rowT {T : Nat} {w : World} {base : Nat} {v : Value} {ws : List (Nat × Nat)} {s : ByteArray} (h : w.ownsRow base T 2 v ws.length (ws.flatMap (wdc s))) (hn : ws.length ≤ 5000) :
    ∃ t : Sl, v = slv t ∧ t.n = ws.length ∧ Row 2 (WAt s) w t (fun k => ws.getD k (0, 0)) ∧ ∀ b, FpS t b → base ≤ b ∧ b < w.heap.size := by
  have hh := h
  rcases h.2 with ⟨rfl, e⟩ | ⟨g, cap, cur, rfl, hb, hg, hnc, hm, hs, ht⟩
  · rw [e]
    exact ⟨⟨none, 0, 0⟩, rfl, rfl, ⟨Nat.le_refl _, Nat.zero_le _, fun _ => rfl, fun h => absurd h (by simp)⟩, fun b h => absurd h.1 (by simp)⟩
  · refine ⟨⟨some ⟨g, 0, none⟩, ws.length, cap⟩, rfl, rfl, ⟨hnc, by show ws.length ≤ _; omega, fun e => by simp at e, fun h0 => ⟨g, 0, rfl, fun i hi => ?_⟩⟩, fun b h => ⟨by rw [h.2]; exact hb, by rw [h.2]; exact (Array.getElem?_eq_some_iff.1 hg).1⟩⟩
    simp only at hi
    have hx : ∀ r, r < 2 → w.cell? ⟨g, i * 2 + r, none⟩ = (wdc s ws[i])[r]? := fun r hr => by
      rw [hh.cellAt (i * 2 + r) (by omega), flatMap_at (wdc_length s) ws i r hi hr]
    have e : ws.getD i (0, 0) = ws[i] := by simp [List.getD, hi]
    rw [Nat.zero_add]
    show WAt s w g (i * 2) (ws.getD i (0, 0))
    rw [e]
    exact ⟨by have := hx 0 (by omega); simpa [wdc] using this, by have := hx 1 (by omega); simpa [wdc] using this⟩

theorem infoRW : (Tryd.prog.info? 36).map (fun i => (i.zero, i.size, i.bytes)) = some (some (.agg #[.string ByteArray.empty, .int .i64 0]), 2, 24) := by kernel_rfl
theorem undRWs : Tryd.prog.underlying 33 = some (.slice 36) := by kernel_rfl
theorem undRLs : Tryd.prog.underlying 27 = some (.slice 33) := by kernel_rfl
theorem infoRL : (Tryd.prog.info? 33).map (fun i => (i.zero, i.size, i.bytes)) = some (some (.slice none 0 0), 1, 24) := by kernel_rfl
theorem sizeRW : (Tryd.prog.info? 36).map (fun i => i.size) = some 2 := by kernel_rfl
theorem sizeRL : (Tryd.prog.info? 33).map (fun i => i.size) = some 1 := by kernel_rfl

abbrev LL (s : ByteArray) : List (List (Nat × Nat)) := linesOf (bts s) s.size
abbrev rm (s : ByteArray) (i : Nat) (note : Bool) (fr : Option Nat) := rem (bts s) s.size i note fr

/-- What lies in memory: the lines so far, and this line's words in memory that was made behind them. -/
def MSt (s : ByteArray) (w wr : World) (v lv : Value) (k : Nat) (ws : List (Nat × Nat)) : Prop :=
  ∃ wl t, Grow w.heap.size 33 1 k wl v csL (ElW s (LL s)) FpS t ∧ Below w.heap.size w wl ∧ Below wl.heap.size wl wr ∧ wr.ownsRow wl.heap.size 36 2 lv ws.length (ws.flatMap (wdc s))

theorem MSt.low {s : ByteArray} {w wr : World} {v lv : Value} {k : Nat} {ws : List (Nat × Nat)} (h : MSt s w wr v lv k ws) : Below w.heap.size w wr := by
  obtain ⟨wl, t, g, b1, b2, own⟩ := h
  exact more b1 b2

theorem MSt.start (s : ByteArray) (w : World) : MSt s w w (.slice none 0 0) (.slice none 0 0) 0 [] :=
  ⟨w, fun _ => ⟨none, 0, 0⟩, ⟨World.ownsRow_nil _ _ _ _, fun i hi => by omega, fun i hi => by omega, fun i j hi => by omega⟩, Below.refl _ _, Below.refl _ _, World.ownsRow_nil _ _ _ _⟩

/-- The append of a word. -/
theorem MSt.word {s : ByteArray} {w wr : World} {v lv : Value} {k : Nat} {ws : List (Nat × Nat)} (h : MSt s w wr v lv k ws) (hw : ws.length ≤ 5000) (f i : Nat) {ops : Array Oper} {rest : List Oper} {o : Oper} {a : Act} {Q : Exit → Act → World → Prop}
    (hgd : o.guard = none) (x y : Operand) (ho : o.op = .call { callee := .builtin .append, args := #[x, y], argTypes := #[33, 33] }) (hx : a.eval x = lv) (hy : a.eval y = .slice (some ⟨wr.heap.size, 0, none⟩) 1 1) (tx : ByteArray) (htx : s.extract f i = tx)
    (hK : ∀ lv' w', MSt s w w' v lv' k (ws ++ [(f, i)]) → wpList Tryd.prog ops Q rest (a.put o.dst lv') w') : wpList Tryd.prog ops Q (o :: rest) a (wr.alloc (.cells #[.string tx, .int .i64 f] 36)) := by
  obtain ⟨wl, t, g, b1, b2, own⟩ := h
  have z := b2.size
  refine append_gen undRWs infoRW rfl (by decide) (by decide) hgd x y ho wl.heap.size lv ws.length _ hx own hy #[.string tx, .int .i64 f] rfl (by intro u hu; simp at hu; rcases hu with rfl | rfl <;> rfl) hw z ?_
  intro lv' w' own4 gr4 at4
  refine hK lv' w' ⟨wl, t, g, b1, ?_, ?_⟩
  · exact (b2.alloc z _).grown gr4 (by simp; omega) (fun b hb => (own.lt b hb).1)
  · rw [List.length_append, List.flatMap_append]
    simpa [wdc, htx] using own4

/-- The append of a line. -/
theorem MSt.push {s : ByteArray} {w wr : World} {v : Value} {u : Sl} {k : Nat} {ws : List (Nat × Nat)} (h : MSt s w wr v (slv u) k ws) (hw : ws.length ≤ 5000) (hk : k ≤ 5000) (hws : (LL s).getD k [] = ws) {ops : Array Oper} {rest : List Oper} {o : Oper} {a : Act} {Q : Exit → Act → World → Prop}
    (hgd : o.guard = none) (x y : Operand) (ho : o.op = .call { callee := .builtin .append, args := #[x, y], argTypes := #[27, 27] }) (hx : a.eval x = v) (hy : a.eval y = .slice (some ⟨wr.heap.size, 0, none⟩) 1 1)
    (hK : ∀ v' w', MSt s w w' v' (.slice none 0 0) (k + 1) [] → wpList Tryd.prog ops Q rest (a.put o.dst v') w') : wpList Tryd.prog ops Q (o :: rest) a (wr.alloc (.cells #[slv u] 33)) := by
  obtain ⟨wl, t, g, b1, b2, own⟩ := h
  have z := b2.size
  have z1 := b1.size
  obtain ⟨u', hu', hu, hrow, hf⟩ := words_rowT own hw
  have hu2 : u = u' := by
    obtain ⟨a, n, c⟩ := u
    obtain ⟨a', n', c'⟩ := u'
    simp [slv] at hu'
    obtain ⟨rfl, rfl, rfl⟩ := hu'
    rfl
  subst hu2
  refine append_gen undRLs infoRL rfl (by decide) (by decide) hgd x y ho w.heap.size v k _ hx (owns_on b2 g.own) hy #[slv u] rfl (by intro u hu; simp at hu; subst hu; rfl) hk (by omega) ?_
  intro v' w' own4 gr4 at4
  obtain ⟨t', g'⟩ := g.step (elW_stable _ _) z1 b2 (a := u) (show ElW s _ wr k u from ⟨by rw [hu, hws], by rw [hws]; exact hrow⟩) hf own4 gr4 at4
  refine hK v' w' ⟨w', t', g', ?_, Below.refl _ _, World.ownsRow_nil _ _ _ _⟩
  exact ((more b1 b2).alloc (by omega) _).grown gr4 (by simp; omega) (fun b hb => (g.own.lt b hb).1)

theorem MSt.clear {s : ByteArray} {w wr : World} {v lv : Value} {k : Nat} (h : MSt s w wr v lv k []) : MSt s w wr v (.slice none 0 0) k [] := by
  obtain ⟨wl, t, g, b1, b2, own⟩ := h
  exact ⟨wl, t, g, b1, b2, World.ownsRow_nil _ _ _ _⟩

/-- A slice of this line's words. -/
theorem MSt.slice {s : ByteArray} {w wr : World} {v lv : Value} {k : Nat} {ws : List (Nat × Nat)} (h : MSt s w wr v lv k ws) : ∃ u : Sl, lv = slv u ∧ u.n = ws.length := by
  obtain ⟨wl, t, g, b1, b2, own⟩ := h
  rcases own.2 with ⟨rfl, e⟩ | ⟨g', cap, cur, rfl, _⟩
  · exact ⟨⟨none, 0, 0⟩, rfl, e.symm⟩
  · exact ⟨⟨some ⟨g', 0, none⟩, ws.length, cap⟩, rfl, rfl⟩

/-- Where, plainly. -/
structure RSt (s : ByteArray) (k i : Nat) (ws : List (Nat × Nat)) (fr : Option Nat) (note : Bool) : Prop where
  kl : k ≤ (LL s).length
  le : i ≤ s.size + 1
  r : (LL s).drop k = conz (ws ++ (rm s i note fr).1, (rm s i note fr).2)
  nf : note = true → fr = none
  fl : ∀ f, fr = some f → f < i

theorem RSt.start (s : ByteArray) : RSt s 0 0 [] none false := ⟨Nat.zero_le _, Nat.zero_le _, by simp [LL, linesOf], fun h => (by cases h), fun f h => by cases h⟩

theorem RSt.small {s : ByteArray} {k i : Nat} {ws : List (Nat × Nat)} {fr : Option Nat} {note : Bool} (h : RSt s k i ws fr note) : k ≤ s.size ∧ ws.length ≤ s.size := by
  have h1 : (LL s).length ≤ s.size := lines_len (bts s) s.size
  have h2 := h.kl
  refine ⟨by omega, ?_⟩
  have hr := h.r
  cases ws with
  | nil => exact Nat.zero_le _
  | cons x y =>
    have hm : (x :: y ++ (rm s i note fr).1) ∈ (LL s).drop k := by rw [hr]; simp [conz]
    have : (x :: y ++ (rm s i note fr).1).length ≤ s.size := line_len (bts s) s.size _ (List.mem_of_mem_drop hm)
    rw [List.length_append] at this
    omega

/-- The end of a line that has words. -/
theorem RSt.push {s : ByteArray} {k i : Nat} {ws : List (Nat × Nat)} {fr : Option Nat} {note : Bool} (h : RSt s k i ws fr note) (he : i = s.size ∨ (i < s.size ∧ byteAt s i = 10)) (hne : ws ++ flush fr i ≠ []) : (LL s).getD k [] = ws ++ flush fr i ∧ RSt s (k + 1) (i + 1) [] none false := by
  have hr := h.r
  have e1 : rm s i note fr = (flush fr i, conz (rm s (i + 1) false none)) := rem_eol he note fr
  rw [e1] at hr
  have hc : conz (ws ++ flush fr i, conz (rm s (i + 1) false none)) = (ws ++ flush fr i) :: conz (rm s (i + 1) false none) := by
    cases hw : ws ++ flush fr i with
    | nil => exact absurd hw hne
    | cons x y => rfl
  rw [hc] at hr
  obtain ⟨k1, k2, k3⟩ := drop_cons hr []
  exact ⟨k2, k1, by rcases he with h | h <;> omega, by rw [k3]; rfl, fun h => (by cases h), fun f h => by cases h⟩

theorem RSt.skip {s : ByteArray} {k i : Nat} {note : Bool} (h : RSt s k i [] none note) (he : i = s.size ∨ (i < s.size ∧ byteAt s i = 10)) : RSt s k (i + 1) [] none false := by
  have hr := h.r
  have e1 : rm s i note none = (flush none i, conz (rm s (i + 1) false none)) := rem_eol he note none
  rw [e1] at hr
  exact ⟨h.kl, by rcases he with h | h <;> omega, by rw [hr]; rfl, fun h => (by cases h), fun f h => by cases h⟩

theorem RSt.sep {s : ByteArray} {k i : Nat} {ws : List (Nat × Nat)} {fr : Option Nat} {note : Bool} (h : RSt s k i ws fr note) (hi : i < s.size) (hs : isSep (byteAt s i) = true) : RSt s k (i + 1) (ws ++ flush fr i) none (note || decide (byteAt s i = 35)) := by
  have hr := h.r
  have e1 : rm s i note fr = (flush fr i ++ (rm s (i + 1) (note || decide (byteAt s i = 35)) none).1, (rm s (i + 1) (note || decide (byteAt s i = 35)) none).2) := rem_sep hi (isSep_10 hs) hs note fr
  rw [e1] at hr
  exact ⟨h.kl, by omega, by rw [hr, List.append_assoc], fun _ => rfl, fun f h => by cases h⟩

theorem RSt.note {s : ByteArray} {k i : Nat} {ws : List (Nat × Nat)} (h : RSt s k i ws none true) (hi : i < s.size) (h10 : byteAt s i ≠ 10) (hs : isSep (byteAt s i) = false) : RSt s k (i + 1) ws none true := by
  have hr := h.r
  have e1 : rm s i true none = rm s (i + 1) true none := rem_note hi h10 hs none
  rw [e1] at hr
  exact ⟨h.kl, by omega, hr, fun _ => rfl, fun f h => by cases h⟩

theorem RSt.letter {s : ByteArray} {k i : Nat} {ws : List (Nat × Nat)} {fr : Option Nat} (h : RSt s k i ws fr false) (hi : i < s.size) (h10 : byteAt s i ≠ 10) (hs : isSep (byteAt s i) = false) : RSt s k (i + 1) ws (some (fr.getD i)) false := by
  have hr := h.r
  have e1 : rm s i false fr = rm s (i + 1) false (some (fr.getD i)) := rem_word hi h10 hs fr
  rw [e1] at hr
  refine ⟨h.kl, by omega, hr, fun h => (by cases h), fun f hf => ?_⟩
  cases fr with
  | none => simp at hf; omega
  | some g => have := h.fl g rfl; simp at hf; omega

/-- What the document's own Lines leaves. -/
def RLines (s : ByteArray) (w : World) (sl : Sl) : Prop :=
  sl.n = (LL s).length ∧ ∃ f : Nat → Sl, Row 1 SAt w sl f ∧ ∀ i, i < sl.n → ElW s (LL s) w i (f i)

theorem RSt.fin {s : ByteArray} {w wr : World} {v lv : Value} {k i : Nat} {ws : List (Nat × Nat)} {fr : Option Nat} {note : Bool} (h : RSt s k i ws fr note) (m : MSt s w wr v lv k ws) (hs : s.size ≤ 4000) (hi : s.size < i) (hw : ws = []) (hf : fr = none) : ∃ sl : Sl, v = slv sl ∧ LinesAt s wr sl := by
  subst hw hf
  have hr := h.r
  rw [show rm s i note none = ([], []) from rem_end (by omega) _ _] at hr
  have hk : k = (LL s).length := by
    have := h.kl
    have h2 := congrArg List.length hr
    simp [conz] at h2
    omega
  have hsm := h.small
  obtain ⟨wl, t, g, b1, b2, own⟩ := m
  obtain ⟨sl, rfl⟩ : ∃ sl : Sl, v = slv sl := by
    rcases g.own.2 with ⟨rfl, _⟩ | ⟨g3, cap, cur, rfl, _⟩
    · exact ⟨⟨none, 0, 0⟩, rfl⟩
    · exact ⟨⟨some ⟨g3, 0, none⟩, k, cap⟩, rfl⟩
  obtain ⟨hn, hrow⟩ := grow_row (p := SAt) (f := t) g (by omega) (fun _ _ => rfl) (fun g i hi hc => by have := hc 0 (by omega); simpa [csL, SAt] using this)
  have : LinesAt s wl sl := ⟨by rw [hn, hk], t, hrow, fun i hi => g.el i (by omega)⟩
  exact ⟨sl, rfl, this.on b2⟩

end Go.Proofs.YtlakhndnoaoheaaDoor.Lx
