/-
  lex: what a row of words is; strings.Clone; wordsBetween.
-/
import Derived.Test.YtlakhndnoaoheaaDoorLxB
import Derived.Test.YtlakhndnoaoheaaDoorLxS
import Derived.Shelf.Strconv.Clone
namespace Go.Proofs.YtlakhndnoaoheaaDoor.Lx
open Go.RowKit Go.Shelf

set_option linter.unusedVariables false

theorem clone_any (t : ByteArray) (w : World) (h : t.size ≤ 281474976710656) :
    Calls Tryd.prog 21 #[.string t] w fun e w' => e = .returned (.string t) ∧ Below w.heap.size w w' := by
  go_enter Tryd.func21, Tryd.ntmps21
  go_wp2_with (go_at_call 25; refine (Any.stringslite_Clone lays316 t _ h).mono ?_; rintro e w' ⟨rfl, hb⟩)
  go_ret
  exact ⟨rfl, hb⟩

def wdc (s : ByteArray) (x : Nat × Nat) : List Value := [.string (s.extract x.1 x.2), .int .i64 x.1]

structure WAt (s : ByteArray) (w : World) (b o : Nat) (x : Nat × Nat) : Prop where
  c0 : w.cell? ⟨b, o, none⟩ = some (.string (s.extract x.1 x.2))
  c1 : w.cell? ⟨b, o + 1, none⟩ = some (.int .i64 x.1)

theorem WAt.on {s : ByteArray} {w w' : World} {b o : Nat} {x : Nat × Nat} (hb : Below w.heap.size w w') (h : WAt s w b o x) : WAt s w' b o x := ⟨cell_on hb h.c0, cell_on hb h.c1⟩

def SAt (w : World) (b o : Nat) (t : Sl) : Prop := w.cell? ⟨b, o, none⟩ = some (slv t)

def ElW (s : ByteArray) (L : List (List (Nat × Nat))) (w : World) (i : Nat) (t : Sl) : Prop := t.n = (L.getD i []).length ∧ Row 2 (WAt s) w t (fun k => (L.getD i []).getD k (0, 0))

def blkOf (t : Sl) : Nat := match t.a with | some a => a.block | none => 0

theorem blkOf_eq {t : Sl} {b o : Nat} (h : t.a = some ⟨b, o, none⟩) : blkOf t = b := by unfold blkOf; rw [h]

def FpS (t : Sl) (b : Nat) : Prop := 0 < t.n ∧ b = blkOf t

theorem elW_stable (s : ByteArray) (L : List (List (Nat × Nat))) : Stable (ElW s L) FpS := fun w w' i t h hz hb => by
  refine ⟨h.1, h.2.1, h.2.2.1, h.2.2.2.1, fun h0 => ?_⟩
  obtain ⟨b, off, ha, hc⟩ := h.2.2.2.2 h0
  refine ⟨b, off, ha, fun k hk => ?_⟩
  have hlt : b < w.heap.size := World.block_lt_of_cell? w _ (hc k hk).c0
  have e := hb b ⟨h0, (blkOf_eq ha).symm⟩ hlt
  exact ⟨by rw [World.cell?_of_block (w := w) e]; exact (hc k hk).c0, by rw [World.cell?_of_block (w := w) e]; exact (hc k hk).c1⟩

theorem flatMap_at {α β : Type} {f : α → List β} {z : Nat} (h : ∀ a, (f a).length = z) : ∀ (l : List α) (i r : Nat) (hi : i < l.length), r < z → (l.flatMap f)[i * z + r]? = (f l[i])[r]?
  | [], i, r, hi, _ => absurd hi (by simp)
  | a :: l, 0, r, _, hr => by
    rw [List.flatMap_cons, List.getElem?_append_left (by rw [h]; omega)]; simp
  | a :: l, i + 1, r, hi, hr => by
    rw [List.flatMap_cons, List.getElem?_append_right (by rw [h, Nat.succ_mul]; omega), h, show (i + 1) * z + r - z = i * z + r by rw [Nat.succ_mul]; omega, flatMap_at h l i r (by simpa using hi) hr]
    simp

theorem wdc_length (s : ByteArray) (x : Nat × Nat) : (wdc s x).length = 2 := rfl

theorem words_row {w : World} {base : Nat} {v : Value} {ws : List (Nat × Nat)} {s : ByteArray} (h : w.ownsRow base 35 2 v ws.length (ws.flatMap (wdc s))) (hn : ws.length ≤ 5000) :
    ∃ t : Sl, v = slv t ∧ t.n = ws.length ∧ Row 2 (WAt s) w t (fun k => ws.getD k (0, 0)) ∧ ∀ b, FpS t b → base ≤ b ∧ b < w.heap.size := by
  have hh := h
  rcases h.2 with ⟨rfl, e⟩ | ⟨g, cap, cur, rfl, hb, hg, hnc, hm, hs, ht⟩
  · rw [e]
    exact ⟨⟨none, 0, 0⟩, rfl, rfl, ⟨Nat.le_refl _, Nat.zero_le _, fun _ => rfl, fun h => absurd h (by simp)⟩, fun b h => absurd h.1 (by simp)⟩
  · refine ⟨⟨some ⟨g, 0, none⟩, ws.length, cap⟩, rfl, rfl, ⟨hnc, by show ws.length ≤ _; omega, fun e => by simp at e, fun h0 => ⟨g, 0, rfl, fun i hi => ?_⟩⟩, fun b h => ⟨by rw [h.2]; exact hb, by rw [h.2]; exact (Array.getElem?_eq_some_iff.1 hg).1⟩⟩
    simp only at hi
    have hx : ∀ r, r < 2 → w.cell? ⟨g, i * 2 + r, none⟩ = (wdc s ws[i])[r]? := fun r hr => by
      rw [hh.cellAt (i * 2 + r) (by omega), flatMap_at (wdc_length s) ws i r hi hr]
    have e : ws.getD i (0, 0) = ws[i] := by simp [List.getD, hi]
    rw [Nat.zero_add]
    show WAt s w g (i * 2) (ws.getD i (0, 0))
    rw [e]
    exact ⟨by have := hx 0 (by omega); simpa [wdc] using this, by have := hx 1 (by omega); simpa [wdc] using this⟩

theorem owns_on {w w' : World} {base : Nat} {e : TypeId} {size : Nat} {v : Value} {n : Nat} {xs : List Value} (hb : Below w.heap.size w w') (h : w.ownsRow base e size v n xs) : w'.ownsRow base e size v n xs := by
  refine ⟨h.1, ?_⟩
  rcases h.2 with h | ⟨g, cap, cur, h1, h2, h3, h4⟩
  · exact .inl h
  · exact .inr ⟨g, cap, cur, h1, h2, by rw [hb.block g (Array.getElem?_eq_some_iff.1 h3).1]; exact h3, h4⟩

/-- One thing of z cells appended to a row of the call's own. -/
theorem append_gen {ops : Array Oper} {rest : List Oper} {o : Oper} {a : Act} {Q : Exit → Act → World → Prop} {w : World} {T sT z bytes : Nat} {zero : Value} (hT : Tryd.prog.underlying sT = some (.slice T)) (hI : (Tryd.prog.info? T).map (fun i => (i.zero, i.size, i.bytes)) = some (some zero, z, bytes)) (hzs : zero.cells.size = z) (hz : 0 < z) (hb : bytes ≤ 1000)
    (hgd : o.guard = none) (s x : Operand) (ho : o.op = .call { callee := .builtin .append, args := #[s, x], argTypes := #[sT, sT] })
    (base : Nat) (v : Value) (k : Nat) (xs : List Value) (hs : a.eval s = v) (hown : w.ownsRow base T z v k xs) (hx : a.eval x = .slice (some ⟨w.heap.size, 0, none⟩) 1 1)
    (cs : Array Value) (hc : cs.toList.length = z) (h1 : ∀ u ∈ cs.toList, u.oneCell' = true) (hk : k ≤ 5000) (hbase : base ≤ w.heap.size)
    (h : ∀ v' w', w'.ownsRow base T z v' (k + 1) (xs ++ cs.toList) → (w.alloc (.cells cs T)).grownBy w' v.ownBlock → (v'.ownBlock = v.ownBlock ∨ v'.ownBlock = some (w.heap.size + 1)) → wpList Tryd.prog ops Q rest (a.put o.dst v') w') : wpList Tryd.prog ops Q (o :: rest) a (w.alloc (.cells cs T)) := by
  obtain ⟨i0, hi, hz0, hz1, hz2⟩ := info_parts hI
  have hle : (k + 1) * bytes ≤ 5001 * 1000 := Nat.mul_le_mul (by omega) hb
  refine wpList_append_own_at _ hgd s x sT ho base T i0 zero z bytes hT hi hz0 hz1 hz2 hzs hz v k xs hs (hown.alloc _) ⟨w.heap.size, 0, none⟩ 1 1 cs.toList hx (by rw [hc, Nat.one_mul]) (cells_new _ _ _) h1 (by simp only [maxLen]; omega) (by omega) (by simp; omega) ?_
  intro v' w' q1 q2 _ q4
  exact h v' w' q1 q2 (by simpa using q4)

theorem infoWord : (Tryd.prog.info? 35).map (fun i => (i.zero, i.size, i.bytes)) = some (some (.agg #[.string ByteArray.empty, .int .i64 0]), 2, 24) := by kernel_rfl
theorem undWords : Tryd.prog.underlying 30 = some (.slice 35) := by kernel_rfl
theorem undLines : Tryd.prog.underlying 23 = some (.slice 32) := by kernel_rfl
theorem infoLine : (Tryd.prog.info? 32).map (fun i => (i.zero, i.size, i.bytes)) = some (some (.agg #[.slice none 0 0]), 1, 24) := by kernel_rfl
theorem sizeWord : (Tryd.prog.info? 35).map (fun i => i.size) = some 2 := by kernel_rfl
theorem sizeLine : (Tryd.prog.info? 32).map (fun i => i.size) = some 1 := by kernel_rfl

abbrev bts (s : ByteArray) : Nat → Int := byteAt s

def WordsIs (s : ByteArray) (i end_ : Nat) (w : World) (e : Ending) (w' : World) : Prop :=
  ∃ ws v, e = .returned v ∧ w'.ownsRow w.heap.size 35 2 v ws.length (ws.flatMap (wdc s)) ∧ rem (bts s) s.size i false none = (ws, conz (rem (bts s) s.size (end_ + 1) false none)) ∧ Below w.heap.size w w'

/-- What holds between the steps. -/
structure WSt (s : ByteArray) (i end_ : Nat) (w wr : World) (v : Value) (k : Nat) (ws : List (Nat × Nat)) : Prop where
  ge : i ≤ k
  le : k ≤ end_
  own : wr.ownsRow w.heap.size 35 2 v ws.length (ws.flatMap (wdc s))
  low : Below w.heap.size w wr
  r1 : (rem (bts s) s.size i false none).1 = ws ++ (rem (bts s) s.size k false none).1
  r2 : (rem (bts s) s.size i false none).2 = (rem (bts s) s.size k false none).2

theorem WSt.small {s : ByteArray} {i end_ : Nat} {w wr : World} {v : Value} {k : Nat} {ws : List (Nat × Nat)} (h : WSt s i end_ w wr v k ws) : ws.length ≤ s.size := by
  have := rem_words (bts s) s.size (s.size - i) i rfl false
  rw [h.r1, List.length_append] at this
  omega

theorem WSt.fin {s : ByteArray} {i end_ : Nat} {w wr : World} {v : Value} {k : Nat} {ws : List (Nat × Nat)} (h : WSt s i end_ w wr v k ws) (e : rem (bts s) s.size k false none = ([], conz (rem (bts s) s.size (end_ + 1) false none))) : WordsIs s i end_ w (.returned v) wr :=
  ⟨ws, v, rfl, h.own, Prod.ext (by rw [h.r1, e]; simp) (by rw [h.r2, e]), h.low⟩

end Go.Proofs.YtlakhndnoaoheaaDoor.Lx
