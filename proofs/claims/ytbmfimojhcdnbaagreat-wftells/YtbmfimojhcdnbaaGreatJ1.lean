/-
  Copy, CopyF: laid together.
-/
import Derived.Test.YtbmfimojhcdnbaaGreatJ0
import Derived.Deep.AppendLies
import Derived.Laws.AppendOwnNone
/-
  Copies in new memory: what ir.copyList, copyIns, copyEach, copyBlock, copyFunc make.
-/
namespace Go.Proofs.YtbmfimojhcdnbaaGreat.Copy
open Go.RowKit View Rd

set_option linter.unusedVariables false

theorem info3 : (Tryz.prog.info? 3).map (fun i => (i.zero, i.size, i.bytes)) = some (some (.int .i64 0), 1, 8) := by kernel_rfl

/-- The numbers of a row, as a list. -/
def row (f : Nat → Int) (n : Nat) : List Int := (List.range n).map f

theorem row_length (f : Nat → Int) (n : Nat) : (row f n).length = n := by simp [row]

theorem row_cells {w : World} {ad : Addr} {n c : Nat} {f : Nat → Int} (h : Ints w ⟨some ad, n, c⟩ f) : ∀ j u, ((row f n).map (Value.int .i64))[j]? = some u → w.cell? (ad.add j) = some u := by
  intro j u hu
  have hj : j < n := by have := (List.getElem?_eq_some_iff.1 hu).1; simpa [row] using this
  obtain ⟨b, off, hab, hc⟩ := h.2.2.2 (by show 0 < n; omega)
  obtain rfl := Option.some.inj hab
  rw [Addr.add_lit, hc j hj, ← hu]
  simp [row, hj]

/-- What a row that was built by append is, as a slice of numbers. -/
theorem ints_of_owns {w : World} {base : Nat} {v : Value} {n : Nat} {xs : List Int} (h : w.ownsRow base 3 1 v n (xs.map (Value.int .i64))) (hn : n ≤ 1000000) :
    ∃ s : Sl, v = .slice s.a s.n s.c ∧ s.n = n ∧ Ints w s (fun i => xs.getD i 0) ∧ Mine base w.heap.size w s := by
  obtain ⟨hlen, h⟩ := h
  simp at hlen
  rcases h with ⟨rfl, rfl⟩ | ⟨g, cap, cur, rfl, hb, hg, hnc, hm, hs, ht⟩
  · exact ⟨⟨none, 0, 0⟩, rfl, rfl, ⟨Nat.le_refl _, Nat.zero_le _, fun _ => rfl, fun h => absurd h (by simp)⟩, fun h => absurd h (by simp)⟩
  · have hlt : g < w.heap.size := (Array.getElem?_eq_some_iff.1 hg).1
    refine ⟨⟨some ⟨g, 0, none⟩, n, cap⟩, rfl, rfl, ⟨hnc, by show n ≤ _; omega, fun h => by simp at h, fun h0 => ⟨g, 0, rfl, fun i hi => ?_⟩⟩, fun h0 => ⟨g, rfl, hb, hlt, fun i => ?_⟩⟩
    · rw [Nat.zero_add, cell_of_row w g i cur 3 (0, 0) hg]
      have h1 : (cur.toList.take (n * 1))[i]? = (xs.map (Value.int .i64))[i]? := by rw [ht]
      rw [List.getElem?_take, if_pos (by simpa using hi)] at h1
      simp at h1
      rw [h1]
      have : i < xs.length := by rw [hlen]; exact hi
      simp [List.getD, this]
    · simp [World.frozen?, hg]

/-- Numbers that came in, appended to a row of the call's own. -/
theorem append_in {ops : Array Oper} {rest : List Oper} {o : Oper} {a : Act} {Q : Exit → Act → World → Prop} {w : World} (hgd : o.guard = none) (s x : Operand)
    (ho : o.op = .call { callee := .builtin .append, args := #[s, x], argTypes := #[40, 40] })
    (base : Nat) (v : Value) (n : Nat) (xs : List Int) (hs : a.eval s = v) (hown : w.ownsRow base 3 1 v n (xs.map (Value.int .i64)))
    (sl : Sl) (f : Nat → Int) (hx : a.eval x = .slice sl.a sl.n sl.c) (hin : Ints w sl f)
    (hsm : n + sl.n ≤ 1000000) (hbase : base ≤ w.heap.size)
    (h : ∀ v' w', w'.ownsRow base 3 1 v' (n + sl.n) ((xs ++ row f sl.n).map (Value.int .i64)) → w.grownBy w' v.ownBlock → wpList Tryz.prog ops Q rest (a.put o.dst v') w') : wpList Tryz.prog ops Q (o :: rest) a w := by
  obtain ⟨i0, hi, hz0, hz1, hz2⟩ := info_parts info3
  obtain ⟨ao, m, c⟩ := sl
  cases ao with
  | some ad =>
    refine wpList_append_own w hgd s x 40 ho base 3 i0 (.int .i64 0) 1 8 underlying40 hi hz0 hz1 hz2 rfl (by decide) v n _ hs hown ad m c ((row f m).map (Value.int .i64)) hx (by simp [row_length]) (row_cells hin) (ints_oneCell _ _) (by simp only [maxLen] at *; omega) (by simp only at *; omega) hbase ?_
    intro v' w' h1 h2 _
    exact h v' w' (by rw [List.map_append]; exact h1) h2
  | none =>
    have hc0 := hin.2.2.1 rfl
    have hm0 := hin.1
    simp only at hc0 hm0
    subst hc0
    obtain rfl : m = 0 := by omega
    exact wpList_append_own_none hgd s x 40 ho base 3 i0 1 underlying40 hi v n _ hs hown hx (h v w (by simpa [row] using hown) (World.grownBy.refl _ _))

theorem getD_row (f : Nat → Int) (n i : Nat) (hi : i < n) : (row f n).getD i 0 = f i := by
  simp [row, List.getD, hi]

/-- An instruction's copy: its rows are new, the second behind the first. -/
structure Twin (base top : Nat) (w : World) (sa si : Sl) (v : IV) (a j : Nat → Int) : Prop where
  an : sa.n = v.args.n
  jn : si.n = v.into.n
  args : Ints w sa a
  into : Ints w si j
  ma : Mine base top w sa
  mj : Mine base top w si
  ord : ∀ g g', sa.a = some ⟨g, 0, none⟩ → si.a = some ⟨g', 0, none⟩ → 0 < sa.n → 0 < si.n → g < g'

theorem Twin.on {base top : Nat} {w w' : World} {sa si : Sl} {v : IV} {a j : Nat → Int} (hb : Below w.heap.size w w') (ht : top ≤ w.heap.size) (h : Twin base top w sa si v a j) : Twin base top w' sa si v a j :=
  ⟨h.an, h.jn, h.args.on hb, h.into.on hb, h.ma.on hb ht, h.mj.on hb ht, h.ord⟩

theorem Twin.kept {p : Nat → Prop} {base top : Nat} {w w' : World} {sa si : Sl} {v : IV} {a j : Nat → Int} (h : Twin base top w sa si v a j) (k : Kept p w w') (hp : ∀ b, base ≤ b → b < top → p b) : Twin base top w' sa si v a j :=
  ⟨h.an, h.jn, h.args.kept' h.ma k hp, h.into.kept' h.mj k hp, h.ma.kept k hp, h.mj.kept k hp, h.ord⟩

theorem Twin.wide {base top base' top' : Nat} {w : World} {sa si : Sl} {v : IV} {a j : Nat → Int} (h : Twin base top w sa si v a j) (h1 : base' ≤ base) (h2 : top ≤ top') : Twin base' top' w sa si v a j :=
  ⟨h.an, h.jn, h.args, h.into, h.ma.wide h1 h2, h.mj.wide h1 h2, h.ord⟩

/-- The cells of the first k. -/
def flat (f : Nat → IV) : Nat → List Value
  | 0 => []
  | k + 1 => flat f k ++ (f k).cells.toList

theorem flat_length (f : Nat → IV) : ∀ k, (flat f k).length = k * 7
  | 0 => rfl
  | k + 1 => by rw [flat, List.length_append, flat_length f k]; simp; omega

theorem flat_congr {f g : Nat → IV} : ∀ {k : Nat}, (∀ t, t < k → f t = g t) → flat f k = flat g k
  | 0, _ => rfl
  | k + 1, h => by rw [flat, flat, flat_congr (fun t ht => h t (by omega)), h k (by omega)]

theorem flat_at (f : Nat → IV) : ∀ k t c, t < k → c < 7 → (flat f k)[t * 7 + c]? = (f t).cells.toList[c]?
  | 0, t, c, h, _ => by omega
  | k + 1, t, c, h, hc => by
    rw [flat]
    rcases Nat.lt_or_eq_of_le (Nat.le_of_lt_succ h) with h' | rfl
    · rw [List.getElem?_append_left (by rw [flat_length]; omega)]
      exact flat_at f k t c h' hc
    · rw [List.getElem?_append_right (by rw [flat_length]; omega), flat_length]
      congr 1; omega

/-- What a loop over a row of instructions has copied: k of n. -/
structure Rows (g k n : Nat) (w : World) (I : Nat → IV) (A J : Nat → Nat → Int) (sa si : Nat → Sl) (h : Nat → Nat) : Prop where
  own : w.ownsRow g 50 7 (.slice (some ⟨g, 0, none⟩) k n) k (flat (fun t => { I t with args := sa t, into := si t }) k)
  tw : ∀ t, t < k → Twin (h t) (h (t + 1)) w (sa t) (si t) (I t) (A t) (J t)
  up : ∀ t, t < k → h t ≤ h (t + 1)
  lo : g < h 0
  hi : h k ≤ w.heap.size

theorem Rows.inss {g k n : Nat} {w : World} {I : Nat → IV} {A J : Nat → Nat → Int} {sa si : Nat → Sl} {h : Nat → Nat} (r : Rows g k n w I A J sa si h) (hk : k ≤ 1000) (hkn : k ≤ n) :
    Inss w ⟨some ⟨g, 0, none⟩, k, n⟩ (fun t => { I t with args := sa t, into := si t }) := by
  refine ⟨hkn, by show k ≤ _; omega, fun e => by simp at e, fun h0 => ⟨g, 0, rfl, fun i hi => ?_⟩⟩
  simp only at hi
  have key : ∀ c, c < 7 → w.cell? ⟨g, 0 + i * 7 + c, none⟩ = ({ I i with args := sa i, into := si i } : IV).cells.toList[c]? := by
    intro c hc
    rw [Nat.zero_add, r.own.cellAt (i * 7 + c) (by omega), flat_at _ _ _ _ hi hc]
  exact ⟨by simpa using key 0 (by omega), key 1 (by omega), key 2 (by omega), key 3 (by omega), key 4 (by omega), key 5 (by omega), key 6 (by omega)⟩

theorem mono_le {h : Nat → Nat} {k : Nat} (up : ∀ t, t < k → h t ≤ h (t + 1)) {a b : Nat} (hb : b ≤ k) (hab : a ≤ b) : h a ≤ h b := by
  induction b with
  | zero => obtain rfl : a = 0 := by omega
            exact Nat.le_refl _
  | succ b ih =>
    rcases Nat.lt_or_eq_of_le hab with h' | rfl
    · exact Nat.le_trans (ih (by omega) (by omega)) (up b (by omega))
    · exact Nat.le_refl _

theorem Rows.step {g k n : Nat} {w : World} {I : Nat → IV} {A J : Nat → Nat → Int} {sa si : Nat → Sl} {h : Nat → Nat} {ta ti : Sl} {H0 H1 : Nat}
    (hold : ∀ t, t < k → Twin (h t) (h (t + 1)) w (sa t) (si t) (I t) (A t) (J t)) (up : ∀ t, t < k → h t ≤ h (t + 1)) (lo : g < h 0) (hk : h k ≤ H0) (h01 : H0 ≤ H1) (h1 : H1 ≤ w.heap.size)
    (hn : Twin H0 H1 w ta ti (I k) (A k) (J k))
    (own : w.ownsRow g 50 7 (.slice (some ⟨g, 0, none⟩) (k + 1) n) (k + 1) (flat (fun t => { I t with args := sa t, into := si t }) k ++ ({ I k with args := ta, into := ti } : IV).cells.toList)) :
    ∃ (sa si : Nat → Sl) (h : Nat → Nat), Rows g (k + 1) n w I A J sa si h := by
  refine ⟨fun t => if t < k then sa t else ta, fun t => if t < k then si t else ti, fun t => if t ≤ k then h t else H1, ?_, ?_, ?_, ?_, ?_⟩
  · have e : flat (fun t => { I t with args := if t < k then sa t else ta, into := if t < k then si t else ti }) (k + 1) = flat (fun t => { I t with args := sa t, into := si t }) k ++ ({ I k with args := ta, into := ti } : IV).cells.toList := by
      rw [flat, flat_congr (g := fun t => { I t with args := sa t, into := si t }) (fun t ht => by simp [ht])]
      simp
    rw [e]; exact own
  · intro t ht
    rcases Nat.lt_or_eq_of_le (Nat.le_of_lt_succ ht) with h' | rfl
    · simp only [h', if_true, Nat.le_of_lt h', show t + 1 ≤ k from h']; exact hold t h'
    · simp only [Nat.lt_irrefl, if_false, Nat.le_refl, if_true, show ¬ t + 1 ≤ t by omega]; exact hn.wide hk (Nat.le_refl _)
  · intro t ht
    rcases Nat.lt_or_eq_of_le (Nat.le_of_lt_succ ht) with h' | rfl
    · simp only [if_true, Nat.le_of_lt h', show t + 1 ≤ k from h']; exact up t h'
    · simp only [Nat.le_refl, if_true, show ¬ t + 1 ≤ t by omega, if_false]; omega
  · simp only [Nat.zero_le, if_true]; exact lo
  · simp only [show ¬ k + 1 ≤ k by omega, if_false]; exact h1

theorem info50 : (Tryz.prog.info? 50).map (fun i => (i.zero, i.size, i.bytes)) = some (some IV.zero.val, 7, 88) := by kernel_rfl

end Go.Proofs.YtbmfimojhcdnbaaGreat.Copy

/-
  Copies in new memory, of blocks and of whole functions: ir.copyBlock, copyEach at Block, copyFunc.
-/
namespace Go.Proofs.YtbmfimojhcdnbaaGreat.Copy
open Go.RowKit View Rd

set_option linter.unusedVariables false

theorem owns_kept {p : Nat → Prop} {w w' : World} {base : Nat} {e : TypeId} {size g n c : Nat} {xs : List Value} (h : w.ownsRow base e size (.slice (some ⟨g, 0, none⟩) n c) n xs) (k : Kept p w w') (hp : p g) : w'.ownsRow base e size (.slice (some ⟨g, 0, none⟩) n c) n xs := by
  refine ⟨h.1, ?_⟩
  rcases h.2 with ⟨h, _⟩ | ⟨g', cap, cur, h1, h2, h3, h4⟩
  · simp at h
  · simp at h1
    obtain ⟨rfl, rfl⟩ := h1
    exact .inr ⟨g, c, cur, rfl, h2, by rw [k.block g hp]; exact h3, h4⟩

theorem Rows.on {g k n : Nat} {w w' : World} {I : Nat → IV} {A J : Nat → Nat → Int} {sa si : Nat → Sl} {h : Nat → Nat} (hb : Below w.heap.size w w') (r : Rows g k n w I A J sa si h) : Rows g k n w' I A J sa si h :=
  ⟨owns_on hb r.own, fun t ht => (r.tw t ht).on hb (Nat.le_trans (mono_le r.up (Nat.le_refl k) (by omega : t + 1 ≤ k)) r.hi), r.up, r.lo, Nat.le_trans r.hi hb.size⟩

theorem Rows.kept {p : Nat → Prop} {g k n : Nat} {w w' : World} {I : Nat → IV} {A J : Nat → Nat → Int} {sa si : Nat → Sl} {h : Nat → Nat} (r : Rows g k n w I A J sa si h) (kp : Kept p w w') (hp : ∀ b, g ≤ b → b < h k → p b) : Rows g k n w' I A J sa si h :=
  ⟨owns_kept r.own kp (hp g (Nat.le_refl _) (by have := r.lo; have := mono_le r.up (Nat.le_refl k) (Nat.zero_le k); omega)), fun t ht => (r.tw t ht).kept kp (fun b h1 h2 => hp b (by have := r.lo; have := mono_le r.up (by omega : t ≤ k) (Nat.zero_le t); omega) (by have := mono_le r.up (Nat.le_refl k) (by omega : t + 1 ≤ k); omega)), r.up, r.lo, Nat.le_trans r.hi kp.size⟩

/-- The blocks that a loop has copied: k of n. -/
structure BRows (G k n : Nat) (w : World) (B : Nat → Sl) (I : Nat → Nat → IV) (A J : Nat → Nat → Nat → Int) (gB : Nat → Nat) (sa si : Nat → Nat → Sl) (h : Nat → Nat → Nat) (H : Nat → Nat) : Prop where
  own : w.ownsRow G 47 1 (.slice (some ⟨G, 0, none⟩) k n) k ((List.range k).map fun j => .slice (some ⟨gB j, 0, none⟩) (B j).n (B j).n)
  rows : ∀ j, j < k → Rows (gB j) (B j).n (B j).n w (I j) (A j) (J j) (sa j) (si j) (h j)
  lows : ∀ j, j < k → H j ≤ gB j
  tops : ∀ j, j < k → h j (B j).n ≤ H (j + 1)
  lo : G < H 0
  hi : H k ≤ w.heap.size

theorem Rows.le {g k n : Nat} {w : World} {I : Nat → IV} {A J : Nat → Nat → Int} {sa si : Nat → Sl} {h : Nat → Nat} (r : Rows g k n w I A J sa si h) : g < h k := by
  have := r.lo; have := mono_le r.up (Nat.le_refl k) (Nat.zero_le k); omega

theorem BRows.up {G k n : Nat} {w : World} {B : Nat → Sl} {I : Nat → Nat → IV} {A J : Nat → Nat → Nat → Int} {gB : Nat → Nat} {sa si : Nat → Nat → Sl} {h : Nat → Nat → Nat} {H : Nat → Nat} (r : BRows G k n w B I A J gB sa si h H) : ∀ j, j < k → H j ≤ H (j + 1) := fun j hj => by
  have := r.lows j hj; have := r.tops j hj; have := (r.rows j hj).le; omega

theorem BRows.step {G k n : Nat} {w : World} {B : Nat → Sl} {I : Nat → Nat → IV} {A J : Nat → Nat → Nat → Int} {gB : Nat → Nat} {sa si : Nat → Nat → Sl} {h : Nat → Nat → Nat} {H : Nat → Nat} {g : Nat} {ta ti : Nat → Sl} {t : Nat → Nat} {H1 : Nat}
    (rows : ∀ j, j < k → Rows (gB j) (B j).n (B j).n w (I j) (A j) (J j) (sa j) (si j) (h j)) (lows : ∀ j, j < k → H j ≤ gB j) (tops : ∀ j, j < k → h j (B j).n ≤ H (j + 1)) (lo : G < H 0)
    (hk : H k ≤ g) (hr : Rows g (B k).n (B k).n w (I k) (A k) (J k) ta ti t) (h1 : t (B k).n ≤ H1) (h2 : H1 ≤ w.heap.size)
    (own : w.ownsRow G 47 1 (.slice (some ⟨G, 0, none⟩) (k + 1) n) (k + 1) (((List.range k).map fun j => .slice (some ⟨gB j, 0, none⟩) (B j).n (B j).n) ++ [.slice (some ⟨g, 0, none⟩) (B k).n (B k).n])) :
    ∃ (gB : Nat → Nat) (sa si : Nat → Nat → Sl) (h : Nat → Nat → Nat) (H : Nat → Nat), BRows G (k + 1) n w B I A J gB sa si h H := by
  refine ⟨fun j => if j < k then gB j else g, fun j => if j < k then sa j else ta, fun j => if j < k then si j else ti, fun j => if j < k then h j else t, fun j => if j ≤ k then H j else H1, ?_, ?_, ?_, ?_, ?_, ?_⟩
  · have e : ((List.range (k + 1)).map fun j => Value.slice (some ⟨if j < k then gB j else g, 0, none⟩) (B j).n (B j).n) = ((List.range k).map fun j => Value.slice (some ⟨gB j, 0, none⟩) (B j).n (B j).n) ++ [.slice (some ⟨g, 0, none⟩) (B k).n (B k).n] := by
      rw [List.range_succ, List.map_append]
      congr 1
      · exact List.map_congr_left fun j hj => by simp [List.mem_range.1 hj]
      · simp
    rw [e]; exact own
  · intro j hj
    rcases Nat.lt_or_eq_of_le (Nat.le_of_lt_succ hj) with h' | rfl
    · simp only [h', if_true]; exact rows j h'
    · simp only [Nat.lt_irrefl, if_false]; exact hr
  · intro j hj
    rcases Nat.lt_or_eq_of_le (Nat.le_of_lt_succ hj) with h' | rfl
    · simp only [h', if_true, Nat.le_of_lt h']; exact lows j h'
    · simp only [Nat.lt_irrefl, if_false, Nat.le_refl, if_true]; exact hk
  · intro j hj
    rcases Nat.lt_or_eq_of_le (Nat.le_of_lt_succ hj) with h' | rfl
    · simp only [h', if_true, show j + 1 ≤ k from h']; exact tops j h'
    · simp only [Nat.lt_irrefl, if_false, show ¬ j + 1 ≤ j by omega]; exact h1
  · simp only [Nat.zero_le, if_true]; exact lo
  · simp only [show ¬ k + 1 ≤ k by omega, if_false]; exact h2

theorem info47 : (Tryz.prog.info? 47).map (fun i => (i.zero, i.size, i.bytes)) = some (some (.agg #[.slice none 0 0]), 1, 24) := by kernel_rfl

theorem BRows.on {G k n : Nat} {w w' : World} {B : Nat → Sl} {I : Nat → Nat → IV} {A J : Nat → Nat → Nat → Int} {gB : Nat → Nat} {sa si : Nat → Nat → Sl} {h : Nat → Nat → Nat} {H : Nat → Nat} (hb : Below w.heap.size w w') (r : BRows G k n w B I A J gB sa si h H) : BRows G k n w' B I A J gB sa si h H :=
  ⟨owns_on hb r.own, fun j hj => (r.rows j hj).on hb, r.lows, r.tops, r.lo, Nat.le_trans r.hi hb.size⟩

theorem BRows.kept {p : Nat → Prop} {G k n : Nat} {w w' : World} {B : Nat → Sl} {I : Nat → Nat → IV} {A J : Nat → Nat → Nat → Int} {gB : Nat → Nat} {sa si : Nat → Nat → Sl} {h : Nat → Nat → Nat} {H : Nat → Nat} (r : BRows G k n w B I A J gB sa si h H) (kp : Kept p w w') (hp : ∀ b, G ≤ b → b < w.heap.size → p b) : BRows G k n w' B I A J gB sa si h H := by
  have hG : G < w.heap.size := (r.own.lt G rfl).2
  refine ⟨owns_kept r.own kp (hp G (Nat.le_refl _) hG), fun j hj => (r.rows j hj).kept kp fun b h1 h2 => ?_, r.lows, r.tops, r.lo, Nat.le_trans r.hi kp.size⟩
  have q1 := r.lo
  have q2 := mono_le r.up (show j ≤ k by omega) (Nat.zero_le j)
  have q3 := r.lows j hj
  have q4 := (r.rows j hj).hi
  exact hp b (by omega) (by omega)

/-- A function's five cells at the head of a block. -/
structure FuncAt (w : World) (b : Nat) (F : FV) : Prop where
  c0 : w.cell? ⟨b, 0, none⟩ = some (.string F.name)
  c1 : w.cell? ⟨b, 1, none⟩ = some (.bool F.out)
  c2 : w.cell? ⟨b, 2, none⟩ = some (.slice F.par.a F.par.n F.par.c)
  c3 : w.cell? ⟨b, 3, none⟩ = some (.int .i64 F.res)
  c4 : w.cell? ⟨b, 4, none⟩ = some (.slice F.blk.a F.blk.n F.blk.c)

abbrev fcells (F : FV) : Array Value := #[.string F.name, .bool F.out, .slice F.par.a F.par.n F.par.c, .int .i64 F.res, .slice F.blk.a F.blk.n F.blk.c]

theorem FuncAt.alloc (w : World) (F : FV) : FuncAt (w.alloc (.cells (fcells F) 43)) w.heap.size F := ⟨by simp, by simp, by simp, by simp, by simp⟩
theorem FuncAt.on {w w' : World} {b : Nat} {F : FV} (hb : Below w.heap.size w w') (h : FuncAt w b F) : FuncAt w' b F :=
  ⟨cell_on hb h.c0, cell_on hb h.c1, cell_on hb h.c2, cell_on hb h.c3, cell_on hb h.c4⟩
theorem FuncAt.kept {p : Nat → Prop} {w w' : World} {b : Nat} {F : FV} (h : FuncAt w b F) (k : Kept p w w') (hp : p b) : FuncAt w' b F :=
  ⟨cell_kept k hp h.c0, cell_kept k hp h.c1, cell_kept k hp h.c2, cell_kept k hp h.c3, cell_kept k hp h.c4⟩
theorem FuncAt.set2 {w : World} {b : Nat} {F : FV} (h : FuncAt w b F) (s : Sl) : FuncAt (w.setCell ⟨b, 2, none⟩ (.slice s.a s.n s.c)) b { F with par := s } :=
  ⟨cell_other (ne_off (by omega)) h.c0, cell_other (ne_off (by omega)) h.c1, cell_same h.c2, cell_other (ne_off (by omega)) h.c3, cell_other (ne_off (by omega)) h.c4⟩

abbrev fzero : FV := ⟨ByteArray.empty, false, ⟨none, 0, 0⟩, 0, ⟨none, 0, 0⟩, fun _ => 0, fun _ => ⟨none, 0, 0⟩, fun _ _ => IV.zero, fun _ _ _ => 0, fun _ _ _ => 0⟩

/-- The copy of a function. -/
abbrev twin (F : FV) (sp : Sl) (G : Nat) (gB : Nat → Nat) (sa si : Nat → Nat → Sl) : FV :=
  { F with par := sp, blk := ⟨some ⟨G, 0, none⟩, F.blk.n, F.blk.n⟩, B := fun j => ⟨some ⟨gB j, 0, none⟩, (F.B j).n, (F.B j).n⟩, I := fun j k => { F.I j k with args := sa j k, into := si j k } }

/-- A copy is handed back. -/
def Copied (F : FV) (w : World) (e : Ending) (w' : World) : Prop := ∃ (sp : Sl) (G : Nat) (gB : Nat → Nat) (sa si : Nat → Nat → Sl) (h : Nat → Nat → Nat) (H : Nat → Nat), e = .returned (twin F sp G gB sa si).val ∧ sp.n = F.par.n ∧ Ints w' sp F.P ∧ Mine w.heap.size G w' sp ∧ BRows G F.blk.n F.blk.n w' F.B F.I F.A F.J gB sa si h H ∧ w.heap.size ≤ G ∧ Below w.heap.size w w'

end Go.Proofs.YtbmfimojhcdnbaaGreat.Copy
