/-
  Depth first: flow.Order: how its lists lie in memory.
-/
import Derived.Test.YtbmfimojhcdnbaaFloR
import Derived.Deep.LoopGhost
namespace Go.Proofs.Ytbmfimojhcdnbaa.Flo
open Go.RowKit View Rd Copy Num Ty Srt

set_option linter.unusedVariables false

/-- A block that the way is in, its untried ones as they lie, and what they are. -/
structure Ent where
  b : Nat
  s : Sl
  l : List Nat

def flatW (W : List Ent) : List Value := W.flatMap (fun e => [.int .i64 e.b, Sl.val e.s])
abbrev wy (W : List Ent) : List (Nat × List Nat) := W.map (fun e => (e.b, e.l))

theorem flatW_snoc (W : List Ent) (e : Ent) : flatW (W ++ [e]) = flatW W ++ [.int .i64 e.b, Sl.val e.s] := by simp [flatW]
theorem flatW_length (W : List Ent) : (flatW W).length = W.length * 2 := by
  induction W with
  | nil => rfl
  | cons e W ih => simp [flatW] at *; omega

structure EntOk (n : Nat) (wr : World) (A0 : Nat) (D V : Option Nat) (e : Ent) : Prop where
  bn : e.b < n
  len : e.s.n = e.l.length
  ints : Ints wr e.s (fun i => ((e.l.getD i 0 : Nat) : Int))
  lt : ∀ x ∈ e.l, x < n
  far : 0 < e.s.n → ∃ g o, e.s.a = some ⟨g, o, none⟩ ∧ A0 + 2 ≤ g ∧ g < wr.heap.size ∧ some g ≠ D ∧ some g ≠ V

theorem EntOk.to {n : Nat} {wr w' : World} {A0 : Nat} {D V D' V' : Option Nat} {e : Ent} (h : EntOk n wr A0 D V e) (hz : wr.heap.size ≤ w'.heap.size)
    (hb : ∀ g, A0 + 2 ≤ g → g < wr.heap.size → some g ≠ D → some g ≠ V → w'.heap[g]? = wr.heap[g]? ∧ some g ≠ D' ∧ some g ≠ V') : EntOk n w' A0 D' V' e := by
  refine ⟨h.bn, h.len, ?_, h.lt, fun h0 => ?_⟩
  · by_cases h0 : 0 < e.s.n
    · obtain ⟨g, o, ha, h1, h2, h3, h4⟩ := h.far h0
      refine h.ints.kept (p := fun k => k = g) ⟨hz, fun k hk => by subst hk; exact (hb _ h1 h2 h3 h4).1⟩ (fun b off e' _ => ?_)
      rw [ha] at e'; simp at e'; exact e'.1.symm
    · exact ⟨h.ints.1, h.ints.2.1, h.ints.2.2.1, fun h => absurd h h0⟩
  · obtain ⟨g, o, ha, h1, h2, h3, h4⟩ := h.far h0
    exact ⟨g, o, ha, h1, by omega, (hb g h1 h2 h3 h4).2.1, (hb g h1 h2 h3 h4).2.2⟩

/-- The lists of Order in memory. -/
structure OrdM (F : FV) (A0 : Nat) (dv wv : Value) (wr : World) (d : List Nat) (m : Nat → Bool) (W : List Ent) : Prop where
  dn : wr.ownsRow (A0 + 2) 3 1 dv (ints d).length ((ints d).map (Value.int .i64))
  wy : wr.ownsRow (A0 + 2) 77 2 wv W.length (flatW W)
  mt : wr.rowIs (A0 + 1) 4 F.blk.n (fun i => .bool (m i))
  fa : FuncAt wr A0 F
  en : ∀ e ∈ W, EntOk F.blk.n wr A0 dv.ownBlock wv.ownBlock e
  nn : ∃ g cap, wv = .slice (some ⟨g, 0, none⟩) W.length cap

theorem kinds {w : World} {base base' z z' n n' : Nat} {v v' : Value} {xs xs' : List Value} (h : w.ownsRow base 3 z v n xs) (h' : w.ownsRow base' 77 z' v' n' xs') : ∀ g, v.ownBlock = some g → v'.ownBlock ≠ some g := by
  intro g e e'
  rcases h.2 with ⟨rfl, _⟩ | ⟨g1, cap, cur, rfl, _, hg, _⟩
  · simp [Value.ownBlock] at e
  · rcases h'.2 with ⟨rfl, _⟩ | ⟨g2, cap2, cur2, rfl, _, hg2, _⟩
    · simp [Value.ownBlock] at e'
    · simp [Value.ownBlock] at e e'
      subst e
      subst e'
      rw [hg] at hg2
      simp at hg2

variable {F : FV} {A0 : Nat} {dv wv : Value} {wr : World} {d : List Nat} {m : Nat → Bool} {W : List Ent}

theorem OrdM.on (h : OrdM F A0 dv wv wr d m W) {w' : World} (hb : Below wr.heap.size wr w') : OrdM F A0 dv wv w' d m W :=
  ⟨owns_on hb h.dn, owns_on hb h.wy, h.mt.of_block (hb.block _ h.mt.lt), h.fa.on hb, fun e he => (h.en e he).to hb.size (fun g _ h2 h3 h4 => ⟨hb.block g h2, h3, h4⟩), h.nn⟩

theorem OrdM.alloc (h : OrdM F A0 dv wv wr d m W) (o : Obj) : OrdM F A0 dv wv (wr.alloc o) d m W := h.on (new (same _) o)

/-- One is met. -/
theorem OrdM.meet (h : OrdM F A0 dv wv wr d m W) (t : Nat) : OrdM F A0 dv wv (wr.setCell ⟨A0 + 1, t, none⟩ (.bool true)) d (upd m t) W := by
  have hb : ∀ g, A0 + 2 ≤ g → (wr.setCell ⟨A0 + 1, t, none⟩ (.bool true)).heap[g]? = wr.heap[g]? := fun g hg => Below.heap_setCell _ _ _ _ (by show g ≠ A0 + 1; omega)
  refine ⟨owns_at h.dn (fun g hg _ => hb g (h.dn.lt g hg).1), owns_at h.wy (fun g hg _ => hb g (h.wy.lt g hg).1), (h.mt.set t (.bool true)).congr (fun i hi => by unfold upd; split <;> rfl), h.fa.kept ((Kept.refl (fun k => k ≠ A0 + 1) wr).setCell (fun h => h rfl) _) (by show _ ≠ _; omega), fun e he => (h.en e he).to (by simp) (fun g h1 _ h3 h4 => ⟨hb g h1, h3, h4⟩), h.nn⟩

/-- The top one is done. -/
theorem OrdM.pop {e : Ent} (h : OrdM F A0 dv wv wr d m (W ++ [e])) {g cap : Nat} (hv : wv = .slice (some ⟨g, 0, none⟩) (W ++ [e]).length cap) {w2 : World} {dv' : Value}
    (hown : w2.ownsRow (A0 + 2) 3 1 dv' (ints d ++ [(e.b : Int)]).length ((ints d ++ [(e.b : Int)]).map (Value.int .i64))) (hg : (wr.alloc (.cells #[.int .i64 e.b] 3)).grownBy w2 dv.ownBlock)
    (hat : dv'.ownBlock = dv.ownBlock ∨ dv'.ownBlock = some (wr.heap.size + 1)) : OrdM F A0 dv' (.slice (some ⟨g, 0, none⟩) W.length cap) w2 (d ++ [e.b]) m W := by
  have hsz := hg.size
  simp only [World.size_alloc] at hsz
  have hb : ∀ k, k < wr.heap.size → some k ≠ dv.ownBlock → w2.heap[k]? = wr.heap[k]? := fun k hk hne => by
    rw [hg.block k (by simp; omega) hne, Below.heap_alloc _ _ _ hk]
  have hw : w2.ownsRow (A0 + 2) 77 2 wv (W ++ [e]).length (flatW (W ++ [e])) := owns_at h.wy (fun k hk hlt => hb k hlt (fun e' => kinds h.dn h.wy k e'.symm hk))
  have hlow : ∀ k, k = A0 + 1 ∨ k = A0 → some k ≠ dv.ownBlock := fun k hk e' => by have := (h.dn.lt k e'.symm).1; omega
  refine ⟨?_, ?_, h.mt.of_block (hb _ h.mt.lt (hlow _ (.inl rfl))), h.fa.kept (p := fun k => k = A0) ⟨by omega, fun k hk => by subst hk; exact hb _ (World.block_lt_of_cell? _ _ h.fa.c0) (hlow _ (.inr rfl))⟩ rfl, fun x hx => (h.en x (by simp [hx])).to (by omega) (fun k h1 h2 h3 h4 => ⟨hb k h2 h3, ?_, ?_⟩), ⟨g, cap, rfl⟩⟩
  · have e2 : ints (d ++ [e.b]) = ints d ++ [(e.b : Int)] := by simp [ints]
    rw [e2]; exact hown
  · rw [hv, flatW_snoc, List.length_append] at hw
    exact ownsRow_pop (flatW_length W) hw
  · rcases hat with h' | h'
    · rw [h']; exact h3
    · rw [h']; intro e'; have := Option.some.inj e'; omega
  · rw [hv] at h4
    exact h4

/-- What is left behind the first. -/
def tl (s : Sl) : Sl := ⟨if s.c = 1 then s.a else s.a.map (fun a => a.add 1), s.n - 1, s.c - 1⟩

theorem tl_run {w : World} {s : Sl} {f : Nat → Int} (h : Ints w s f) (h0 : 0 < s.n) : ∀ wx, (Instr.slice 28 (.slice s.a s.n s.c) (some (.int .i64 1)) none none).run Try.prog wx = .ok (.slice (tl s).a (tl s).n (tl s).c) wx := by
  intro wx
  have he : Try.prog.elem 28 = 3 := by unfold Program.elem; rw [underlying28]
  obtain ⟨i, hi, hi'⟩ := Option.map_eq_some_iff.1 size3
  have hr := run_slice_l (P := Try.prog) wx 28 s.a s.n s.c (by rw [he]; exact underlying28) .i64 1 (by omega) (by omega)
  rw [he] at hr
  rw [hr]
  simp [sizeOf, typeInfo, hi, hi', sliced, tl]

theorem tl_ints {w : World} {s : Sl} {x : Nat} {l : List Nat} (h : Ints w s (fun i => (((x :: l).getD i 0 : Nat) : Int))) (hn : s.n = (x :: l).length) : Ints w (tl s) (fun i => ((l.getD i 0 : Nat) : Int)) := by
  simp only [List.length_cons] at hn
  obtain ⟨b, off, ha, hc⟩ := h.2.2.2 (by omega)
  have h1 := h.1
  have h2 := h.2.1
  refine ⟨by show s.n - 1 ≤ s.c - 1; omega, by show s.n - 1 ≤ _; omega, fun e => ?_, fun h0 => ?_⟩
  · unfold tl at e
    simp only [ha] at e
    split at e <;> simp at e
  · have h0' : 0 < s.n - 1 := h0
    refine ⟨b, off + 1, ?_, fun i hi => ?_⟩
    · show (if s.c = 1 then s.a else s.a.map (fun a => a.add 1)) = _
      rw [if_neg (by omega), ha]; simp [Addr.add_lit]
    · have hi' : i < s.n - 1 := hi
      have := hc (i + 1) (by omega)
      rw [show off + 1 + i = off + (i + 1) by omega, this]
      simp

theorem tl_at {s : Sl} {b off : Nat} (ha : s.a = some ⟨b, off, none⟩) : ∃ o, (tl s).a = some ⟨b, o, none⟩ := by
  unfold tl
  simp only [ha]
  split
  · exact ⟨off, rfl⟩
  · exact ⟨off + 1, by simp [Addr.add_lit]⟩

/-- The top one's first is taken. -/
theorem OrdM.shift {b x : Nat} {s : Sl} {l : List Nat} (h : OrdM F A0 dv wv wr d m (W ++ [⟨b, s, x :: l⟩])) {g cap : Nat} (hv : wv = .slice (some ⟨g, 0, none⟩) (W ++ [(⟨b, s, x :: l⟩ : Ent)]).length cap) :
    OrdM F A0 dv wv (wr.setCell ⟨g, W.length * 2 + 1, none⟩ (Sl.val (tl s))) d m (W ++ [⟨b, tl s, l⟩]) := by
  have hgl : A0 + 2 ≤ g ∧ g < wr.heap.size := h.wy.lt g (by rw [hv]; rfl)
  have hb : ∀ k, k ≠ g → (wr.setCell ⟨g, W.length * 2 + 1, none⟩ (Sl.val (tl s))).heap[k]? = wr.heap[k]? := fun k hk => Below.heap_setCell _ _ _ _ (by show k ≠ g; exact hk)
  have hV : wv.ownBlock = some g := by rw [hv]; rfl
  have hlen : (W ++ [(⟨b, tl s, l⟩ : Ent)]).length = (W ++ [(⟨b, s, x :: l⟩ : Ent)]).length := by simp
  have hto : ∀ e ∈ W ++ [(⟨b, s, x :: l⟩ : Ent)], EntOk F.blk.n (wr.setCell ⟨g, W.length * 2 + 1, none⟩ (Sl.val (tl s))) A0 dv.ownBlock wv.ownBlock e := fun e he => (h.en e he).to (by simp) (fun k h1 h2 h3 h4 => ⟨hb k (fun e' => h4 (by rw [hV, e'])), h3, h4⟩)
  refine ⟨owns_at h.dn (fun k hk _ => hb k (fun e' => kinds h.dn h.wy k hk (by rw [hV, e']))), ?_, h.mt.of_block (hb _ (by omega)), h.fa.kept (p := fun k => k = A0) ⟨by simp, fun k hk => by subst hk; exact hb _ (by omega)⟩ rfl, fun e he => ?_, ⟨g, cap, by rw [hlen]; exact hv⟩⟩
  · have hw := h.wy
    rw [hv] at hw
    have := (hw.stored (W.length * 2 + 1) (Sl.val (tl s))).1
    rw [hv, hlen]
    have e2 : (flatW (W ++ [(⟨b, s, x :: l⟩ : Ent)])).set (W.length * 2 + 1) (Sl.val (tl s)) = flatW (W ++ [(⟨b, tl s, l⟩ : Ent)]) := by
      rw [flatW_snoc, flatW_snoc, List.set_append_right _ _ (by rw [flatW_length]; omega), flatW_length]
      simp
    rw [e2] at this
    exact this
  · rcases List.mem_append.1 he with he | he
    · exact hto e (by simp [he])
    · simp at he
      subst he
      have k := hto ⟨b, s, x :: l⟩ (by simp)
      have hkl := k.len
      simp only [List.length_cons] at hkl
      refine ⟨k.bn, by show s.n - 1 = l.length; omega, tl_ints k.ints k.len, fun y hy => k.lt y (List.mem_cons_of_mem _ hy), fun h0 => ?_⟩
      obtain ⟨q, o, h1, h2⟩ := k.far (by show 0 < s.n; omega)
      obtain ⟨o', h3⟩ := tl_at h1
      exact ⟨q, o', h3, h2⟩

/-- One more on top. -/
theorem OrdM.push (h : OrdM F A0 dv wv wr d m W) {e : Ent} {w2 : World} {wv' : Value} (he : EntOk F.blk.n wr A0 dv.ownBlock wv.ownBlock e)
    (hown : w2.ownsRow (A0 + 2) 77 2 wv' (W.length + 1) (flatW W ++ [.int .i64 e.b, Sl.val e.s])) (hg : (wr.alloc (.cells #[.int .i64 e.b, Sl.val e.s] 77)).grownBy w2 wv.ownBlock)
    (hat : wv'.ownBlock = wv.ownBlock ∨ wv'.ownBlock = some (wr.heap.size + 1)) : OrdM F A0 dv wv' w2 d m (W ++ [e]) := by
  have hsz := hg.size
  simp only [World.size_alloc] at hsz
  have hb : ∀ k, k < wr.heap.size → some k ≠ wv.ownBlock → w2.heap[k]? = wr.heap[k]? := fun k hk hne => by
    rw [hg.block k (by simp; omega) hne, Below.heap_alloc _ _ _ hk]
  have hlow : ∀ k, k = A0 + 1 ∨ k = A0 → some k ≠ wv.ownBlock := fun k hk e' => by have := (h.wy.lt k e'.symm).1; omega
  have hV' : ∀ k, k < wr.heap.size → some k ≠ wv.ownBlock → some k ≠ wv'.ownBlock := fun k hk h4 => by
    rcases hat with h' | h'
    · rw [h']; exact h4
    · rw [h']; intro e'; have := Option.some.inj e'; omega
  refine ⟨owns_at h.dn (fun k hk hlt => hb k hlt (fun e' => kinds h.dn h.wy k hk e'.symm)), ?_, h.mt.of_block (hb _ h.mt.lt (hlow _ (.inl rfl))), h.fa.kept (p := fun k => k = A0) ⟨by omega, fun k hk => by subst hk; exact hb _ (World.block_lt_of_cell? _ _ h.fa.c0) (hlow _ (.inr rfl))⟩ rfl, fun x hx => ?_, ?_⟩
  · rw [flatW_snoc, List.length_append]; exact hown
  · have : EntOk F.blk.n wr A0 dv.ownBlock wv.ownBlock x := by
      rcases List.mem_append.1 hx with hx | hx
      · exact h.en x hx
      · simp at hx; rw [hx]; exact he
    exact this.to (by omega) (fun k h1 h2 h3 h4 => ⟨hb k h2 h4, h3, hV' k h2 h4⟩)
  · rcases hown.2 with ⟨_, h0⟩ | ⟨q, c, cur, hq, _⟩
    · omega
    · exact ⟨q, c, by rw [hq]; simp⟩

end Go.Proofs.Ytbmfimojhcdnbaa.Flo
