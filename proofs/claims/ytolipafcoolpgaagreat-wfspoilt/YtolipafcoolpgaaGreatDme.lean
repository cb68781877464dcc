/-
  (*dom.climb).leastOf: the least head on the way up, and the way shortened.
-/
import Derived.Test.YtolipafcoolpgaaGreatDma
import Derived.Test.YtolipafcoolpgaaGreatJ11
namespace Go.Proofs.YtolipafcoolpgaaGreat.Dm
open Go.RowKit View Rd Copy Num Ty Srt Flo Go.Proofs.YtolipafcoolpgaaGreat.Lt

set_option linter.unusedVariables false

structure CM (cb gu cu gl cl m B0 : Nat) (wr : World) (wv : Value) (W : List Nat) (u l : Nat → Nat) : Prop where
 c0 : wr.cell? ⟨cb, 0, none⟩ = some (.slice (some ⟨gu, 0, none⟩) m cu)
 c1 : wr.cell? ⟨cb, 1, none⟩ = some (.slice (some ⟨gl, 0, none⟩) m cl)
 c2 : wr.cell? ⟨cb, 2, none⟩ = some wv
 cz : ∀ i, wr.frozen? ⟨cb, i, none⟩ = false
 up : Ro wr gu m (fun x => if x = 0 then -1 else (u x : Int))
 le : Ro wr gl m (fun x => (l x : Int))
 wo : wr.ownsRow B0 3 1 wv (ints W).length ((ints W).map (Value.int .i64))
 low : cb < B0 ∧ gu < B0 ∧ gl < B0 ∧ cb ≠ gu ∧ cb ≠ gl ∧ gu ≠ gl
 sz : B0 ≤ wr.heap.size

variable {cb gu cu gl cl m B0 : Nat} {wr : World} {wv : Value} {W : List Nat} {u l : Nat → Nat}

theorem CM.on (h : CM cb gu cu gl cl m B0 wr wv W u l) {w' : World} (hb : Below wr.heap.size wr w') : CM cb gu cu gl cl m B0 w' wv W u l :=
 ⟨cell_on hb h.c0, cell_on hb h.c1, cell_on hb h.c2, fun i => by rw [hb.frozen (show cb < _ from World.block_lt_of_cell? _ _ h.c0)]; exact h.cz i, h.up.on hb, h.le.on hb, owns_on hb h.wo, h.low, Nat.le_trans h.sz hb.size⟩

theorem own_keep {w w' : World} {base e z n : Nat} {v : Value} {xs : List Value} (h : w.ownsRow base e z v n xs) (hb : ∀ k, base ≤ k → k < w.heap.size → w'.heap[k]? = w.heap[k]?) : w'.ownsRow base e z v n xs := by
 refine ⟨h.1, ?_⟩
 rcases h.2 with h | ⟨g, cap, cur, h1, h2, h3, h4⟩
 ·exact .inl h
 ·exact .inr ⟨g, cap, cur, h1, h2, by rw [hb g h2 (Array.getElem?_eq_some_iff.1 h3).1]; exact h3, h4⟩

theorem own_none {w : World} {base : Nat} {a : Option Addr} {n c : Nat} {xs : List Int} (h : w.ownsRow base 3 1 (.slice a n c) n (xs.map (Value.int .i64))) : w.ownsRow base 3 1 (.slice a 0 c) 0 (([] : List Int).map (Value.int .i64)) := by
 rcases h.2 with ⟨e, _⟩ | ⟨g, cap, cur, e, hb, hg, hnc, hm, hs, ht⟩
 ·cases e; exact World.ownsRow_nil _ _ _ _
 ·cases e
  exact ⟨rfl, .inr ⟨g, c, cur, rfl, hb, hg, Nat.zero_le _, hm, hs, by simp⟩⟩

theorem cut_zero {a : Option Addr} {n c : Nat} (ha : a = none ∨ ∃ g, a = some ⟨g, 0, none⟩) : ∀ wx, (Instr.slice 33 (.slice a n c) none (some (.int .i64 0)) none).run Tryz.prog wx = .ok (.slice a 0 c) wx := by
 intro wx
 have he : Tryz.prog.elem 33 = 3 := by unfold Program.elem; rw [underlying33]
 obtain ⟨i, hi, hi'⟩ := Option.map_eq_some_iff.1 size3
 have hr := run_slice_h (P := Tryz.prog) wx 33 a n c (by rw [he]; exact underlying33) .i64 0 (by omega) (by omega)
 rw [he] at hr
 rw [hr]
 rcases ha with rfl | ⟨g, rfl⟩ <;> simp [sizeOf, typeInfo, hi, hi', sliced, Addr.add_lit]

theorem CM.way (h : CM cb gu cu gl cl m B0 wr wv W u l) {wv' : Value} {W' : List Nat} {w2 : World} {o : Option Nat} (hz : wr.heap.size ≤ w2.heap.size) (hb : ∀ k, k < wr.heap.size → some k ≠ o → w2.heap[k]? = wr.heap[k]?) (ho : ∀ k, o = some k → B0 ≤ k)
  (hown : w2.ownsRow B0 3 1 wv' (ints W').length ((ints W').map (Value.int .i64))) : CM cb gu cu gl cl m B0 (w2.setCell ⟨cb, 2, none⟩ wv') wv' W' u l := by
 have hl := h.low
 have hs := h.sz
 have kb : ∀ k, k < B0 → w2.heap[k]? = wr.heap[k]? := fun k hk => hb k (by omega) (fun e => by have := ho k e.symm; omega)
 have b2 : ∀ k, k ≠ cb → (w2.setCell ⟨cb, 2, none⟩ wv').heap[k]? = w2.heap[k]? := fun k hk => Below.heap_setCell _ _ _ _ hk
 have cc : ∀ i {v : Value}, wr.cell? ⟨cb, i, none⟩ = some v → w2.cell? ⟨cb, i, none⟩ = some v := fun i v hv => by rw [World.cell?_of_block (w := wr) (kb cb hl.1)]; exact hv
 refine ⟨cell_other (ne_off (by omega)) (cc 0 h.c0), cell_other (ne_off (by omega)) (cc 1 h.c1), cell_same (cc 2 h.c2), fun i => by rw [World.frozen?_setCell, World.frozen?_of_block (w := wr) (kb cb hl.1)]; exact h.cz i, h.up.at_block (by rw [b2 _ (fun e => hl.2.2.2.1 e.symm)]; exact kb _ hl.2.1), h.le.at_block (by rw [b2 _ (fun e => hl.2.2.2.2.1 e.symm)]; exact kb _ hl.2.2.1), own_keep hown (fun k h1 _ => b2 k (by omega)), hl, by simp; omega⟩

theorem CM.short (h : CM cb gu cu gl cl m B0 wr wv W u l) {x : Nat} (hx : x < m) (v : Nat) : CM cb gu cu gl cl m B0 (wr.setCell ⟨gl, x, none⟩ (.int .i64 v)) wv W u (fun i => if i = x then v else l i) := by
 have hl := h.low
 have b2 : ∀ k, k ≠ gl → (wr.setCell ⟨gl, x, none⟩ (.int .i64 v)).heap[k]? = wr.heap[k]? := fun k hk => Below.heap_setCell _ _ _ _ hk
 have cc : ∀ i {u : Value}, wr.cell? ⟨cb, i, none⟩ = some u → (wr.setCell ⟨gl, x, none⟩ (.int .i64 v)).cell? ⟨cb, i, none⟩ = some u := fun i u hu => by rw [World.cell?_of_block (w := wr) (b2 cb hl.2.2.2.2.1)]; exact hu
 refine ⟨cc 0 h.c0, cc 1 h.c1, cc 2 h.c2, fun i => by rw [World.frozen?_setCell]; exact h.cz i, h.up.at_block (b2 _ hl.2.2.2.2.2), (h.le.set hx v).congr (fun i _ => by split <;> rfl), own_keep h.wo (fun k h1 _ => b2 k (by omega)), hl, by simp; exact h.sz⟩

theorem CM.lift (h : CM cb gu cu gl cl m B0 wr wv W u l) {x : Nat} (hx : x < m) (h0 : x ≠ 0) (v : Nat) : CM cb gu cu gl cl m B0 (wr.setCell ⟨gu, x, none⟩ (.int .i64 v)) wv W (fun i => if i = x then v else u i) l := by
 have hl := h.low
 have b2 : ∀ k, k ≠ gu → (wr.setCell ⟨gu, x, none⟩ (.int .i64 v)).heap[k]? = wr.heap[k]? := fun k hk => Below.heap_setCell _ _ _ _ hk
 have cc : ∀ i {u : Value}, wr.cell? ⟨cb, i, none⟩ = some u → (wr.setCell ⟨gu, x, none⟩ (.int .i64 v)).cell? ⟨cb, i, none⟩ = some u := fun i u hu => by rw [World.cell?_of_block (w := wr) (b2 cb hl.2.2.2.1)]; exact hu
 refine ⟨cc 0 h.c0, cc 1 h.c1, cc 2 h.c2, fun i => by rw [World.frozen?_setCell]; exact h.cz i, (h.up.set hx v).congr (fun i _ => ?_), h.le.at_block (b2 _ (fun e => hl.2.2.2.2.2 e.symm)), own_keep h.wo (fun k h1 _ => b2 k (by omega)), hl, by simp; exact h.sz⟩
 by_cases e : i = x
 ·subst e; simp [h0]
 ·simp [e]

inductive Up (u : Nat → Nat) (v : Nat) : List Nat → Nat → Prop
 | nil : Up u v [] v
 | snoc {W : List Nat} {a : Nat} : Up u v W a → Up u v (W ++ [a]) (u a)

def Kn (par H : Nat → Nat) (m w : Nat) (u l : Nat → Nat) : Prop := ∀ x, w < x → x < m → Climb par H w x (u x) (l x)

theorem Up.next {u : Nat → Nat} {v : Nat} {W : List Nat} {a : Nat} (h : Up u v W a) : ∀ i, i < W.length → u (W.getD i 0) = if i + 1 < W.length then W.getD (i + 1) 0 else a := by
 induction h with
 | nil => intro i hi; simp at hi
 | @snoc W a _ ih =>
  intro i hi
  simp at hi
  by_cases e : i = W.length
  ·subst e
   rw [if_neg (by simp)]
   simp [List.getD]
  ·have hi' : i < W.length := by omega
   have := ih i hi'
   rw [if_pos (by simp; omega)]
   have g1 : (W ++ [a]).getD i 0 = W.getD i 0 := by simp [List.getD, List.getElem?_append_left hi']
   rw [g1, this]
   by_cases e2 : i + 1 < W.length
   ·rw [if_pos e2]; simp [List.getD, List.getElem?_append_left e2]
   ·rw [if_neg e2]
    have : i + 1 = W.length := by omega
    rw [this]; simp [List.getD]

theorem Up.falls {u : Nat → Nat} {v : Nat} {W : List Nat} {a : Nat} (h : Up u v W a) {b : Nat} (hu : ∀ x ∈ W, u x < x) : ∀ i j, i < j → j < W.length → W.getD j 0 < W.getD i 0 := by
 intro i j hij hj
 induction j with
 | zero => omega
 | succ j ih =>
  have h1 := h.next j (by omega)
  rw [if_pos hj] at h1
  have hm : W.getD j 0 ∈ W := by have : j < W.length := by omega
                                 simp [List.getD, this]
  have h2 := hu _ hm
  rw [h1] at h2
  by_cases e : i = j
  ·subst e; exact h2
  ·have := ih (by omega) (by omega); omega

theorem Up.first {u : Nat → Nat} {v : Nat} {W : List Nat} {a : Nat} (h : Up u v W a) : (W = [] ∧ a = v) ∨ (0 < W.length ∧ W.getD 0 0 = v) := by
 induction h with
 | nil => exact .inl ⟨rfl, rfl⟩
 | @snoc W a _ ih =>
  rcases ih with ⟨rfl, rfl⟩ | ⟨h1, h2⟩
  ·exact .inr ⟨by simp, by simp⟩
  ·exact .inr ⟨by simp, by rw [← h2]; show ((W ++ [a])[0]?).getD 0 = (W[0]?).getD 0; rw [List.getElem?_append_left h1]⟩

def LeastIs (cb gu cu gl cl m B0 : Nat) (par H : Nat → Nat) (v bound : Nat) (u l : Nat → Nat) (w : World) (e : Ending) (w' : World) : Prop :=
 ∃ (b : Nat) (wv : Value) (W : List Nat) (u' l' : Nat → Nat), e = .returned (.int .i64 b) ∧ CM cb gu cu gl cl m B0 w' wv W u' l' ∧ Kn par H m bound u' l' ∧ (∀ x, x ≤ bound → u' x = u x ∧ l' x = l x) ∧ (if v ≤ bound then b = v else b = l' v ∧ u' v ≤ bound) ∧
  w.heap.size ≤ w'.heap.size ∧ (∀ k, k < B0 → k ≠ cb → k ≠ gu → k ≠ gl → w'.heap[k]? = w.heap[k]?) ∧ (∀ B, B ≤ cb → B ≤ gu → B ≤ gl → B ≤ B0 → Below B w w')

theorem wv_form {w : World} {base n : Nat} {v : Value} {xs : List Value} (h : w.ownsRow base 3 1 v n xs) : ∃ a c, v = .slice a n c ∧ (a = none ∨ ∃ g, a = some ⟨g, 0, none⟩) := by
 rcases h.2 with ⟨rfl, rfl⟩ | ⟨g, cap, cur, rfl, _⟩
 ·exact ⟨none, 0, rfl, .inl rfl⟩
 ·exact ⟨some ⟨g, 0, none⟩, cap, rfl, .inr ⟨g, rfl⟩⟩

theorem owns_len2 {w : World} {base e z n : Nat} {v : Value} {xs : List Value} (h : w.ownsRow base e z v n xs) : ∃ a c, v = .slice a n c := by
 rcases h.2 with ⟨rfl, rfl⟩ | ⟨g, cap, cur, rfl, _⟩
 ·exact ⟨none, 0, rfl⟩
 ·exact ⟨some ⟨g, 0, none⟩, cap, rfl⟩

set_option maxRecDepth 10000 in
set_option maxHeartbeats 4000000 in
theorem leastOf_any {e : Nat → Nat → Prop} {par H : Nat → Nat} (D : Dfs m e par) (v bound : Nat) (w : World) (hc : CM cb gu cu gl cl m B0 w wv W u l) (hk : Kn par H m bound u l) (hv : v < m) (hm : m ≤ 48) (hb : bound < m) :
  Calls Tryz.prog 190 #[.pointer (some ⟨cb, 0, none⟩), .int .i64 v, .int .i64 bound] w fun e w' => LeastIs cb gu cu gl cl m B0 par H v bound u l w e w' := by
 by_cases hvb : v ≤ bound
 ·have t0 : decide ((v : Int) ≤ (bound : Int)) = true := by simpa using hvb
  have HC := hid hc
  have HK := hid hk
  clear hc hk
  go_enter Tryz.func190, Tryz.ntmps190
  go_wp2_with fail
  go_ret
  exact ⟨v, wv, W, u, l, rfl, HC.out, HK.out, fun x _ => ⟨rfl, rfl⟩, by rw [if_pos hvb], Nat.le_refl _, fun _ _ _ _ _ => rfl, fun B _ _ _ _ => Below.refl _ _⟩
 have t0 : decide ((v : Int) ≤ (bound : Int)) = false := by simpa using hvb
 obtain ⟨wa, wc, hwv, hwa⟩ := wv_form hc.wo
 obtain ⟨wn, hwn⟩ : ∃ wn, (ints W).length = wn := ⟨_, rfl⟩
 rw [hwn] at hwv
 subst hwv
 have HC := hid hc
 have HK := hid hk
 obtain ⟨c0, c1, c2, cz, _, _, _, low, sz⟩ := hc
 obtain ⟨l1, l2, l3, l4, l5, l6⟩ := low
 have q0 := cut_zero (n := wn) (c := wc) hwa
 have HWN := hid hwn
 have z0 := cz 2
 clear hk hwn cz
 go_enter Tryz.func190, Tryz.ntmps190
 go_wp2_with fail
 have ST0 := hid (show CM cb gu cu gl cl m B0 (w.setCell ⟨cb, 2, none⟩ (.slice wa 0 wc)) (.slice wa 0 wc) [] u l from HC.out.way (o := none) (Nat.le_refl _) (fun _ _ _ => rfl) (fun k e => by cases e) (by have := HC.out.wo; rw [HWN.out] at this; exact own_none this))
 have KP0 := hid (show (∀ k, k < B0 → k ≠ cb → k ≠ gu → k ≠ gl → (w.setCell ⟨cb, 2, none⟩ (.slice wa 0 wc)).heap[k]? = w.heap[k]?) ∧ (∀ B, B ≤ cb → B ≤ gu → B ≤ gl → B ≤ B0 → Below B w (w.setCell ⟨cb, 2, none⟩ (.slice wa 0 wc))) from ⟨fun k _ h1 _ _ => Below.heap_setCell _ _ _ _ h1, fun B h1 _ _ _ => (Below.refl _ _).setCell h1 _⟩)
 obtain ⟨Wz, hWz⟩ : ∃ Wz, w.setCell ⟨cb, 2, none⟩ (.slice wa 0 wc) = Wz := ⟨_, rfl⟩
 have ZS := hid (show Wz.heap.size = w.heap.size by rw [← hWz]; simp)
 rw [hWz] at ST0 KP0 ⊢
 clear hWz c0 c1 c2 q0 z0
 go_loopw [7] (fun iv wx => ∃ (Wl : List Nat) (a : Nat) (vv : Value), iv = .int .i64 a ∧ Up u v Wl a ∧ a < m ∧ (∀ x ∈ Wl, bound < x ∧ x < m) ∧ CM cb gu cu gl cl m B0 wx vv Wl u l ∧ w.heap.size ≤ wx.heap.size ∧ (∀ k, k < B0 → k ≠ cb → k ≠ gu → k ≠ gl → wx.heap[k]? = w.heap[k]?) ∧ (∀ B, B ≤ cb → B ≤ gu → B ≤ gl → B ≤ B0 → Below B w wx) ∧ Wl.length + a ≤ v) (fun iv _ => (intOf iv).toNat)
 case atStart => exact ⟨[], v, _, rfl, .nil, hv, fun x hx => by simp at hx, ST0.out, by rw [ZS.out]; exact Nat.le_refl _, KP0.out.1, KP0.out.2, by simp⟩
 case round =>
  clear ST0 KP0 ZS
  obtain ⟨Wl, a, vv, rfl, hup, ha, hin, hcm, hsz, hkp, hbl, hlen⟩ := hrel
  obtain ⟨xa, xc, hxv, hxa⟩ := wv_form hcm.wo
  have hwl : (ints Wl).length = Wl.length := by simp
  rw [hwl] at hxv
  subst hxv
  have HS := hid (And.intro hup (And.intro hin (And.intro hcm (And.intro hkp hbl))))
  obtain ⟨c0, c1, c2, cz, _, _, _, _, sz2⟩ := hcm
  have hxl : Wl.length ≤ 48 := by omega
  by_cases hab : bound < a
  ·have t1 : decide ((bound : Int) < (a : Int)) = true := by simpa using hab
   have i1 := int_at (g := gu) (c := cu) ha
   have p1 := HS.out.2.2.1.up.cell a ha
   rw [if_neg (by omega)] at p1
   have z1 := cz 2
   have cbl : cb < wr.heap.size := by omega
   have gul : gu < wr.heap.size := by omega
   have HWO := hid (show wr.ownsRow B0 3 1 (.slice xa Wl.length xc) (ints Wl).length ((ints Wl).map (Value.int .i64)) from HS.out.2.2.1.wo)
   clear hup hin hkp hbl cz
   go_wp2_with (at_builtin; refine append_at rfl (.tmp 38) (.tmp 40) rfl B0 _ (ints Wl) rfl a HWO.out rfl (by simp; omega) (by omega) ?_; intro v2 w2 o2 g2 a2; obtain ⟨va, vc, hv2⟩ := owns_len2 o2; subst hv2; have hb2 : ∀ k, k < wr.heap.size → some k ≠ (Value.slice xa Wl.length xc).ownBlock → w2.heap[k]? = wr.heap[k]? := (fun k hk hne => by rw [g2.block k (by simp; omega) hne, Below.heap_alloc _ _ _ hk]); have z2 : wr.heap.size ≤ w2.heap.size := (by have := g2.size; simp at this; omega); have ow2 := HS.out.2.2.1.wo.lt; have C2 := hid (HS.out.2.2.1.way z2 hb2 (fun k e => (ow2 k e).1) (W' := Wl ++ [a]) (by have e2 : ints (Wl ++ [a]) = ints Wl ++ [(a : Int)] := (by simp [ints]); rw [e2]; exact o2)); have kb2 : ∀ k, k < B0 → w2.heap[k]? = wr.heap[k]? := (fun k hk => hb2 k (by omega) (fun e => by have := (ow2 k e.symm).1; omega)); have bb2 : ∀ B, B ≤ cb → B ≤ gu → B ≤ gl → B ≤ B0 → Below B w w2 := (fun B h1 h2 h3 h4 => ((HS.out.2.2.2.2 B h1 h2 h3 h4).alloc (by omega) _).grown g2 (by simp; omega) (fun q hq => by have := (ow2 q hq).1; omega)); obtain ⟨n2, hn2⟩ : ∃ n2, (ints Wl ++ [(a : Int)]).length = n2 := ⟨_, rfl⟩; rw [hn2] at C2 ⊢; have r2 : w2.cell? ⟨cb, 2, none⟩ = some (.slice xa Wl.length xc) := (by rw [World.cell?_of_block (w := wr) (kb2 cb l1)]; exact c2); have r2z : w2.frozen? ⟨cb, 2, none⟩ = false := (by rw [World.frozen?_of_block (w := wr) (kb2 cb l1)]; exact z1); obtain ⟨W2, hW2⟩ : ∃ W2, w2.setCell ⟨cb, 2, none⟩ (.slice va n2 vc) = W2 := ⟨_, rfl⟩; rw [hW2] at C2; have KP2 := hid (show wr.heap.size ≤ W2.heap.size ∧ (∀ k, k < B0 → k ≠ cb → k ≠ gu → k ≠ gl → W2.heap[k]? = w.heap[k]?) ∧ (∀ B, B ≤ cb → B ≤ gu → B ≤ gl → B ≤ B0 → Below B w W2) from ⟨by rw [← hW2]; simp; omega, fun k h1 h2 h3 h4 => by rw [← hW2, Below.heap_setCell _ _ _ _ h2, kb2 k h1]; exact HS.out.2.2.2.1 k h1 h2 h3 h4, fun B h1 h2 h3 h4 => by rw [← hW2]; exact (bb2 B h1 h2 h3 h4).setCell h1 _⟩); have d0 := C2.out.c0; have d1 := C2.out.up.cell a ha; rw [if_neg (by omega)] at d1; clear o2 g2 a2 hb2 kb2 bb2 ow2)
   have hua : u a < a := (HK.out a hab ha).lt
   go_round
   case rel =>
    refine ⟨Wl ++ [a], u a, _, rfl, .snoc HS.out.1, by omega, fun x hx => ?_, C2.out, by have := KP2.out.1; omega, KP2.out.2.1, KP2.out.2.2, by simp; omega⟩
    rcases List.mem_append.1 hx with h | h
    ·exact HS.out.2.1 x h
    ·simp at h; subst h; exact ⟨hab, ha⟩
   case measure => simp [intOf]; omega
  ·have t1 : decide ((bound : Int) < (a : Int)) = false := by simpa using hab
   have hne : 0 < Wl.length := by
    rcases HS.out.1.first with ⟨h1, h2⟩ | h
    ·omega
    ·exact h.1
   have hW0 : Wl.getD 0 0 = v := by
    rcases HS.out.1.first with ⟨h1, h2⟩ | h
    ·omega
    ·exact h.2
   have HW0 := hid hW0
   obtain ⟨gw, kw, hgw, rgw, bgw⟩ := ro_of_owns HS.out.2.2.1.wo (by simp; omega) rfl
   have hxs : xa = some ⟨gw, 0, none⟩ := by
    have h := hgw
    simp at h
    exact h.1
   subst hxs
   obtain ⟨n, hn⟩ : ∃ n, Wl.length = n + 1 := ⟨Wl.length - 1, by omega⟩
   have HN := hid hn
   have hn16 : n ≤ 48 := by omega
   rw [hn] at c2
   have FALL := hid (HS.out.1.falls (b := 0) (fun x hx => (HK.out x (HS.out.2.1 x hx).1 (HS.out.2.1 x hx).2).lt))
   have NXT := hid (show (∀ j, j < n → u (Wl.getD j 0) = Wl.getD (j + 1) 0) ∧ u (Wl.getD n 0) = a from ⟨fun j hj => by have := HS.out.1.next j (by omega); rw [if_pos (by omega)] at this; exact this, by have := HS.out.1.next n (by omega); rw [if_neg (by omega)] at this; exact this⟩)
   have INM := hid (show ∀ j, j ≤ n → bound < Wl.getD j 0 ∧ Wl.getD j 0 < m from fun j hj => HS.out.2.1 _ (Flo.getD_mem (by omega)))
   have e1 : ((n + 1 : Nat) : Int) - 2 = (n : Int) - 1 := by omega
   have ST1 := hid (And.intro HS.out.2.2.1 (And.intro hsz (And.intro HS.out.2.2.2.1 HS.out.2.2.2.2)))
   clear hup hin hkp hbl hgw rgw hW0 hn
   go_wp2_with fail
   clear c0 c1 c2
   go_loopw [8] (fun iv wx => ∃ (q : Nat) (u2 l2 : Nat → Nat), iv = .int .i64 ((q : Int) - 1) ∧ q ≤ n ∧ CM cb gu cu gl cl m B0 wx (.slice (some ⟨gw, 0, none⟩) Wl.length xc) Wl u2 l2 ∧ Kn par H m bound u2 l2 ∧ (∀ x, x ≤ bound → u2 x = u x ∧ l2 x = l x) ∧ u2 (Wl.getD q 0) = a ∧ (∀ j, j < q → u2 (Wl.getD j 0) = Wl.getD (j + 1) 0) ∧ w.heap.size ≤ wx.heap.size ∧ (∀ k, k < B0 → k ≠ cb → k ≠ gu → k ≠ gl → wx.heap[k]? = w.heap[k]?) ∧ (∀ B, B ≤ cb → B ≤ gu → B ≤ gl → B ≤ B0 → Below B w wx)) (fun iv _ => (intOf iv + 1).toNat)
   case atStart => exact ⟨n, u, l, by have := HN.out; go_num, Nat.le_refl _, ST1.out.1, HK.out, fun x _ => ⟨rfl, rfl⟩, NXT.out.2, NXT.out.1, ST1.out.2.1, ST1.out.2.2.1, ST1.out.2.2.2⟩
   case round =>
    clear ST1
    obtain ⟨q, u2, l2, rfl, hq, hcm, hkn, hst, htop, hch, hsz2, hkp2, hbl2⟩ := hrel
    have HS2 := hid (And.intro hcm (And.intro hkn (And.intro hst (And.intro htop (And.intro hch (And.intro hsz2 (And.intro hkp2 hbl2)))))))
    obtain ⟨d0, d1, d2, dz, du, dl, dw, _, sz3⟩ := hcm
    cases q with
    | zero =>
     have hfin := HW0.out
     rw [hfin] at htop
     have p1 := dl.cell v hv
     have i1 := int_at (g := gl) (c := cl) hv
     have HTOP := hid htop
     clear hkn hst htop hch hsz2 hkp2 hbl2 du dl dw dz
     go_wp2_with fail
     go_ret
     exact ⟨l2 v, _, Wl, u2, l2, rfl, HS2.out.1, HS2.out.2.1, HS2.out.2.2.1, by rw [if_neg hvb]; exact ⟨rfl, by rw [HTOP.out]; omega⟩, HS2.out.2.2.2.2.2.1, HS2.out.2.2.2.2.2.2.1, HS2.out.2.2.2.2.2.2.2⟩
    | succ q =>
     obtain ⟨x, hx⟩ : ∃ x, Wl.getD q 0 = x := ⟨_, rfl⟩
     obtain ⟨y, hy⟩ : ∃ y, Wl.getD (q + 1) 0 = y := ⟨_, rfl⟩
     obtain ⟨b1, b2⟩ := INM.out q (by omega)
     obtain ⟨b3, b4⟩ := INM.out (q + 1) hq
     have b5 := FALL.out q (q + 1) (by omega) (by have := HN.out; omega)
     rw [hx] at b1 b2 b5
     rw [hy] at b3 b4 b5 htop
     have hch1 := hch q (by omega)
     rw [hx, hy] at hch1
     have p1 := dl.cell x b2
     have p2 := dl.cell y b4
     have p3 := du.cell x b2
     have p4 := du.cell y b4
     rw [if_neg (by omega)] at p3 p4
     rw [htop] at p4
     have hwc : ∀ i, i < Wl.length → wr.cell? ⟨gw, i, none⟩ = some (.int .i64 (Wl.getD i 0 : Nat)) := fun i hi => by
      have dw2 : wr.ownsRow B0 3 1 (.slice (some ⟨gw, 0, none⟩) Wl.length xc) Wl.length ((ints Wl).map (Value.int .i64)) := by have := dw; rw [hwl] at this; exact this
      rw [dw2.cellAt i (by omega)]
      simp [List.getD, hi]
     have w1 := hwc q (by have := HN.out; omega)
     have w2 := hwc (q + 1) (by have := HN.out; omega)
     rw [hx] at w1
     rw [hy] at w2
     have i1 := int_at (g := gw) (n := Wl.length) (c := xc) (x := q) (by have := HN.out; omega)
     have i2 := int_at (g := gw) (n := Wl.length) (c := xc) (x := q + 1) (by have := HN.out; omega)
     have i3 := int_at (g := gl) (c := cl) b2
     have i4 := int_at (g := gl) (c := cl) b4
     have i5 := int_at (g := gu) (c := cu) b2
     have i6 := int_at (g := gu) (c := cu) b4
     have e2 : (((q + 1 : Nat) : Int)) - 1 = (q : Int) := by omega
     have e3 : ((q + 1 : Nat) : Int) = (q : Int) + 1 := by omega
     simp only [e3] at i2
     have hq16 : q ≤ 50 := by have := HN.out; omega
     have z1 := dl.fz x
     have z2 := du.fz x
     rw [e2]
     clear hkn hst hch hsz2 hkp2 hbl2 du dl dw dz hwc
     by_cases hlt : l2 y < l2 x
     ·skip
      go_wp2_with fail
      go_region
      go_wp2_with fail
      go_region
      have C3 := hid ((HS2.out.1.short b2 (l2 y)).on (Below.drew (Below.drew (same _))))
      have K3 := hid (show w.heap.size ≤ ((wr.setCell ⟨gl, x, none⟩ (.int .i64 (l2 y))).drew.drew).heap.size ∧ (∀ k, k < B0 → k ≠ cb → k ≠ gu → k ≠ gl → ((wr.setCell ⟨gl, x, none⟩ (.int .i64 (l2 y))).drew.drew).heap[k]? = w.heap[k]?) ∧ (∀ B, B ≤ cb → B ≤ gu → B ≤ gl → B ≤ B0 → Below B w ((wr.setCell ⟨gl, x, none⟩ (.int .i64 (l2 y))).drew.drew)) from ⟨by show _ ≤ (wr.setCell _ _).heap.size; simp; exact HS2.out.2.2.2.2.2.1, fun k h1 h2 h3 h4 => by show (wr.setCell _ _).heap[k]? = _; rw [Below.heap_setCell _ _ _ _ h4]; exact HS2.out.2.2.2.2.2.2.1 k h1 h2 h3 h4, fun B h1 h2 h3 h4 => Below.drew (Below.drew ((HS2.out.2.2.2.2.2.2.2 B h1 h2 h3 h4).setCell h3 _))⟩)
      obtain ⟨WA, hWA⟩ : ∃ WA, (wr.setCell ⟨gl, x, none⟩ (.int .i64 (l2 y))).drew.drew = WA := ⟨_, rfl⟩
      rw [hWA] at C3 K3 ⊢
      have MIN := hid (show min (l2 x) (l2 y) = l2 y by omega)
      clear hWA p1 p2 p3 p4 w1 w2 d0 d1 d2 z1 z2 i1 i2 i3 i4
      obtain ⟨d0, d1, d2, _, _, _, _, _, _⟩ := C3.out
      have p4 := C3.out.up.cell y b4
      have p3 := C3.out.up.cell x b2
      rw [if_neg (by omega)] at p3 p4
      rw [htop] at p4
      have z2 := C3.out.up.fz x
      go_wp2_with fail
      go_region
      go_wp2_with fail
      have C4 := hid ((C3.out.lift b2 (by omega) a).on (Below.drew (same _)))
      go_round
      case rel =>
       have hne2 : ∀ j, j ≤ n → j ≠ q → Wl.getD j 0 ≠ x := fun j hj hjq e => by
        rw [← hx] at e
        rcases Nat.lt_or_gt_of_ne hjq with h | h
        ·have := FALL.out j q h (by have := HN.out; omega); omega
        ·have := FALL.out q j h (by have := HN.out; omega); omega
       have kx : Climb par H bound x (u2 x) (l2 x) := HS2.out.2.1 x b1 b2
       have ky : Climb par H bound y (u2 y) (l2 y) := HS2.out.2.1 y b3 b4
       rw [hch1] at kx
       rw [htop] at ky
       have kj := kx.join D ky b2
       rw [MIN.out] at kj
       refine ⟨q, (fun i => if i = x then a else u2 i), (fun i => if i = x then l2 y else l2 i), by go_num, by omega, C4.out, fun z h1 h2 => ?_, fun z hz => ?_, by rw [hx]; simp, fun j hj => ?_, by show _ ≤ (World.setCell _ _ _).heap.size; simp; exact K3.out.1, fun k h1 h2 h3 h4 => by show (World.setCell _ _ _).heap[k]? = _; rw [Below.heap_setCell _ _ _ _ h3]; exact K3.out.2.1 k h1 h2 h3 h4, fun B h1 h2 h3 h4 => Below.drew ((K3.out.2.2 B h1 h2 h3 h4).setCell h2 _)⟩
       ·by_cases ez : z = x
        ·subst ez; simp only [if_true]; exact kj
        ·simp only [if_neg ez]; exact HS2.out.2.1 z h1 h2
       ·have ez : z ≠ x := by omega
        simp only [if_neg ez]; exact HS2.out.2.2.1 z hz
       ·show (if Wl.getD j 0 = x then a else u2 (Wl.getD j 0)) = _
        rw [if_neg (hne2 j (by omega) (by omega))]; exact HS2.out.2.2.2.2.1 j (by omega)
      case measure => first | (simp [intOf]; done) | (simp [intOf]; omega)
     ·skip
      go_wp2_with fail
      go_region
      go_wp2_with fail
      go_region
      have C3 := hid ((HS2.out.1.short b2 (l2 x)).on (Below.drew (Below.drew (same _))))
      have K3 := hid (show w.heap.size ≤ ((wr.setCell ⟨gl, x, none⟩ (.int .i64 (l2 x))).drew.drew).heap.size ∧ (∀ k, k < B0 → k ≠ cb → k ≠ gu → k ≠ gl → ((wr.setCell ⟨gl, x, none⟩ (.int .i64 (l2 x))).drew.drew).heap[k]? = w.heap[k]?) ∧ (∀ B, B ≤ cb → B ≤ gu → B ≤ gl → B ≤ B0 → Below B w ((wr.setCell ⟨gl, x, none⟩ (.int .i64 (l2 x))).drew.drew)) from ⟨by show _ ≤ (wr.setCell _ _).heap.size; simp; exact HS2.out.2.2.2.2.2.1, fun k h1 h2 h3 h4 => by show (wr.setCell _ _).heap[k]? = _; rw [Below.heap_setCell _ _ _ _ h4]; exact HS2.out.2.2.2.2.2.2.1 k h1 h2 h3 h4, fun B h1 h2 h3 h4 => Below.drew (Below.drew ((HS2.out.2.2.2.2.2.2.2 B h1 h2 h3 h4).setCell h3 _))⟩)
      obtain ⟨WA, hWA⟩ : ∃ WA, (wr.setCell ⟨gl, x, none⟩ (.int .i64 (l2 x))).drew.drew = WA := ⟨_, rfl⟩
      rw [hWA] at C3 K3 ⊢
      have MIN := hid (show min (l2 x) (l2 y) = l2 x by omega)
      clear hWA p1 p2 p3 p4 w1 w2 d0 d1 d2 z1 z2 i1 i2 i3 i4
      obtain ⟨d0, d1, d2, _, _, _, _, _, _⟩ := C3.out
      have p4 := C3.out.up.cell y b4
      have p3 := C3.out.up.cell x b2
      rw [if_neg (by omega)] at p3 p4
      rw [htop] at p4
      have z2 := C3.out.up.fz x
      go_wp2_with fail
      go_region
      go_wp2_with fail
      have C4 := hid ((C3.out.lift b2 (by omega) a).on (Below.drew (same _)))
      go_round
      case rel =>
       have hne2 : ∀ j, j ≤ n → j ≠ q → Wl.getD j 0 ≠ x := fun j hj hjq e => by
        rw [← hx] at e
        rcases Nat.lt_or_gt_of_ne hjq with h | h
        ·have := FALL.out j q h (by have := HN.out; omega); omega
        ·have := FALL.out q j h (by have := HN.out; omega); omega
       have kx : Climb par H bound x (u2 x) (l2 x) := HS2.out.2.1 x b1 b2
       have ky : Climb par H bound y (u2 y) (l2 y) := HS2.out.2.1 y b3 b4
       rw [hch1] at kx
       rw [htop] at ky
       have kj := kx.join D ky b2
       rw [MIN.out] at kj
       refine ⟨q, (fun i => if i = x then a else u2 i), (fun i => if i = x then l2 x else l2 i), by go_num, by omega, C4.out, fun z h1 h2 => ?_, fun z hz => ?_, by rw [hx]; simp, fun j hj => ?_, by show _ ≤ (World.setCell _ _ _).heap.size; simp; exact K3.out.1, fun k h1 h2 h3 h4 => by show (World.setCell _ _ _).heap[k]? = _; rw [Below.heap_setCell _ _ _ _ h3]; exact K3.out.2.1 k h1 h2 h3 h4, fun B h1 h2 h3 h4 => Below.drew ((K3.out.2.2 B h1 h2 h3 h4).setCell h2 _)⟩
       ·by_cases ez : z = x
        ·subst ez; simp only [if_true]; exact kj
        ·simp only [if_neg ez]; exact HS2.out.2.1 z h1 h2
       ·have ez : z ≠ x := by omega
        simp only [if_neg ez]; exact HS2.out.2.2.1 z hz
       ·show (if Wl.getD j 0 = x then a else u2 (Wl.getD j 0)) = _
        rw [if_neg (hne2 j (by omega) (by omega))]; exact HS2.out.2.2.2.2.1 j (by omega)
      case measure => first | (simp [intOf]; done) | (simp [intOf]; omega)

end Go.Proofs.YtolipafcoolpgaaGreat.Dm
