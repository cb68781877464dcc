/-
  Copies in new memory: what ir.copyList, copyIns, copyEach, copyBlock, copyFunc make.
-/
import Derived.Test.YtbmfimojhcdnbaaRead
import Derived.Deep.AppendLies
import Derived.Laws.AppendOwnNone
namespace Go.Proofs.Ytbmfimojhcdnbaa.Copy
open Go.RowKit View Rd

set_option linter.unusedVariables false

theorem info3 : (Try.prog.info? 3).map (fun i => (i.zero, i.size, i.bytes)) = some (some (.int .i64 0), 1, 8) := by kernel_rfl

/-- The numbers of a row, as a list. -/
def row (f : Nat → Int) (n : Nat) : List Int := (List.range n).map f

theorem row_length (f : Nat → Int) (n : Nat) : (row f n).length = n := by simp [row]

theorem row_cells {w : World} {ad : Addr} {n c : Nat} {f : Nat → Int} (h : Ints w ⟨some ad, n, c⟩ f) : ∀ j u, ((row f n).map (Value.int .i64))[j]? = some u → w.cell? (ad.add j) = some u := by
  intro j u hu
  have hj : j < n := by have := (List.getElem?_eq_some_iff.1 hu).1; simpa [row] using this
  obtain ⟨b, off, hab, hc⟩ := h.2.2.2 (by show 0 < n; omega)
  obtain rfl := Option.some.inj hab
  rw [Addr.add_lit, hc j hj, ← hu]
  simp [row, hj]

/-- What a row that was built by append is, as a slice of numbers. -/
theorem ints_of_owns {w : World} {base : Nat} {v : Value} {n : Nat} {xs : List Int} (h : w.ownsRow base 3 1 v n (xs.map (Value.int .i64))) (hn : n ≤ 1000000) :
    ∃ s : Sl, v = .slice s.a s.n s.c ∧ s.n = n ∧ Ints w s (fun i => xs.getD i 0) ∧ Mine base w.heap.size w s := by
  obtain ⟨hlen, h⟩ := h
  simp at hlen
  rcases h with ⟨rfl, rfl⟩ | ⟨g, cap, cur, rfl, hb, hg, hnc, hm, hs, ht⟩
  · exact ⟨⟨none, 0, 0⟩, rfl, rfl, ⟨Nat.le_refl _, Nat.zero_le _, fun _ => rfl, fun h => absurd h (by simp)⟩, fun h => absurd h (by simp)⟩
  · have hlt : g < w.heap.size := (Array.getElem?_eq_some_iff.1 hg).1
    refine ⟨⟨some ⟨g, 0, none⟩, n, cap⟩, rfl, rfl, ⟨hnc, by show n ≤ _; omega, fun h => by simp at h, fun h0 => ⟨g, 0, rfl, fun i hi => ?_⟩⟩, fun h0 => ⟨g, rfl, hb, hlt, fun i => ?_⟩⟩
    · rw [Nat.zero_add, cell_of_row w g i cur 3 (0, 0) hg]
      have h1 : (cur.toList.take (n * 1))[i]? = (xs.map (Value.int .i64))[i]? := by rw [ht]
      rw [List.getElem?_take, if_pos (by simpa using hi)] at h1
      simp at h1
      rw [h1]
      have : i < xs.length := by rw [hlen]; exact hi
      simp [List.getD, this]
    · simp [World.frozen?, hg]

/-- Numbers that came in, appended to a row of the call's own. -/
theorem append_in {ops : Array Oper} {rest : List Oper} {o : Oper} {a : Act} {Q : Exit → Act → World → Prop} {w : World} (hgd : o.guard = none) (s x : Operand)
    (ho : o.op = .call { callee := .builtin .append, args := #[s, x], argTypes := #[28, 28] })
    (base : Nat) (v : Value) (n : Nat) (xs : List Int) (hs : a.eval s = v) (hown : w.ownsRow base 3 1 v n (xs.map (Value.int .i64)))
    (sl : Sl) (f : Nat → Int) (hx : a.eval x = .slice sl.a sl.n sl.c) (hin : Ints w sl f)
    (hsm : n + sl.n ≤ 1000000) (hbase : base ≤ w.heap.size)
    (h : ∀ v' w', w'.ownsRow base 3 1 v' (n + sl.n) ((xs ++ row f sl.n).map (Value.int .i64)) → w.grownBy w' v.ownBlock → wpList Try.prog ops Q rest (a.put o.dst v') w') : wpList Try.prog ops Q (o :: rest) a w := by
  obtain ⟨i0, hi, hz0, hz1, hz2⟩ := info_parts info3
  obtain ⟨ao, m, c⟩ := sl
  cases ao with
  | some ad =>
    refine wpList_append_own w hgd s x 28 ho base 3 i0 (.int .i64 0) 1 8 underlying28 hi hz0 hz1 hz2 rfl (by decide) v n _ hs hown ad m c ((row f m).map (Value.int .i64)) hx (by simp [row_length]) (row_cells hin) (ints_oneCell _ _) (by simp only [maxLen] at *; omega) (by simp only at *; omega) hbase ?_
    intro v' w' h1 h2 _
    exact h v' w' (by rw [List.map_append]; exact h1) h2
  | none =>
    have hc0 := hin.2.2.1 rfl
    have hm0 := hin.1
    simp only at hc0 hm0
    subst hc0
    obtain rfl : m = 0 := by omega
    exact wpList_append_own_none hgd s x 28 ho base 3 i0 1 underlying28 hi v n _ hs hown hx (h v w (by simpa [row] using hown) (World.grownBy.refl _ _))

theorem getD_row (f : Nat → Int) (n i : Nat) (hi : i < n) : (row f n).getD i 0 = f i := by
  simp [row, List.getD, hi]

set_option maxHeartbeats 400000 in
/-- ir.copyList at int. -/
theorem copyList_any (s : Sl) (f : Nat → Int) (w : World) (hs : Ints w s f) (hn : s.n ≤ 1000) :
    Calls Try.prog 97 #[.slice s.a s.n s.c] w fun e w' => ∃ t : Sl, e = .returned (.slice t.a t.n t.c) ∧ t.n = s.n ∧ Ints w' t f ∧ Mine w.heap.size w'.heap.size w' t ∧ Below w.heap.size w w' := by
  have HS := hid hs
  clear hs
  go_enter Try.func97, Try.ntmps97
  go_wp2_with (at_builtin; refine append_in rfl (.const (.slice none 0 0)) (.tmp 3) rfl w.heap.size _ 0 [] rfl (World.ownsRow_nil _ _ _ _) s f rfl HS.out (by omega) (Nat.le_refl _) ?_; intro v1 w1 hown1 hgrow1)
  go_ret
  simp only [Nat.zero_add, List.nil_append] at hown1
  obtain ⟨t, rfl, ht, hi, hm⟩ := ints_of_owns hown1 (by omega)
  exact ⟨t, rfl, ht, Ints.congr hi (fun i h => getD_row f s.n i (by omega)), hm, (Below.refl _ w).grown hgrow1 (Nat.le_refl _) (fun k hk => by cases hk)⟩

/-- An instruction's copy: its rows are new, the second behind the first. -/
structure Twin (base top : Nat) (w : World) (sa si : Sl) (v : IV) (a j : Nat → Int) : Prop where
  an : sa.n = v.args.n
  jn : si.n = v.into.n
  args : Ints w sa a
  into : Ints w si j
  ma : Mine base top w sa
  mj : Mine base top w si
  ord : ∀ g g', sa.a = some ⟨g, 0, none⟩ → si.a = some ⟨g', 0, none⟩ → 0 < sa.n → 0 < si.n → g < g'

set_option maxHeartbeats 400000 in
theorem copyIns_any (v : IV) (a j : Nat → Int) (w : World) (ha : Ints w v.args a) (hj : Ints w v.into j) (h1 : v.args.n ≤ 1000) (h2 : v.into.n ≤ 1000) :
    Calls Try.prog 129 #[v.val] w fun e w' => ∃ sa si : Sl, e = .returned ({ v with args := sa, into := si } : IV).val ∧ Twin w.heap.size w'.heap.size w' sa si v a j ∧ Below w.heap.size w w' := by
  have HA := hid ha
  have HJ := hid hj
  clear ha hj
  go_enter Try.func129, Try.ntmps129
  go_wp2_with fail
  refine (copyList_any v.args a _ (HA.out.on (new (new (same w) _) _)) h1).mono ?_
  rintro e w1 ⟨sa, rfl, hn1, hi1, hm1, hb1⟩
  have B1 : InsAt w1 w.heap.size 0 v := ((InsAt.alloc w v).on (new (same _) _)).on hb1
  have D1 : InsAt w1 (w.heap.size + 1) 0 IV.zero := (by have := (InsAt.alloc (w.alloc (.cells v.cells 39)) IV.zero).on hb1; simpa using this)
  have F1 : ∀ i, w1.frozen? ⟨w.heap.size, i, none⟩ = false := fun i => by rw [hb1.frozen (by simp; omega)]; simp [World.frozen?_alloc_old]
  have F1' : ∀ i, w1.frozen? ⟨w.heap.size + 1, i, none⟩ = false := fun i => by rw [hb1.frozen (by simp)]; simp
  have K1 := hid (more (new (new (same w) _) _) hb1)
  obtain ⟨c0, c1, c2, c3, c4, c5, c6⟩ := B1.head
  have hm1' : Mine (w.heap.size + 2) w1.heap.size w1 sa := by simpa using hm1
  have Z1 := hid (show w.heap.size + 2 ≤ w1.heap.size by have := hb1.size; simp at this; omega)
  have M1 := hid (And.intro hn1 (And.intro hi1 hm1'))
  have HB1 := hid B1
  have HD1 := hid D1
  clear hn1 hi1 hm1 hm1' B1 D1 hb1
  go_wp2_with fail
  have K2 := K1.out.setCell (p := ⟨w.heap.size, 5, none⟩) (Nat.le_refl _) (.slice sa.a sa.n sa.c)
  refine (copyList_any v.into j _ (HJ.out.on K2) h2).mono ?_
  rintro e w2 ⟨si, rfl, hn2, hi2, hm2, hb2⟩
  have B2 : InsAt w2 w.heap.size 0 { v with args := sa } := (InsAt.on hb2 (by have := HB1.out.set5 sa; simpa using this))
  have D2 : InsAt w2 (w.heap.size + 1) 0 IV.zero := (InsAt.on hb2 (HD1.out.kept ((Kept.refl (fun k => k ≠ w.heap.size) w1).setCell (a := ⟨w.heap.size, 5, none⟩) (fun h => h rfl) _) (by show _ ≠ _; omega)))
  clear c0 c1 c2 c3 c4 c5 c6
  obtain ⟨c0, c1, c2, c3, c4, c5, c6⟩ := B2.head
  obtain ⟨d0, d1, d2, d3, d4, d5, d6⟩ := D2.head
  have F2 : ∀ i, w2.frozen? ⟨w.heap.size, i, none⟩ = false := fun i => by rw [hb2.frozen (by have := Z1.out; simp; omega)]; simp [F1]
  have F2' : ∀ i, w2.frozen? ⟨w.heap.size + 1, i, none⟩ = false := fun i => by rw [hb2.frozen (by have := Z1.out; simp; omega)]; simp [F1']
  have K3 := hid (more K2 hb2)
  have M2 := hid (And.intro hn2 (And.intro hi2 hm2))
  have H2 := hid hb2
  clear hn2 hi2 hm2 B2 D2 hb2 F1 F1'
  go_wp2_with fail
  refine bodyPost_ret (v := ({ v with args := sa, into := si } : IV).val) (by rw [results_cell rfl]; go_simp) rfl ?_
  have Z2 : w1.heap.size ≤ w2.heap.size := by have := H2.out.size; simpa using this
  have z1 := Z1.out
  have KW : Kept (fun k => w.heap.size + 2 ≤ k) w1 (w1.setCell ⟨w.heap.size, 5, none⟩ (.slice sa.a sa.n sa.c)) := (Kept.refl _ _).setCell (by simp) _
  have a1 : Ints w2 sa a := Ints.on H2.out (M1.out.2.1.kept' M1.out.2.2 KW (fun b h _ => h))
  have a2 : Mine (w.heap.size + 2) w1.heap.size w2 sa := Mine.on H2.out (by simp) (M1.out.2.2.kept KW (fun b h _ => h))
  have j1 : Mine (w1.heap.size) w2.heap.size w2 si := by have := M2.out.2.2; simpa using this
  have KE : Kept (fun k => w.heap.size + 2 ≤ k) w2 ((((((((w2.setCell { block := w.heap.size, off := 6 } (.slice si.a si.n si.c)).setCell { block := w.heap.size + 1, off := 0 } (.int .i64 v.op)).setCell { block := w.heap.size + 1, off := 1 } (.int .i64 v.ty)).setCell { block := w.heap.size + 1, off := 2 } (.int .i64 v.to)).setCell { block := w.heap.size + 1, off := 3 } (.int .i64 v.sym)).setCell { block := w.heap.size + 1, off := 4 } (.int .i64 v.num)).setCell { block := w.heap.size + 1, off := 5 } (.slice sa.a sa.n sa.c)).setCell { block := w.heap.size + 1, off := 6 } (.slice si.a si.n si.c)) := by
    repeat (refine Kept.setCell ?_ (by simp) _)
    exact Kept.refl _ _
  refine ⟨sa, si, rfl, ⟨M1.out.1, M2.out.1, a1.kept' a2 KE (fun b h _ => h), M2.out.2.1.kept' j1 KE (fun b h _ => by omega), (a2.kept KE (fun b h _ => h)).wide (by omega) (by have := KE.size; omega), (j1.kept KE (fun b h _ => by omega)).wide (by omega) (by have := KE.size; omega), ?_⟩, ?_⟩
  · intro g g' h h' h0 h0'
    obtain ⟨g1, e1, _, e2, _⟩ := a2 h0
    have := (j1.ge g' 0 h' h0').1
    rw [h] at e1
    simp at e1
    omega
  · repeat (refine Below.setCell ?_ (by simp) _)
    exact K3.out
theorem Twin.on {base top : Nat} {w w' : World} {sa si : Sl} {v : IV} {a j : Nat → Int} (hb : Below w.heap.size w w') (ht : top ≤ w.heap.size) (h : Twin base top w sa si v a j) : Twin base top w' sa si v a j :=
  ⟨h.an, h.jn, h.args.on hb, h.into.on hb, h.ma.on hb ht, h.mj.on hb ht, h.ord⟩

theorem Twin.kept {p : Nat → Prop} {base top : Nat} {w w' : World} {sa si : Sl} {v : IV} {a j : Nat → Int} (h : Twin base top w sa si v a j) (k : Kept p w w') (hp : ∀ b, base ≤ b → b < top → p b) : Twin base top w' sa si v a j :=
  ⟨h.an, h.jn, h.args.kept' h.ma k hp, h.into.kept' h.mj k hp, h.ma.kept k hp, h.mj.kept k hp, h.ord⟩

theorem Twin.wide {base top base' top' : Nat} {w : World} {sa si : Sl} {v : IV} {a j : Nat → Int} (h : Twin base top w sa si v a j) (h1 : base' ≤ base) (h2 : top ≤ top') : Twin base' top' w sa si v a j :=
  ⟨h.an, h.jn, h.args, h.into, h.ma.wide h1 h2, h.mj.wide h1 h2, h.ord⟩

/-- The cells of the first k. -/
def flat (f : Nat → IV) : Nat → List Value
  | 0 => []
  | k + 1 => flat f k ++ (f k).cells.toList

theorem flat_length (f : Nat → IV) : ∀ k, (flat f k).length = k * 7
  | 0 => rfl
  | k + 1 => by rw [flat, List.length_append, flat_length f k]; simp; omega

theorem flat_congr {f g : Nat → IV} : ∀ {k : Nat}, (∀ t, t < k → f t = g t) → flat f k = flat g k
  | 0, _ => rfl
  | k + 1, h => by rw [flat, flat, flat_congr (fun t ht => h t (by omega)), h k (by omega)]

theorem flat_at (f : Nat → IV) : ∀ k t c, t < k → c < 7 → (flat f k)[t * 7 + c]? = (f t).cells.toList[c]?
  | 0, t, c, h, _ => by omega
  | k + 1, t, c, h, hc => by
    rw [flat]
    rcases Nat.lt_or_eq_of_le (Nat.le_of_lt_succ h) with h' | rfl
    · rw [List.getElem?_append_left (by rw [flat_length]; omega)]
      exact flat_at f k t c h' hc
    · rw [List.getElem?_append_right (by rw [flat_length]; omega), flat_length]
      congr 1; omega

/-- What a loop over a row of instructions has copied: k of n. -/
structure Rows (g k n : Nat) (w : World) (I : Nat → IV) (A J : Nat → Nat → Int) (sa si : Nat → Sl) (h : Nat → Nat) : Prop where
  own : w.ownsRow g 39 7 (.slice (some ⟨g, 0, none⟩) k n) k (flat (fun t => { I t with args := sa t, into := si t }) k)
  tw : ∀ t, t < k → Twin (h t) (h (t + 1)) w (sa t) (si t) (I t) (A t) (J t)
  up : ∀ t, t < k → h t ≤ h (t + 1)
  lo : g < h 0
  hi : h k ≤ w.heap.size

theorem Rows.inss {g k n : Nat} {w : World} {I : Nat → IV} {A J : Nat → Nat → Int} {sa si : Nat → Sl} {h : Nat → Nat} (r : Rows g k n w I A J sa si h) (hk : k ≤ 1000) (hkn : k ≤ n) :
    Inss w ⟨some ⟨g, 0, none⟩, k, n⟩ (fun t => { I t with args := sa t, into := si t }) := by
  refine ⟨hkn, by show k ≤ _; omega, fun e => by simp at e, fun h0 => ⟨g, 0, rfl, fun i hi => ?_⟩⟩
  simp only at hi
  have key : ∀ c, c < 7 → w.cell? ⟨g, 0 + i * 7 + c, none⟩ = ({ I i with args := sa i, into := si i } : IV).cells.toList[c]? := by
    intro c hc
    rw [Nat.zero_add, r.own.cellAt (i * 7 + c) (by omega), flat_at _ _ _ _ hi hc]
  exact ⟨by simpa using key 0 (by omega), key 1 (by omega), key 2 (by omega), key 3 (by omega), key 4 (by omega), key 5 (by omega), key 6 (by omega)⟩

theorem mono_le {h : Nat → Nat} {k : Nat} (up : ∀ t, t < k → h t ≤ h (t + 1)) {a b : Nat} (hb : b ≤ k) (hab : a ≤ b) : h a ≤ h b := by
  induction b with
  | zero => obtain rfl : a = 0 := by omega
            exact Nat.le_refl _
  | succ b ih =>
    rcases Nat.lt_or_eq_of_le hab with h' | rfl
    · exact Nat.le_trans (ih (by omega) (by omega)) (up b (by omega))
    · exact Nat.le_refl _

theorem Rows.step {g k n : Nat} {w : World} {I : Nat → IV} {A J : Nat → Nat → Int} {sa si : Nat → Sl} {h : Nat → Nat} {ta ti : Sl} {H0 H1 : Nat}
    (hold : ∀ t, t < k → Twin (h t) (h (t + 1)) w (sa t) (si t) (I t) (A t) (J t)) (up : ∀ t, t < k → h t ≤ h (t + 1)) (lo : g < h 0) (hk : h k ≤ H0) (h01 : H0 ≤ H1) (h1 : H1 ≤ w.heap.size)
    (hn : Twin H0 H1 w ta ti (I k) (A k) (J k))
    (own : w.ownsRow g 39 7 (.slice (some ⟨g, 0, none⟩) (k + 1) n) (k + 1) (flat (fun t => { I t with args := sa t, into := si t }) k ++ ({ I k with args := ta, into := ti } : IV).cells.toList)) :
    ∃ (sa si : Nat → Sl) (h : Nat → Nat), Rows g (k + 1) n w I A J sa si h := by
  refine ⟨fun t => if t < k then sa t else ta, fun t => if t < k then si t else ti, fun t => if t ≤ k then h t else H1, ?_, ?_, ?_, ?_, ?_⟩
  · have e : flat (fun t => { I t with args := if t < k then sa t else ta, into := if t < k then si t else ti }) (k + 1) = flat (fun t => { I t with args := sa t, into := si t }) k ++ ({ I k with args := ta, into := ti } : IV).cells.toList := by
      rw [flat, flat_congr (g := fun t => { I t with args := sa t, into := si t }) (fun t ht => by simp [ht])]
      simp
    rw [e]; exact own
  · intro t ht
    rcases Nat.lt_or_eq_of_le (Nat.le_of_lt_succ ht) with h' | rfl
    · simp only [h', if_true, Nat.le_of_lt h', show t + 1 ≤ k from h']; exact hold t h'
    · simp only [Nat.lt_irrefl, if_false, Nat.le_refl, if_true, show ¬ t + 1 ≤ t by omega]; exact hn.wide hk (Nat.le_refl _)
  · intro t ht
    rcases Nat.lt_or_eq_of_le (Nat.le_of_lt_succ ht) with h' | rfl
    · simp only [if_true, Nat.le_of_lt h', show t + 1 ≤ k from h']; exact up t h'
    · simp only [Nat.le_refl, if_true, show ¬ t + 1 ≤ t by omega, if_false]; omega
  · simp only [Nat.zero_le, if_true]; exact lo
  · simp only [show ¬ k + 1 ≤ k by omega, if_false]; exact h1

theorem info39 : (Try.prog.info? 39).map (fun i => (i.zero, i.size, i.bytes)) = some (some IV.zero.val, 7, 88) := by kernel_rfl

set_option maxHeartbeats 1000000 in
theorem copyEachI_any (s : Sl) (I : Nat → IV) (A J : Nat → Nat → Int) (w : World) (hs : Inss w s I) (ha : ∀ k, k < s.n → Ints w (I k).args (A k)) (hj : ∀ k, k < s.n → Ints w (I k).into (J k))
    (hn : s.n ≤ 1000) (h1 : ∀ k, k < s.n → (I k).args.n ≤ 1000) (h2 : ∀ k, k < s.n → (I k).into.n ≤ 1000) :
    Calls Try.prog 128 #[.slice s.a s.n s.c, .func (.func 129) #[] #[]] w fun e w' => ∃ (sa si : Nat → Sl) (h : Nat → Nat), e = .returned (.slice (some ⟨w.heap.size, 0, none⟩) s.n s.n) ∧ Rows w.heap.size s.n s.n w' I A J sa si h ∧ Below w.heap.size w w' := by
  obtain ⟨i0, hi, hz0, hz1, hz2⟩ := info_parts info39
  have HA := hid ha
  have HJ := hid hj
  have HS := hid hs
  have H1 := hid h1
  have H2 := hid h2
  clear ha hj hs h1 h2
  go_enter Try.func128, Try.ntmps128
  go_wp2_with (at_make; refine wpList_make_own _ rfl (.const (.int .i64 0)) (.tmp 9) 35 rfl w.heap.size 39 i0 IV.zero.val 7 underlying35 hi hz0 hz1 .i64 .i64 s.n s.n rfl rfl rfl (by rw [hz2]; omega) (by simp only [maxLen]; omega) (Nat.le_refl _) ?_; intro w1 hown1 hgr1)
  have hb1 : Below w.heap.size w w1 := (same w).grown hgr1 (Nat.le_refl _) (fun k hk => by cases hk)
  have hlt1 : w.heap.size < w1.heap.size := by obtain ⟨_, h⟩ := hown1.lt w.heap.size rfl; exact h
  have HO1 := hid hown1
  clear hown1 hgr1
  go_loopw [5, 13] (fun v i wr => ∃ k : Nat, k ≤ s.n ∧ i = .int .i64 k ∧ v = .slice (some ⟨w.heap.size, 0, none⟩) k s.n ∧ (∃ (sa si : Nat → Sl) (h : Nat → Nat), Rows w.heap.size k s.n wr I A J sa si h) ∧ Below w.heap.size w wr) (fun _ i _ => s.n - (intOf i).toNat)
  case atStart => exact ⟨0, Nat.zero_le _, rfl, rfl, ⟨fun _ => ⟨none, 0, 0⟩, fun _ => ⟨none, 0, 0⟩, fun _ => w1.heap.size, HO1.out, fun t ht => by omega, fun t ht => by omega, hlt1, Nat.le_refl _⟩, hb1⟩
  case round =>
    clear HO1 hb1 hlt1
    obtain ⟨k, hk, rfl, rfl, ⟨sa, si, h, hr⟩, hb⟩ := hrel
    have HR := hid hr
    clear hr
    by_cases hlt : k < s.n
    · obtain ⟨b, o, hix, c0, c1, c2, c3, c4, c5, c6⟩ := (HS.out.on hb).at hlt
      go_wp2_with fail
      have hb2 := new hb (.cells (I k).cells 39)
      refine (copyIns_any (I k) (A k) (J k) _ ((HA.out k hlt).on hb2) ((HJ.out k hlt).on hb2) (H1.out k hlt) (H2.out k hlt)).mono ?_
      rintro e w2 ⟨ta, ti, rfl, htw, hb3⟩
      have HT := hid htw
      have hb4 := more hb2 hb3
      have hr2 := hid ((owns_on hb3 (owns_on (new (same _) _) HR.out.own)).alloc (.cells ({ I k with args := ta, into := ti } : IV).cells 39))
      clear htw
      go_wp2_with (at_builtin; refine wpList_append_fits _ rfl (.tmp 17) (.tmp 21) 35 rfl w.heap.size 39 i0 7 underlying35 hi hz1 w.heap.size k s.n _ rfl hr2.out ⟨w2.heap.size, 0, none⟩ 1 1 ({ I k with args := ta, into := ti } : IV).cells.toList rfl rfl ?c1 ?c2 ?c3 ?_)
      case c2 => exact ⟨rfl, rfl, rfl, rfl, rfl, rfl, rfl⟩
      case c3 => omega
      intro w4 hown4 hgr4
      have hz3 := hb3.size
      have hz4 := hgr4.size
      simp only [World.size_alloc] at hz3 hz4
      have hzr := hb.size
      have kg := kept_of_grown hgr4
      have hold : ∀ t, t < k → Twin (h t) (h (t + 1)) w4 (sa t) (si t) (I t) (A t) (J t) := fun t ht => by
        have q1 := HR.out.lo
        have q2 : h 0 ≤ h t := mono_le HR.out.up (by omega) (Nat.zero_le _)
        have q3 : h (t + 1) ≤ h k := mono_le HR.out.up (Nat.le_refl _) (by omega)
        have q4 := HR.out.hi
        exact ((((HR.out.tw t ht).on (new (same _) _) (by omega)).on hb3 (by simp; omega)).on (new (same _) _) (by omega)).kept kg (fun b h1 h2 => by simp; omega)
      have hnew : Twin (wr.heap.size + 1) w2.heap.size w4 ta ti (I k) (A k) (J k) := by
        have := (HT.out.on (new (same _) (.cells ({ I k with args := ta, into := ti } : IV).cells 39)) (Nat.le_refl _)).kept kg (fun b h1 h2 => by simp at *; omega)
        simpa using this
      have hbl : Below w.heap.size w w4 := (new hb4 _).grown hgr4 (by simp; omega) (fun k hk => by cases hk; exact Nat.le_refl _)
      have HN := hid (And.intro hold hnew)
      have HW := hid hown4
      clear hold hnew hown4 hgr4 kg hr2 HT hb3 hb2 hb4
      go_wp2
      go_round
      case rel => exact ⟨k + 1, by omega, by go_num, rfl, Rows.step HN.out.1 HR.out.up HR.out.lo (by have := HR.out.hi; omega) (by omega) (by omega) HN.out.2 HW.out, hbl⟩
      case measure => simp [intOf]; omega
    · obtain rfl : k = s.n := by omega
      go_wp2
      go_ret
      exact ⟨sa, si, h, rfl, HR.out, hb⟩

end Go.Proofs.Ytbmfimojhcdnbaa.Copy
