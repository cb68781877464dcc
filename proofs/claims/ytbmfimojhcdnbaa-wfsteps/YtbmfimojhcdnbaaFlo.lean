/-
  Who goes where: flow.isBlock, flow.leads, flow.Next; plnref3.In, Last, Next.
-/
import Derived.Test.YtbmfimojhcdnbaaNum
import Derived.Test.YtbmfimojhcdnbaaTy
import Derived.Maps.OwnSet
namespace Go.Proofs.Ytbmfimojhcdnbaa.Flo
open Go.RowKit View Rd Copy Num Ty
open Go.Maps (Keyed int_keyed keyOf_int_mk)

set_option linter.unusedVariables false

/-- A number names a block. -/
def isB (F : FV) (x : Int) : Bool := decide (0 ≤ x) && decide (x < F.blk.n)

theorem isBlock_any (F : FV) (x : Int) (w : World) : Calls Try.prog 58 #[F.val, .int .i64 x] w fun e w' => e = .returned (.bool (isB F x)) ∧ Below w.heap.size w w' := by
  by_cases h0 : 0 ≤ x
  · have d0 : decide (0 ≤ x) = true := by simpa using h0
    go_enter Try.func58, Try.ntmps58
    go_wp2
    go_ret
    exact ⟨by simp [isB, d0], new (same w) _⟩
  · have d0 : decide (0 ≤ x) = false := by simpa using h0
    go_enter Try.func58, Try.ntmps58
    go_wp2
    go_ret
    exact ⟨by simp [isB, d0], new (same w) _⟩

/-- Where a row's last one leads. -/
def led (s : Sl) (I : Nat → IV) : Sl := if s.n = 0 then ⟨none, 0, 0⟩ else if (I (s.n - 1)).op = 27 ∨ (I (s.n - 1)).op = 28 then (I (s.n - 1)).into else ⟨none, 0, 0⟩

set_option maxHeartbeats 400000 in
theorem leads_any (s : Sl) (I : Nat → IV) (w : World) (hs : Inss w s I) : Calls Try.prog 59 #[.agg #[.slice s.a s.n s.c]] w fun e w' => e = .returned (.slice (led s I).a (led s I).n (led s I).c) ∧ Below w.heap.size w w' := by
  have q2 := hs.2.1
  by_cases h0 : s.n = 0
  · have d0 : ((s.n : Int) == 0) = true := by simp [h0]
    have H0 := hid h0
    clear h0
    go_enter Try.func59, Try.ntmps59
    go_wp2
    go_ret
    exact ⟨by simp [led, H0.out], new (same w) _⟩
  have d0 : ((s.n : Int) == 0) = false := by simp [h0]
  obtain ⟨m, hm⟩ : ∃ m, s.n = m + 1 := ⟨s.n - 1, by omega⟩
  have hled : led s I = if (I m).op = 27 ∨ (I m).op = 28 then (I m).into else ⟨none, 0, 0⟩ := by simp [led, hm]
  have e1 : (s.n : Int) - 1 = m := by omega
  obtain ⟨b, o, hix, c0, c1, c2, c3, c4, c5, c6⟩ := (hs.on (new (same w) (.cells #[.slice s.a s.n s.c] 37))).at (k := m) (by omega)
  rw [← e1] at hix
  have HM := hid hm
  have HL := hid hled
  have E1 := hid e1
  clear hm hled e1
  by_cases g1 : (I m).op = 27
  · have t1 : ((I m).op != 27) = false := by simp [g1]
    have G1 := hid g1
    clear g1
    go_enter Try.func59, Try.ntmps59
    go_wp2
    go_ret
    exact ⟨by rw [HL.out, if_pos (.inl G1.out)]; rfl, new (new (same w) _) _⟩
  have t1 : ((I m).op != 27) = true := by simp [g1]
  by_cases g2 : (I m).op = 28
  · have t2 : ((I m).op != 28) = false := by simp [g2]
    have G2 := hid g2
    clear g2 g1
    go_enter Try.func59, Try.ntmps59
    go_wp2
    go_ret
    exact ⟨by rw [HL.out, if_pos (.inr G2.out)]; rfl, new (new (same w) _) _⟩
  have t2 : ((I m).op != 28) = true := by simp [g2]
  go_enter Try.func59, Try.ntmps59
  go_wp2
  go_ret
  exact ⟨by rw [HL.out, if_neg (by rintro (h | h); exact g1 h; exact g2 h)]; rfl, new (new (same w) _) _⟩

/-- Of the first k numbers those that name one of n, each once, in order. -/
def nxt (n : Nat) (f : Nat → Int) : Nat → List Nat
  | 0 => []
  | k + 1 => if 0 ≤ f k ∧ f k < n ∧ (f k).toNat ∉ nxt n f k then nxt n f k ++ [(f k).toNat] else nxt n f k

theorem nxt_yes {n : Nat} {f : Nat → Int} {k : Nat} (h1 : 0 ≤ f k) (h2 : f k < n) (h3 : (f k).toNat ∉ nxt n f k) : nxt n f (k + 1) = nxt n f k ++ [(f k).toNat] := if_pos ⟨h1, h2, h3⟩
theorem nxt_no {n : Nat} {f : Nat → Int} {k : Nat} (h : ¬ (0 ≤ f k ∧ f k < n ∧ (f k).toNat ∉ nxt n f k)) : nxt n f (k + 1) = nxt n f k := if_neg h
theorem nxt_le (n : Nat) (f : Nat → Int) : ∀ k, (nxt n f k).length ≤ k
  | 0 => Nat.le_refl _
  | k + 1 => by
    have := nxt_le n f k
    rw [nxt]; split
    · simp; omega
    · omega
theorem nxt_lt (n : Nat) (f : Nat → Int) : ∀ k, ∀ x ∈ nxt n f k, x < n
  | 0, x, h => by simp [nxt] at h
  | k + 1, x, h => by
    rw [nxt] at h; split at h
    · next g =>
      rcases List.mem_append.1 h with h | h
      · exact nxt_lt n f k x h
      · simp at h; omega
    · exact nxt_lt n f k x h
theorem nxt_nodup (n : Nat) (f : Nat → Int) : ∀ k, (nxt n f k).Nodup
  | 0 => by simp [nxt]
  | k + 1 => by
    have := nxt_nodup n f k
    rw [nxt]; split
    · next g => exact List.nodup_append.2 ⟨this, by simp, by intro a ha b hb; simp at hb; rintro rfl; exact g.2.2 (hb ▸ ha)⟩
    · exact this

/-- Where block b goes. -/
def su (F : FV) (b : Nat) : List Nat := if b < F.blk.n then nxt F.blk.n (F.J b ((F.B b).n - 1)) (led (F.B b) (F.I b)).n else []
def suI (F : FV) (x : Int) : List Nat := if 0 ≤ x then su F x.toNat else []

theorem suI_nat (F : FV) (b : Nat) : suI F (b : Int) = su F b := by simp [suI]

theorem su_lt (F : FV) (b : Nat) : ∀ x ∈ su F b, x < F.blk.n := by
  intro x h
  unfold su at h
  split at h
  · exact nxt_lt _ _ _ x h
  · simp at h
theorem su_nodup (F : FV) (b : Nat) : (su F b).Nodup := by
  unfold su
  split
  · exact nxt_nodup _ _ _
  · simp

/-- What Into name fits. -/
def Jng (F : FV) : Prop := ∀ j, j < F.blk.n → ∀ k, k < (F.B j).n → ∀ i, i < (F.I j k).into.n → W64 (F.J j k i)

theorem led_ints {F : FV} {w : World} (hF : In w F) {b : Nat} (hb : b < F.blk.n) : Ints w (led (F.B b) (F.I b)) (F.J b ((F.B b).n - 1)) := by
  unfold led
  split
  · exact ⟨Nat.le_refl _, Nat.zero_le _, fun _ => rfl, fun h => absurd h (by simp)⟩
  · split
    · exact hF.into b hb _ (by omega)
    · exact ⟨Nat.le_refl _, Nat.zero_le _, fun _ => rfl, fun h => absurd h (by simp)⟩

theorem led_le {F : FV} (hl : Light F) {b : Nat} (hb : b < F.blk.n) : (led (F.B b) (F.I b)).n ≤ 20 := by
  unfold led
  split
  · exact Nat.zero_le _
  · split
    · exact hl.into b hb _ (by omega)
    · exact Nat.zero_le _

theorem led_w64 {F : FV} (hj : Jng F) {b : Nat} (hb : b < F.blk.n) : ∀ i, i < (led (F.B b) (F.I b)).n → W64 (F.J b ((F.B b).n - 1) i) := by
  unfold led
  split
  · intro i hi; exact absurd hi (by simp)
  · split
    · exact hj b hb _ (by omega)
    · intro i hi; exact absurd hi (by simp)

theorem su_le {F : FV} (hl : Light F) (b : Nat) : (su F b).length ≤ 20 := by
  unfold su
  split
  · next h => exact Nat.le_trans (nxt_le _ _ _) (led_le hl h)
  · simp

abbrev ints (L : List Nat) : List Int := L.map (fun x : Nat => (x : Int))

/-- A new row of blocks is handed back. -/
def Gives (L : List Nat) (w : World) (e : Ending) (w' : World) : Prop :=
  ∃ s : Sl, e = .returned (.slice s.a s.n s.c) ∧ s.n = L.length ∧ Ints w' s (fun i => ((L.getD i 0 : Nat) : Int)) ∧ Mine w.heap.size w'.heap.size w' s ∧ Below w.heap.size w w'

theorem getD_ints (L : List Nat) (i : Nat) (h : i < L.length) : (ints L).getD i 0 = ((L.getD i 0 : Nat) : Int) := by
  simp [List.getD, h]

theorem gives_of_owns {L : List Nat} {w w' : World} {base : Nat} {v : Value} (h : w'.ownsRow base 3 1 v (ints L).length ((ints L).map (Value.int .i64))) (hL : L.length ≤ 1000) (hb : Below w.heap.size w w') (hbase : w.heap.size ≤ base) : Gives L w (.returned v) w' := by
  obtain ⟨t, ht, hn, hi, hm⟩ := ints_of_owns h (by simp; omega)
  refine ⟨t, by rw [ht], by simpa using hn, hi.congr (fun i h => getD_ints L i (by rw [hn] at h; simpa using h)), hm.wide hbase (Nat.le_refl _), hb⟩

theorem gives_nil {w w' : World} (hb : Below w.heap.size w w') : Gives [] w (.returned (.slice none 0 0)) w' :=
  ⟨⟨none, 0, 0⟩, rfl, rfl, ⟨Nat.le_refl _, Nat.zero_le _, fun _ => rfl, fun h => absurd h (by simp)⟩, fun h => absurd h (by simp), hb⟩

theorem underlyingSet : Try.prog.underlying 81 = some (.map 3 83) := by kernel_rfl
theorem zeroUnit (w : World) : (zeroValue 83).run Try.prog w = .ok (.agg #[]) w := by kernel_rfl

/-- Block B is a set of at most n numbers: those of S. -/
def SetIs (w : World) (B n : Nat) (S : List Nat) : Prop :=
  ∃ D : DataW Unit, w.ownsMap Try.prog 3 unitElem B n D ∧ ∀ v : Int, Maps.has D (.int .i64 v) = decide (0 ≤ v ∧ v.toNat ∈ S)

theorem SetIs.at_block {w w' : World} {B n : Nat} {S : List Nat} (h : SetIs w B n S) (e : w'.heap[B]? = w.heap[B]?) : SetIs w' B n S := by
  obtain ⟨D, ⟨es, clock, hb, hr⟩, hv⟩ := h
  exact ⟨D, ⟨es, clock, by rw [e]; exact hb, hr⟩, hv⟩
theorem SetIs.lt {w : World} {B n : Nat} {S : List Nat} (h : SetIs w B n S) : B < w.heap.size := by
  obtain ⟨D, ⟨es, clock, hb, hr⟩, hv⟩ := h
  exact (Array.getElem?_eq_some_iff.1 hb).1
theorem SetIs.on {w w' : World} {B n : Nat} {S : List Nat} (hb : Below w.heap.size w w') (h : SetIs w B n S) : SetIs w' B n S := h.at_block (hb.block B h.lt)
theorem SetIs.made (w : World) : SetIs (w.alloc (.map #[] 0)) w.heap.size 0 [] :=
  ⟨.map [], World.ownsMap_made _ _ _ _, fun v => by simp; rfl⟩
theorem SetIs.more {w : World} {B n m : Nat} {S : List Nat} (h : SetIs w B n S) (hn : n ≤ m) : SetIs w B m S := by
  obtain ⟨D, h1, h2⟩ := h
  exact ⟨D, h1.mono hn, h2⟩
theorem SetIs.look {w : World} {B n : Nat} {S : List Nat} (h : SetIs w B n S) {v : Int} (hv : W64 v) : (Instr.lookup 81 (.map (some B)) (.int .i64 v) true).run Try.prog w = .ok (.tuple #[.agg #[], .bool (decide (0 ≤ v ∧ v.toNat ∈ S))]) w := by
  obtain ⟨D, ho, hm⟩ := h
  obtain ⟨x, ps, hrun, hat⟩ := ho.look_ok law3 underlyingSet (zeroUnit w) unitElem_mk (keyOf_int_mk underlying3 (wf64 hv))
  obtain ⟨rfl, _⟩ := unitElem_inv hat
  rw [hrun, hm v]

theorem wpList_putS {ops : Array Oper} {rest : List Oper} {o : Oper} {a : Act} {Q : Exit → Act → World → Prop} {w : World} (hg : o.guard = none) (mo x y : Operand) (hop : o.op = Op.mapUpdate 81 mo x y)
    (B n : Nat) (S : List Nat) (hm : a.eval mo = .map (some B)) (h : SetIs w B n S) (hn : n ≤ 1000000) (v : Int) (hx : a.eval x = .int .i64 v) (hy : a.eval y = .agg #[]) (hv : W64 v) (hv0 : 0 ≤ v)
    (hK : ∀ w', SetIs w' B (n + 1) (S ++ [v.toNat]) → w.grownBy w' (some B) → wpList Try.prog ops Q rest (a.put o.dst undef) w') :
    wpList Try.prog ops Q (o :: rest) a w := by
  obtain ⟨D, ho, hD⟩ := h
  refine wpList_mapUpdate_own w hg mo x y 81 hop 3 83 law3 underlyingSet _ B n D hm ho (by unfold maxLen; omega) _ _ _ hx hy (keyOf_int_mk underlying3 (wf64 hv)) _ [] unitElem_mk ?_
  intro w' hown hgr
  refine hK w' ⟨_, hown, fun z => ?_⟩ hgr
  have hmap : Maps.IsMap D := by obtain ⟨_, _, _, _, _, e⟩ := ho; exact ⟨_, e⟩
  by_cases e : z = v
  · subst e
    have hk : WideAt.IsKeyLit (.int .i64 z) := by simp [WideAt.IsKeyLit]
    rw [Maps.has_put_same hmap hk _]
    simp [hv0]
  · have hne : (Lit.int .i64 z) ≠ .int .i64 v := fun h => e (by simpa using h)
    rw [Maps.has_put_other hne, hD z]
    apply decide_eq_decide.2
    simp only [List.mem_append, List.mem_singleton]
    constructor
    · rintro ⟨h1, h2⟩; exact ⟨h1, .inl h2⟩
    · rintro ⟨h1, h2 | h2⟩
      · exact ⟨h1, h2⟩
      · exact absurd h2 (by omega)

theorem owns_grown {w w' : World} {base B : Nat} {e : TypeId} {size : Nat} {v : Value} {n : Nat} {xs : List Value} (h : w.ownsRow base e size v n xs) (hB : B < base) (hg : w.grownBy w' (some B)) : w'.ownsRow base e size v n xs := by
  refine ⟨h.1, ?_⟩
  rcases h.2 with h | ⟨g, cap, cur, h1, h2, h3, h4⟩
  · exact .inl h
  · exact .inr ⟨g, cap, cur, h1, h2, by rw [hg.block g (Array.getElem?_eq_some_iff.1 h3).1 (fun e => by have := Option.some.inj e; omega)]; exact h3, h4⟩

set_option maxRecDepth 10000 in
set_option maxHeartbeats 1000000 in
theorem next_flow (F : FV) (x : Int) (w : World) (hF : In w F) (hl : Light F) (hj : Jng F) :
    Calls Try.prog 23 #[F.val, .int .i64 x] w fun e w' => Gives (suI F x) w e w' := by
  have hmm := @run_makeMap Try.prog
  have HF := hid hF
  have gb := hl.blk
  by_cases hx : isB F x = true
  case neg =>
    have hx' : isB F x = false := by simpa using hx
    have hs : suI F x = [] := by
      unfold isB at hx'
      unfold suI
      split
      · unfold su; rw [if_neg]; simp at hx'; omega
      · rfl
    rw [hs]
    clear hF hx hs hl hj
    go_enter Try.func23, Try.ntmps23
    go_wp2_with fail
    refine (isBlock_any F x _).mono ?_
    rintro e w1 ⟨rfl, hb1⟩
    rw [hx']
    have B1 := hid (View.more (new (same w) _) hb1)
    clear hb1
    go_wp2_with fail
    go_ret
    exact gives_nil B1.out
  obtain ⟨b, rfl⟩ : ∃ b : Nat, x = b := ⟨x.toNat, by unfold isB at hx; simp at hx; omega⟩
  have hb : b < F.blk.n := by unfold isB at hx; simp at hx; omega
  rw [suI_nat]
  have hsu : su F b = nxt F.blk.n (F.J b ((F.B b).n - 1)) (led (F.B b) (F.I b)).n := by rw [su, if_pos hb]
  rw [hsu]
  have HI := hid (led_ints hF hb)
  have hle := led_le hl hb
  have HW := hid (led_w64 hj hb)
  have HLD : ∀ w', In w' F → Calls Try.prog 59 #[.agg #[.slice (F.B b).a (F.B b).n (F.B b).c]] w' fun e w'' => e = .returned (.slice (led (F.B b) (F.I b)).a (led (F.B b) (F.I b)).n (led (F.B b) (F.I b)).c) ∧ Below w'.heap.size w' w'' := fun w' h => leads_any _ _ _ (h.ins b hb)
  have HLDS := hid HLD
  obtain ⟨L, hL⟩ : ∃ L, led (F.B b) (F.I b) = L := ⟨_, rfl⟩
  obtain ⟨f, hf⟩ : ∃ f, F.J b ((F.B b).n - 1) = f := ⟨_, rfl⟩
  rw [hL] at HI HLDS HW hle
  rw [hf] at HI HW
  rw [hL, hf]
  clear hF hl hj hsu HLD hL hf
  go_enter Try.func23, Try.ntmps23
  go_wp2_with fail
  refine (isBlock_any F b _).mono ?_
  rintro e w1 ⟨rfl, hb1⟩
  rw [hx]
  have b1 := View.more (new (same w) _) hb1
  have f1 : FuncAt w1 w.heap.size F := (FuncAt.alloc w F).on hb1
  have hwl : w.heap.size < w1.heap.size := World.block_lt_of_cell? _ _ f1.c0
  have HX := hid hx
  clear hb1 hx
  obtain ⟨bb, oo, hix, hck⟩ := (HF.out.blk.on (new b1 (.map #[] 0))).at hb
  have FA := hid f1
  have B1 := hid b1
  obtain ⟨c0, c1, c2, c3, c4⟩ := f1
  clear b1
  go_wp2_with fail
  refine (HLDS.out _ (HF.out.on (new B1.out _))).mono ?_
  rintro e w2 ⟨rfl, hb2⟩
  have f2 : FuncAt w2 w.heap.size F := (FA.out.on (new (same _) _)).on hb2
  have b2 := View.more (new B1.out _) hb2
  have s2 : SetIs w2 w1.heap.size 0 [] := (SetIs.made w1).on hb2
  have hw2 := hb2.size
  simp only [World.size_alloc] at hw2
  obtain ⟨M, hM⟩ : ∃ M, w1.heap.size = M := ⟨_, rfl⟩
  rw [hM] at s2 hw2 hwl
  rw [hM]
  have S2 := hid s2
  have F2 := hid f2
  have B2 := hid b2
  clear hmm hb2 f2 b2 s2 FA B1 c0 c1 c2 c3 c4 hix hck HLDS hM
  go_wp2_with fail
  go_loopw [5, 23] (fun v i wr => ∃ k : Nat, k ≤ L.n ∧ i = .int .i64 k ∧ wr.ownsRow (M + 1) 3 1 v (ints (nxt F.blk.n f k)).length ((ints (nxt F.blk.n f k)).map (Value.int .i64)) ∧ SetIs wr M k (nxt F.blk.n f k) ∧ FuncAt wr w.heap.size F ∧ Below w.heap.size w wr ∧ M < wr.heap.size) (fun _ i _ => L.n - (intOf i).toNat)
  case atStart => exact ⟨0, Nat.zero_le _, rfl, World.ownsRow_nil _ _ _ _, S2.out, F2.out, B2.out, by omega⟩
  case round =>
    clear S2 F2 B2 hw2
    obtain ⟨k, hk, rfl, hown, hset, hfa, hbr, hMr⟩ := hrel
    have HO := hid hown
    have HS := hid hset
    have HFA := hid hfa
    obtain ⟨c0, c1, c2, c3, c4⟩ := hfa
    have hwlr : w.heap.size < wr.heap.size := World.block_lt_of_cell? _ _ c0
    clear hown hset
    by_cases hlt : k < L.n
    · obtain ⟨ib, io, hiy, hcell⟩ := (HI.out.on hbr).at hlt
      have hw := HW.out k hlt
      have hlk := HS.out.look hw
      have hnl := nxt_le F.blk.n f k
      obtain ⟨X, hX⟩ : ∃ X, nxt F.blk.n f k = X := ⟨_, rfl⟩
      rw [hX] at hlk hnl HO HS
      have HXX := hid hX
      clear hX
      by_cases g1 : 0 ≤ f k ∧ (f k).toNat ∈ X
      · rw [decide_eq_true g1] at hlk
        have G1 := hid g1
        clear g1
        go_wp2_with fail
        go_round
        case rel =>
          have e : nxt F.blk.n f (k + 1) = X := by rw [nxt_no (by rw [HXX.out]; intro h; exact h.2.2 G1.out.2), HXX.out]
          exact ⟨k + 1, by omega, by go_num, by rw [e]; exact HO.out.alloc _, by rw [e]; exact (HS.out.on (new (same _) _)).more (by omega), HFA.out.on (new (same _) _), new hbr _, by simp; omega⟩
        case measure => simp [intOf]; omega
      rw [decide_eq_false g1] at hlk
      go_wp2_with fail
      refine (isBlock_any F (f k) _).mono ?_
      rintro e w3 ⟨rfl, hb3⟩
      have b3 := View.more (new hbr _) hb3
      have o3 := owns_on hb3 (HO.out.alloc (.cells #[] 83))
      have s3 := (HS.out.on (new (same _) (.cells #[] 83))).on hb3
      have f3 := (HFA.out.on (new (same _) (.cells #[] 83))).on hb3
      have z3 := hb3.size
      simp only [World.size_alloc] at z3
      have B3 := hid b3
      have O3 := hid o3
      have S3 := hid s3
      have F3 := hid f3
      clear hb3 b3 o3 s3 f3 HO HS HFA c0 c1 c2 c3 c4 hlk hiy hcell hbr
      by_cases g2 : isB F (f k) = true
      case neg =>
        have g2' : isB F (f k) = false := by simpa using g2
        rw [g2']
        go_wp2_with fail
        go_round
        case rel =>
          have e : nxt F.blk.n f (k + 1) = X := by rw [nxt_no (by intro h; unfold isB at g2'; simp at g2'; omega), HXX.out]
          exact ⟨k + 1, by omega, by go_num, by rw [e]; exact O3.out, by rw [e]; exact S3.out.more (by omega), F3.out, B3.out, by omega⟩
        case measure => simp [intOf]; omega
      rw [g2]
      have h0 : 0 ≤ f k := by unfold isB at g2; simp at g2; omega
      have h1 : f k < F.blk.n := by unfold isB at g2; simp at g2; omega
      have G2 := hid g2
      clear g2
      go_wp2_with (first | (at_mapUpdate; refine wpList_putS rfl (.tmp 40) (.tmp 41) (.tmp 42) rfl M k X rfl S3.out (by omega) (f k) rfl rfl hw h0 ?_; intro w4 hs4 hg4; have S4 := hid hs4; have HG4 := hid hg4; clear hs4 hg4) | (at_builtin; refine append_one rfl (.tmp 43) (.tmp 45) rfl (M + 1) _ (ints X) rfl (f k) (owns_grown O3.out (by omega) HG4.out) rfl (by simp; omega) (by have := HG4.out.size; omega) ?_; intro v5 w5 hown5 hgr5))
      have z4 := HG4.out.size
      have k4 : ∀ q, (_root_.Go.Value.ownBlock _ = some q) → M + 1 ≤ q := fun q hq => (O3.out.lt q hq).1
      have b4 : Below w.heap.size w w4 := B3.out.grown HG4.out (by omega) (fun q hq => by cases hq; omega)
      have b5 : Below w.heap.size w w5 := (new b4 _).grown hgr5 (by simp; omega) (fun q hq => by have := k4 q hq; omega)
      have f4 : FuncAt w4 w.heap.size F := FuncAt.grown F3.out HG4.out (fun q hq => by cases hq; omega)
      have f5 : FuncAt w5 w.heap.size F := FuncAt.grown (f4.on (new (same _) _)) hgr5 (fun q hq => by have := k4 q hq; omega)
      have s4 := S4.out.on (new (same w4) (.cells #[.int .i64 (f k)] 3))
      have s5 : SetIs w5 M (k + 1) (X ++ [(f k).toNat]) := s4.at_block (hgr5.block M s4.lt (fun e => by have := k4 M e.symm; omega))
      have z5 := hgr5.size
      simp only [World.size_alloc] at z5
      have FIN := hid (And.intro hown5 (And.intro s5 (And.intro f5 b5)))
      clear hown5 hgr5 s5 f5 b5 s4 f4 b4 k4
      go_round
      case rel =>
        have e : nxt F.blk.n f (k + 1) = X ++ [(f k).toNat] := by rw [nxt_yes h0 h1 (by rw [HXX.out]; exact fun h => g1 ⟨h0, h⟩), HXX.out]
        have e2 : ints (X ++ [(f k).toNat]) = ints X ++ [f k] := by simp [ints]; omega
        exact ⟨k + 1, by omega, by go_num, by rw [e, e2]; exact FIN.out.1, by rw [e]; exact FIN.out.2.1, FIN.out.2.2.1, FIN.out.2.2.2, by omega⟩
      case measure => simp [intOf]; omega
    · obtain rfl : k = L.n := by omega
      go_wp2_with fail
      go_ret
      exact gives_of_owns HO.out (by have := nxt_le F.blk.n f L.n; omega) hbr (by omega)

end Go.Proofs.Ytbmfimojhcdnbaa.Flo
