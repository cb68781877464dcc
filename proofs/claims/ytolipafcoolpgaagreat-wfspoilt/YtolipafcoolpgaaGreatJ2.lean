/-
  Flo, FloQ, FloP, FloB: laid together.
-/
import Derived.Test.YtolipafcoolpgaaGreatJ0
import Derived.Test.YtolipafcoolpgaaGreatJ1
import Derived.Maps.OwnSet
import Derived.WalkKit
import Derived.ProofKit
import Derived.Deep.OwnRows
import Derived.Maps.AppendAt
import Derived.Deep.RegionHeld3
/-
  Who goes where: flow.isBlock, flow.leads, flow.Next; plnref3.In, Last, Next.
-/
namespace Go.Proofs.YtolipafcoolpgaaGreat.Flo
open Go.RowKit View Rd Copy Num Ty
open Go.Maps (Keyed int_keyed keyOf_int_mk)

set_option linter.unusedVariables false

def isB (F : FV) (x : Int) : Bool := decide (0 ≤ x) && decide (x < F.blk.n)

theorem isBlock_any (F : FV) (x : Int) (w : World) : Calls Tryz.prog 199 #[F.val, .int .i64 x] w fun e w' => e = .returned (.bool (isB F x)) ∧ Below w.heap.size w w' := by
 by_cases h0 : 0 ≤ x
 ·have d0 : decide (0 ≤ x) = true := by simpa using h0
  go_enter Tryz.func199, Tryz.ntmps199
  go_wp2
  go_ret
  exact ⟨by simp [isB, d0], new (same w) _⟩
 ·have d0 : decide (0 ≤ x) = false := by simpa using h0
  go_enter Tryz.func199, Tryz.ntmps199
  go_wp2
  go_ret
  exact ⟨by simp [isB, d0], new (same w) _⟩

def led (s : Sl) (I : Nat → IV) : Sl := if s.n = 0 then ⟨none, 0, 0⟩ else if (I (s.n - 1)).op = 27 ∨ (I (s.n - 1)).op = 28 then (I (s.n - 1)).into else ⟨none, 0, 0⟩

set_option maxHeartbeats 400000 in
theorem leads_any (s : Sl) (I : Nat → IV) (w : World) (hs : Inss w s I) : Calls Tryz.prog 200 #[.agg #[.slice s.a s.n s.c]] w fun e w' => e = .returned (.slice (led s I).a (led s I).n (led s I).c) ∧ Below w.heap.size w w' := by
 have q2 := hs.2.1
 by_cases h0 : s.n = 0
 ·have d0 : ((s.n : Int) == 0) = true := by simp [h0]
  have H0 := hid h0
  clear h0
  go_enter Tryz.func200, Tryz.ntmps200
  go_wp2
  go_ret
  exact ⟨by simp [led, H0.out], new (same w) _⟩
 have d0 : ((s.n : Int) == 0) = false := by simp [h0]
 obtain ⟨m, hm⟩ : ∃ m, s.n = m + 1 := ⟨s.n - 1, by omega⟩
 have hled : led s I = if (I m).op = 27 ∨ (I m).op = 28 then (I m).into else ⟨none, 0, 0⟩ := by simp [led, hm]
 have e1 : (s.n : Int) - 1 = m := by omega
 obtain ⟨b, o, hix, c0, c1, c2, c3, c4, c5, c6⟩ := (hs.on (new (same w) (.cells #[.slice s.a s.n s.c] 40))).at (k := m) (by omega)
 rw [← e1] at hix
 have HM := hid hm
 have HL := hid hled
 have E1 := hid e1
 clear hm hled e1
 by_cases g1 : (I m).op = 27
 ·have t1 : ((I m).op != 27) = false := by simp [g1]
  have G1 := hid g1
  clear g1
  go_enter Tryz.func200, Tryz.ntmps200
  go_wp2
  go_ret
  exact ⟨by rw [HL.out, if_pos (.inl G1.out)]; rfl, new (new (same w) _) _⟩
 have t1 : ((I m).op != 27) = true := by simp [g1]
 by_cases g2 : (I m).op = 28
 ·have t2 : ((I m).op != 28) = false := by simp [g2]
  have G2 := hid g2
  clear g2 g1
  go_enter Tryz.func200, Tryz.ntmps200
  go_wp2
  go_ret
  exact ⟨by rw [HL.out, if_pos (.inr G2.out)]; rfl, new (new (same w) _) _⟩
 have t2 : ((I m).op != 28) = true := by simp [g2]
 go_enter Tryz.func200, Tryz.ntmps200
 go_wp2
 go_ret
 exact ⟨by rw [HL.out, if_neg (by rintro (h | h); exact g1 h; exact g2 h)]; rfl, new (new (same w) _) _⟩

def nxt (n : Nat) (f : Nat → Int) : Nat → List Nat
 | 0 => []
 | k + 1 => if 0 ≤ f k ∧ f k < n ∧ (f k).toNat ∉ nxt n f k then nxt n f k ++ [(f k).toNat] else nxt n f k

theorem nxt_yes {n : Nat} {f : Nat → Int} {k : Nat} (h1 : 0 ≤ f k) (h2 : f k < n) (h3 : (f k).toNat ∉ nxt n f k) : nxt n f (k + 1) = nxt n f k ++ [(f k).toNat] := if_pos ⟨h1, h2, h3⟩
theorem nxt_no {n : Nat} {f : Nat → Int} {k : Nat} (h : ¬ (0 ≤ f k ∧ f k < n ∧ (f k).toNat ∉ nxt n f k)) : nxt n f (k + 1) = nxt n f k := if_neg h
theorem nxt_le (n : Nat) (f : Nat → Int) : ∀ k, (nxt n f k).length ≤ k
 | 0 => Nat.le_refl _
 | k + 1 => by
  have := nxt_le n f k
  rw [nxt]; split
  ·simp; omega
  ·omega
theorem nxt_lt (n : Nat) (f : Nat → Int) : ∀ k, ∀ x ∈ nxt n f k, x < n
 | 0, x, h => by simp [nxt] at h
 | k + 1, x, h => by
  rw [nxt] at h; split at h
  ·next g =>
   rcases List.mem_append.1 h with h | h
   ·exact nxt_lt n f k x h
   ·simp at h; omega
  ·exact nxt_lt n f k x h
theorem nxt_nodup (n : Nat) (f : Nat → Int) : ∀ k, (nxt n f k).Nodup
 | 0 => by simp [nxt]
 | k + 1 => by
  have := nxt_nodup n f k
  rw [nxt]; split
  ·next g => exact List.nodup_append.2 ⟨this, by simp, by intro a ha b hb; simp at hb; rintro rfl; exact g.2.2 (hb ▸ ha)⟩
  ·exact this

def su (F : FV) (b : Nat) : List Nat := if b < F.blk.n then nxt F.blk.n (F.J b ((F.B b).n - 1)) (led (F.B b) (F.I b)).n else []
def suI (F : FV) (x : Int) : List Nat := if 0 ≤ x then su F x.toNat else []

theorem suI_nat (F : FV) (b : Nat) : suI F (b : Int) = su F b := by simp [suI]

theorem su_lt (F : FV) (b : Nat) : ∀ x ∈ su F b, x < F.blk.n := by
 intro x h
 unfold su at h
 split at h
 ·exact nxt_lt _ _ _ x h
 ·simp at h
theorem su_nodup (F : FV) (b : Nat) : (su F b).Nodup := by
 unfold su
 split
 ·exact nxt_nodup _ _ _
 ·simp

def Jng (F : FV) : Prop := ∀ j, j < F.blk.n → ∀ k, k < (F.B j).n → ∀ i, i < (F.I j k).into.n → W64 (F.J j k i)

theorem led_ints {F : FV} {w : World} (hF : In w F) {b : Nat} (hb : b < F.blk.n) : Ints w (led (F.B b) (F.I b)) (F.J b ((F.B b).n - 1)) := by
 unfold led
 split
 ·exact ⟨Nat.le_refl _, Nat.zero_le _, fun _ => rfl, fun h => absurd h (by simp)⟩
 ·split
  ·exact hF.into b hb _ (by omega)
  ·exact ⟨Nat.le_refl _, Nat.zero_le _, fun _ => rfl, fun h => absurd h (by simp)⟩

theorem led_le {F : FV} (hl : Light F) {b : Nat} (hb : b < F.blk.n) : (led (F.B b) (F.I b)).n ≤ 20 := by
 unfold led
 split
 ·exact Nat.zero_le _
 ·split
  ·exact hl.into b hb _ (by omega)
  ·exact Nat.zero_le _

theorem led_w64 {F : FV} (hj : Jng F) {b : Nat} (hb : b < F.blk.n) : ∀ i, i < (led (F.B b) (F.I b)).n → W64 (F.J b ((F.B b).n - 1) i) := by
 unfold led
 split
 ·intro i hi; exact absurd hi (by simp)
 ·split
  ·exact hj b hb _ (by omega)
  ·intro i hi; exact absurd hi (by simp)

theorem su_le {F : FV} (hl : Light F) (b : Nat) : (su F b).length ≤ 20 := by
 unfold su
 split
 ·next h => exact Nat.le_trans (nxt_le _ _ _) (led_le hl h)
 ·simp

abbrev ints (L : List Nat) : List Int := L.map (fun x : Nat => (x : Int))

def Gives (L : List Nat) (w : World) (e : Ending) (w' : World) : Prop :=
 ∃ s : Sl, e = .returned (.slice s.a s.n s.c) ∧ s.n = L.length ∧ Ints w' s (fun i => ((L.getD i 0 : Nat) : Int)) ∧ Mine w.heap.size w'.heap.size w' s ∧ Below w.heap.size w w'

theorem getD_ints (L : List Nat) (i : Nat) (h : i < L.length) : (ints L).getD i 0 = ((L.getD i 0 : Nat) : Int) := by
 simp [List.getD, h]

theorem gives_of_owns {L : List Nat} {w w' : World} {base : Nat} {v : Value} (h : w'.ownsRow base 3 1 v (ints L).length ((ints L).map (Value.int .i64))) (hL : L.length ≤ 1000) (hb : Below w.heap.size w w') (hbase : w.heap.size ≤ base) : Gives L w (.returned v) w' := by
 obtain ⟨t, ht, hn, hi, hm⟩ := ints_of_owns h (by simp; omega)
 refine ⟨t, by rw [ht], by simpa using hn, hi.congr (fun i h => getD_ints L i (by rw [hn] at h; simpa using h)), hm.wide hbase (Nat.le_refl _), hb⟩

theorem gives_nil {w w' : World} (hb : Below w.heap.size w w') : Gives [] w (.returned (.slice none 0 0)) w' :=
 ⟨⟨none, 0, 0⟩, rfl, rfl, ⟨Nat.le_refl _, Nat.zero_le _, fun _ => rfl, fun h => absurd h (by simp)⟩, fun h => absurd h (by simp), hb⟩

theorem underlyingSet : Tryz.prog.underlying 243 = some (.map 3 107) := by kernel_rfl
theorem zeroUnit (w : World) : (zeroValue 107).run Tryz.prog w = .ok (.agg #[]) w := by kernel_rfl

def SetIs (w : World) (B n : Nat) (S : List Nat) : Prop :=
 ∃ D : DataW Unit, w.ownsMap Tryz.prog 3 unitElem B n D ∧ ∀ v : Int, Maps.has D (.int .i64 v) = decide (0 ≤ v ∧ v.toNat ∈ S)

theorem SetIs.at_block {w w' : World} {B n : Nat} {S : List Nat} (h : SetIs w B n S) (e : w'.heap[B]? = w.heap[B]?) : SetIs w' B n S := by
 obtain ⟨D, ⟨es, clock, hb, hr⟩, hv⟩ := h
 exact ⟨D, ⟨es, clock, by rw [e]; exact hb, hr⟩, hv⟩
theorem SetIs.lt {w : World} {B n : Nat} {S : List Nat} (h : SetIs w B n S) : B < w.heap.size := by
 obtain ⟨D, ⟨es, clock, hb, hr⟩, hv⟩ := h
 exact (Array.getElem?_eq_some_iff.1 hb).1
theorem SetIs.on {w w' : World} {B n : Nat} {S : List Nat} (hb : Below w.heap.size w w') (h : SetIs w B n S) : SetIs w' B n S := h.at_block (hb.block B h.lt)
theorem SetIs.made (w : World) : SetIs (w.alloc (.map #[] 0)) w.heap.size 0 [] :=
 ⟨.map [], World.ownsMap_made _ _ _ _, fun v => by simp; rfl⟩
theorem SetIs.more {w : World} {B n m : Nat} {S : List Nat} (h : SetIs w B n S) (hn : n ≤ m) : SetIs w B m S := by
 obtain ⟨D, h1, h2⟩ := h
 exact ⟨D, h1.mono hn, h2⟩
theorem SetIs.look {w : World} {B n : Nat} {S : List Nat} (h : SetIs w B n S) {v : Int} (hv : W64 v) : (Instr.lookup 243 (.map (some B)) (.int .i64 v) true).run Tryz.prog w = .ok (.tuple #[.agg #[], .bool (decide (0 ≤ v ∧ v.toNat ∈ S))]) w := by
 obtain ⟨D, ho, hm⟩ := h
 obtain ⟨x, ps, hrun, hat⟩ := ho.look_ok law3 underlyingSet (zeroUnit w) unitElem_mk (keyOf_int_mk underlying3 (wf64 hv))
 obtain ⟨rfl, _⟩ := unitElem_inv hat
 rw [hrun, hm v]

theorem wpList_putS {ops : Array Oper} {rest : List Oper} {o : Oper} {a : Act} {Q : Exit → Act → World → Prop} {w : World} (hg : o.guard = none) (mo x y : Operand) (hop : o.op = Op.mapUpdate 243 mo x y)
  (B n : Nat) (S : List Nat) (hm : a.eval mo = .map (some B)) (h : SetIs w B n S) (hn : n ≤ 1000000) (v : Int) (hx : a.eval x = .int .i64 v) (hy : a.eval y = .agg #[]) (hv : W64 v) (hv0 : 0 ≤ v)
  (hK : ∀ w', SetIs w' B (n + 1) (S ++ [v.toNat]) → w.grownBy w' (some B) → wpList Tryz.prog ops Q rest (a.put o.dst undef) w') :
  wpList Tryz.prog ops Q (o :: rest) a w := by
 obtain ⟨D, ho, hD⟩ := h
 refine wpList_mapUpdate_own w hg mo x y 243 hop 3 107 law3 underlyingSet _ B n D hm ho (by unfold maxLen; omega) _ _ _ hx hy (keyOf_int_mk underlying3 (wf64 hv)) _ [] unitElem_mk ?_
 intro w' hown hgr
 refine hK w' ⟨_, hown, fun z => ?_⟩ hgr
 have hmap : Maps.IsMap D := by obtain ⟨_, _, _, _, _, e⟩ := ho; exact ⟨_, e⟩
 by_cases e : z = v
 ·subst e
  have hk : WideAt.IsKeyLit (.int .i64 z) := by simp [WideAt.IsKeyLit]
  rw [Maps.has_put_same hmap hk _]
  simp [hv0]
 ·have hne : (Lit.int .i64 z) ≠ .int .i64 v := fun h => e (by simpa using h)
  rw [Maps.has_put_other hne, hD z]
  apply decide_eq_decide.2
  simp only [List.mem_append, List.mem_singleton]
  constructor
  ·rintro ⟨h1, h2⟩; exact ⟨h1, .inl h2⟩
  ·rintro ⟨h1, h2 | h2⟩
   ·exact ⟨h1, h2⟩
   ·exact absurd h2 (by omega)

theorem owns_grown {w w' : World} {base B : Nat} {e : TypeId} {size : Nat} {v : Value} {n : Nat} {xs : List Value} (h : w.ownsRow base e size v n xs) (hB : B < base) (hg : w.grownBy w' (some B)) : w'.ownsRow base e size v n xs := by
 refine ⟨h.1, ?_⟩
 rcases h.2 with h | ⟨g, cap, cur, h1, h2, h3, h4⟩
 ·exact .inl h
 ·exact .inr ⟨g, cap, cur, h1, h2, by rw [hg.block g (Array.getElem?_eq_some_iff.1 h3).1 (fun e => by have := Option.some.inj e; omega)]; exact h3, h4⟩

set_option maxRecDepth 10000 in
set_option maxHeartbeats 1000000 in
theorem next_flow (F : FV) (x : Int) (w : World) (hF : In w F) (hl : Light F) (hj : Jng F) :
  Calls Tryz.prog 186 #[F.val, .int .i64 x] w fun e w' => Gives (suI F x) w e w' := by
 have hmm := @run_makeMap Tryz.prog
 have HF := hid hF
 have gb := hl.blk
 by_cases hx : isB F x = true
 case neg =>
  have hx' : isB F x = false := by simpa using hx
  have hs : suI F x = [] := by
   unfold isB at hx'
   unfold suI
   split
   ·unfold su; rw [if_neg]; simp at hx'; omega
   ·rfl
  rw [hs]
  clear hF hx hs hl hj
  go_enter Tryz.func186, Tryz.ntmps186
  go_wp2_with fail
  refine (isBlock_any F x _).mono ?_
  rintro e w1 ⟨rfl, hb1⟩
  rw [hx']
  have B1 := hid (View.more (new (same w) _) hb1)
  clear hb1
  go_wp2_with fail
  go_ret
  exact gives_nil B1.out
 obtain ⟨b, rfl⟩ : ∃ b : Nat, x = b := ⟨x.toNat, by unfold isB at hx; simp at hx; omega⟩
 have hb : b < F.blk.n := by unfold isB at hx; simp at hx; omega
 rw [suI_nat]
 have hsu : su F b = nxt F.blk.n (F.J b ((F.B b).n - 1)) (led (F.B b) (F.I b)).n := by rw [su, if_pos hb]
 rw [hsu]
 have HI := hid (led_ints hF hb)
 have hle := led_le hl hb
 have HW := hid (led_w64 hj hb)
 have HLD : ∀ w', In w' F → Calls Tryz.prog 200 #[.agg #[.slice (F.B b).a (F.B b).n (F.B b).c]] w' fun e w'' => e = .returned (.slice (led (F.B b) (F.I b)).a (led (F.B b) (F.I b)).n (led (F.B b) (F.I b)).c) ∧ Below w'.heap.size w' w'' := fun w' h => leads_any _ _ _ (h.ins b hb)
 have HLDS := hid HLD
 obtain ⟨L, hL⟩ : ∃ L, led (F.B b) (F.I b) = L := ⟨_, rfl⟩
 obtain ⟨f, hf⟩ : ∃ f, F.J b ((F.B b).n - 1) = f := ⟨_, rfl⟩
 rw [hL] at HI HLDS HW hle
 rw [hf] at HI HW
 rw [hL, hf]
 clear hF hl hj hsu HLD hL hf
 go_enter Tryz.func186, Tryz.ntmps186
 go_wp2_with fail
 refine (isBlock_any F b _).mono ?_
 rintro e w1 ⟨rfl, hb1⟩
 rw [hx]
 have b1 := View.more (new (same w) _) hb1
 have f1 : FuncAt w1 w.heap.size F := (FuncAt.alloc w F).on hb1
 have hwl : w.heap.size < w1.heap.size := World.block_lt_of_cell? _ _ f1.c0
 have HX := hid hx
 clear hb1 hx
 obtain ⟨bb, oo, hix, hck⟩ := (HF.out.blk.on (new b1 (.map #[] 0))).at hb
 have FA := hid f1
 have B1 := hid b1
 obtain ⟨c0, c1, c2, c3, c4⟩ := f1
 clear b1
 go_wp2_with fail
 refine (HLDS.out _ (HF.out.on (new B1.out _))).mono ?_
 rintro e w2 ⟨rfl, hb2⟩
 have f2 : FuncAt w2 w.heap.size F := (FA.out.on (new (same _) _)).on hb2
 have b2 := View.more (new B1.out _) hb2
 have s2 : SetIs w2 w1.heap.size 0 [] := (SetIs.made w1).on hb2
 have hw2 := hb2.size
 simp only [World.size_alloc] at hw2
 obtain ⟨M, hM⟩ : ∃ M, w1.heap.size = M := ⟨_, rfl⟩
 rw [hM] at s2 hw2 hwl
 rw [hM]
 have S2 := hid s2
 have F2 := hid f2
 have B2 := hid b2
 clear hmm hb2 f2 b2 s2 FA B1 c0 c1 c2 c3 c4 hix hck HLDS hM
 go_wp2_with fail
 go_loopw [5, 23] (fun v i wr => ∃ k : Nat, k ≤ L.n ∧ i = .int .i64 k ∧ wr.ownsRow (M + 1) 3 1 v (ints (nxt F.blk.n f k)).length ((ints (nxt F.blk.n f k)).map (Value.int .i64)) ∧ SetIs wr M k (nxt F.blk.n f k) ∧ FuncAt wr w.heap.size F ∧ Below w.heap.size w wr ∧ M < wr.heap.size) (fun _ i _ => L.n - (intOf i).toNat)
 case atStart => exact ⟨0, Nat.zero_le _, rfl, World.ownsRow_nil _ _ _ _, S2.out, F2.out, B2.out, by omega⟩
 case round =>
  clear S2 F2 B2 hw2
  obtain ⟨k, hk, rfl, hown, hset, hfa, hbr, hMr⟩ := hrel
  have HO := hid hown
  have HS := hid hset
  have HFA := hid hfa
  obtain ⟨c0, c1, c2, c3, c4⟩ := hfa
  have hwlr : w.heap.size < wr.heap.size := World.block_lt_of_cell? _ _ c0
  clear hown hset
  by_cases hlt : k < L.n
  ·obtain ⟨ib, io, hiy, hcell⟩ := (HI.out.on hbr).at hlt
   have hw := HW.out k hlt
   have hlk := HS.out.look hw
   have hnl := nxt_le F.blk.n f k
   obtain ⟨X, hX⟩ : ∃ X, nxt F.blk.n f k = X := ⟨_, rfl⟩
   rw [hX] at hlk hnl HO HS
   have HXX := hid hX
   clear hX
   by_cases g1 : 0 ≤ f k ∧ (f k).toNat ∈ X
   ·rw [decide_eq_true g1] at hlk
    have G1 := hid g1
    clear g1
    go_wp2_with fail
    go_round
    case rel =>
     have e : nxt F.blk.n f (k + 1) = X := by rw [nxt_no (by rw [HXX.out]; intro h; exact h.2.2 G1.out.2), HXX.out]
     exact ⟨k + 1, by omega, by go_num, by rw [e]; exact HO.out.alloc _, by rw [e]; exact (HS.out.on (new (same _) _)).more (by omega), HFA.out.on (new (same _) _), new hbr _, by simp; omega⟩
    case measure => simp [intOf]; omega
   rw [decide_eq_false g1] at hlk
   go_wp2_with fail
   refine (isBlock_any F (f k) _).mono ?_
   rintro e w3 ⟨rfl, hb3⟩
   have b3 := View.more (new hbr _) hb3
   have o3 := owns_on hb3 (HO.out.alloc (.cells #[] 107))
   have s3 := (HS.out.on (new (same _) (.cells #[] 107))).on hb3
   have f3 := (HFA.out.on (new (same _) (.cells #[] 107))).on hb3
   have z3 := hb3.size
   simp only [World.size_alloc] at z3
   have B3 := hid b3
   have O3 := hid o3
   have S3 := hid s3
   have F3 := hid f3
   clear hb3 b3 o3 s3 f3 HO HS HFA c0 c1 c2 c3 c4 hlk hiy hcell hbr
   by_cases g2 : isB F (f k) = true
   case neg =>
    have g2' : isB F (f k) = false := by simpa using g2
    rw [g2']
    go_wp2_with fail
    go_round
    case rel =>
     have e : nxt F.blk.n f (k + 1) = X := by rw [nxt_no (by intro h; unfold isB at g2'; simp at g2'; omega), HXX.out]
     exact ⟨k + 1, by omega, by go_num, by rw [e]; exact O3.out, by rw [e]; exact S3.out.more (by omega), F3.out, B3.out, by omega⟩
    case measure => simp [intOf]; omega
   rw [g2]
   have h0 : 0 ≤ f k := by unfold isB at g2; simp at g2; omega
   have h1 : f k < F.blk.n := by unfold isB at g2; simp at g2; omega
   have G2 := hid g2
   clear g2
   go_wp2_with (first | (at_mapUpdate; refine wpList_putS rfl (.tmp 40) (.tmp 41) (.tmp 42) rfl M k X rfl S3.out (by omega) (f k) rfl rfl hw h0 ?_; intro w4 hs4 hg4; have S4 := hid hs4; have HG4 := hid hg4; clear hs4 hg4) | (at_builtin; refine append_one rfl (.tmp 43) (.tmp 45) rfl (M + 1) _ (ints X) rfl (f k) (owns_grown O3.out (by omega) HG4.out) rfl (by simp; omega) (by have := HG4.out.size; omega) ?_; intro v5 w5 hown5 hgr5))
   have z4 := HG4.out.size
   have k4 : ∀ q, (_root_.Go.Value.ownBlock _ = some q) → M + 1 ≤ q := fun q hq => (O3.out.lt q hq).1
   have b4 : Below w.heap.size w w4 := B3.out.grown HG4.out (by omega) (fun q hq => by cases hq; omega)
   have b5 : Below w.heap.size w w5 := (new b4 _).grown hgr5 (by simp; omega) (fun q hq => by have := k4 q hq; omega)
   have f4 : FuncAt w4 w.heap.size F := FuncAt.grown F3.out HG4.out (fun q hq => by cases hq; omega)
   have f5 : FuncAt w5 w.heap.size F := FuncAt.grown (f4.on (new (same _) _)) hgr5 (fun q hq => by have := k4 q hq; omega)
   have s4 := S4.out.on (new (same w4) (.cells #[.int .i64 (f k)] 3))
   have s5 : SetIs w5 M (k + 1) (X ++ [(f k).toNat]) := s4.at_block (hgr5.block M s4.lt (fun e => by have := k4 M e.symm; omega))
   have z5 := hgr5.size
   simp only [World.size_alloc] at z5
   have FIN := hid (And.intro hown5 (And.intro s5 (And.intro f5 b5)))
   clear hown5 hgr5 s5 f5 b5 s4 f4 b4 k4
   go_round
   case rel =>
    have e : nxt F.blk.n f (k + 1) = X ++ [(f k).toNat] := by rw [nxt_yes h0 h1 (by rw [HXX.out]; exact fun h => g1 ⟨h0, h⟩), HXX.out]
    have e2 : ints (X ++ [(f k).toNat]) = ints X ++ [f k] := by simp [ints]; omega
    exact ⟨k + 1, by omega, by go_num, by rw [e, e2]; exact FIN.out.1, by rw [e]; exact FIN.out.2.1, FIN.out.2.2.1, FIN.out.2.2.2, by omega⟩
   case measure => simp [intOf]; omega
  ·obtain rfl : k = L.n := by omega
   go_wp2_with fail
   go_ret
   exact gives_of_owns HO.out (by have := nxt_le F.blk.n f L.n; omega) hbr (by omega)

end Go.Proofs.YtolipafcoolpgaaGreat.Flo

/-
  Depth first, in plain words: what is done, what has been met; what follows of it.
-/
namespace Go.Proofs.YtolipafcoolpgaaGreat.Flo

set_option linter.unusedVariables false

def upd (m : Nat → Bool) (t : Nat) : Nat → Bool := fun x => if x = t then true else m x

inductive Rest (N : Nat → List Nat) : List Nat → List Nat → (Nat → Bool) → List Nat → (Nat → Bool) → Prop
 | nil (d : List Nat) (m : Nat → Bool) : Rest N [] d m d m
 | skip {t : Nat} {l d : List Nat} {m : Nat → Bool} {d' : List Nat} {m' : Nat → Bool} : m t = true → Rest N l d m d' m' → Rest N (t :: l) d m d' m'
 | go {t : Nat} {l d : List Nat} {m : Nat → Bool} {d1 : List Nat} {m1 : Nat → Bool} {d' : List Nat} {m' : Nat → Bool} : m t = false → Rest N (N t) d (upd m t) d1 m1 → Rest N l (d1 ++ [t]) m1 d' m' → Rest N (t :: l) d m d' m'

inductive Way (N : Nat → List Nat) : Nat → Nat → Prop
 | refl (a : Nat) : Way N a a
 | step {a b c : Nat} : Way N a b → c ∈ N b → Way N a c

theorem Way.trans {N : Nat → List Nat} {a b c : Nat} (h : Way N a b) (k : Way N b c) : Way N a c := by
 induction k with
 | refl => exact h
 | step _ hc ih => exact ih.step hc

theorem Way.ahead {N : Nat → List Nat} {a b c : Nat} (h : b ∈ N a) (k : Way N b c) : Way N a c := ((Way.refl a).step h).trans k

structure Told (N : Nat → List Nat) (l : List Nat) (m : Nat → Bool) (e : List Nat) (m' : Nat → Bool) : Prop where
 nd : e.Nodup
 new : ∀ x ∈ e, m x = false
 met : ∀ x, m' x = true ↔ m x = true ∨ x ∈ e
 all : ∀ x ∈ l, m' x = true
 shut : ∀ x ∈ e, ∀ t ∈ N x, m' t = true
 par : ∀ (i x : Nat), e[i]? = some x → x ∈ l ∨ ∃ j y : Nat, i < j ∧ e[j]? = some y ∧ x ∈ N y
 from_ : ∀ x ∈ e, ∃ y ∈ l, Way N y x
 back : ∀ (i x : Nat), e[i]? = some x → ∀ t ∈ N x, m t = true ∨ (∃ j : Nat, j < i ∧ e[j]? = some t) ∨ Way N t x

theorem Rest.told {N : Nat → List Nat} {l d : List Nat} {m : Nat → Bool} {d' : List Nat} {m' : Nat → Bool} (h : Rest N l d m d' m') : ∃ e, d' = d ++ e ∧ Told N l m e m' := by
 induction h with
 | nil d m => exact ⟨[], by simp, ⟨by simp, by simp, by simp, by simp, by simp, by simp, by simp, by simp⟩⟩
 | @skip t l d m d' m' hm h ih =>
  obtain ⟨e, he, T⟩ := ih
  refine ⟨e, he, T.nd, T.new, T.met, ?_, T.shut, ?_, ?_, T.back⟩
  ·intro x hx
   rcases List.mem_cons.1 hx with rfl | hx
   ·exact (T.met x).2 (.inl hm)
   ·exact T.all x hx
  ·intro i x hx
   rcases T.par i x hx with h | h
   ·exact .inl (List.mem_cons_of_mem _ h)
   ·exact .inr h
  ·intro x hx
   obtain ⟨y, hy, hw⟩ := T.from_ x hx
   exact ⟨y, List.mem_cons_of_mem _ hy, hw⟩
 | @go t l d m d1 m1 d' m' hm h1 h2 ih1 ih2 =>
  obtain ⟨e1, he1, A⟩ := ih1
  obtain ⟨e2, he2, B⟩ := ih2
  have hu : ∀ x, upd m t x = true ↔ x = t ∨ m x = true := fun x => by unfold upd; split <;> simp_all
  have hu' : ∀ x, upd m t x = false → x ≠ t ∧ m x = false := fun x h => by
   refine ⟨fun e => ?_, ?_⟩
   ·subst e; simp [upd] at h
   ·by_cases hx : m x = true
    ·have := (hu x).2 (.inr hx); rw [this] at h; cases h
    ·simpa using hx
  have h1t : m1 t = true := (A.met t).2 (.inl ((hu t).2 (.inl rfl)))
  have hm1 : ∀ x, m1 x = true ↔ m x = true ∨ x = t ∨ x ∈ e1 := fun x => by
   rw [A.met x, hu x]
   constructor
   ·rintro ((h | h) | h)
    ·exact .inr (.inl h)
    ·exact .inl h
    ·exact .inr (.inr h)
   ·rintro (h | h | h)
    ·exact .inl (.inr h)
    ·exact .inl (.inl h)
    ·exact .inr h
  have hE : d' = d ++ (e1 ++ t :: e2) := by rw [he2, he1]; simp
  have tE1 : t ∉ e1 := fun h => (hu' t (A.new t h)).1 rfl
  have e2new : ∀ x ∈ e2, m x = false ∧ x ≠ t ∧ x ∉ e1 := fun x hx => by
   have := B.new x hx
   refine ⟨?_, ?_, ?_⟩
   ·by_cases h : m x = true
    ·rw [(hm1 x).2 (.inl h)] at this; cases this
    ·simpa using h
   ·intro h; rw [(hm1 x).2 (.inr (.inl h))] at this; cases this
   ·intro h; rw [(hm1 x).2 (.inr (.inr h))] at this; cases this
  have hmem : ∀ x, x ∈ e1 ++ t :: e2 ↔ x ∈ e1 ∨ x = t ∨ x ∈ e2 := fun x => by simp
  have at1 : ∀ i, i < e1.length → (e1 ++ t :: e2)[i]? = e1[i]? := fun i hi => List.getElem?_append_left hi
  have at2 : (e1 ++ t :: e2)[e1.length]? = some t := by simp
  have at3 : ∀ i, (e1 ++ t :: e2)[e1.length + 1 + i]? = e2[i]? := fun i => by
   rw [List.getElem?_append_right (by omega)]
   have : e1.length + 1 + i - e1.length = i + 1 := by omega
   rw [this]; simp
  have split3 : ∀ i x, (e1 ++ t :: e2)[i]? = some x → (i < e1.length ∧ e1[i]? = some x) ∨ (i = e1.length ∧ x = t) ∨ ∃ k, i = e1.length + 1 + k ∧ e2[k]? = some x := fun i x hx => by
   rcases Nat.lt_trichotomy i e1.length with h | h | h
   ·exact .inl ⟨h, by rw [← at1 i h]; exact hx⟩
   ·subst h; rw [at2] at hx; exact .inr (.inl ⟨rfl, by simpa using hx.symm⟩)
   ·obtain ⟨k, rfl⟩ : ∃ k, i = e1.length + 1 + k := ⟨i - e1.length - 1, by omega⟩
    exact .inr (.inr ⟨k, rfl, by rw [← at3 k]; exact hx⟩)
  have fromT : ∀ x ∈ e1, Way N t x := fun x hx => by
   obtain ⟨y, hy, hw⟩ := A.from_ x hx
   exact Way.ahead hy hw
  have hmet : ∀ x, m' x = true ↔ m x = true ∨ x ∈ e1 ++ t :: e2 := fun x => by
   rw [B.met x, hm1 x, hmem]
   constructor
   ·rintro ((h | h | h) | h)
    ·exact .inl h
    ·exact .inr (.inr (.inl h))
    ·exact .inr (.inl h)
    ·exact .inr (.inr (.inr h))
   ·rintro (h | h | h | h)
    ·exact .inl (.inl h)
    ·exact .inl (.inr (.inr h))
    ·exact .inl (.inr (.inl h))
    ·exact .inr h
  refine ⟨e1 ++ t :: e2, hE, ?_, ?_, hmet, ?_, ?_, ?_, ?_, ?_⟩
  ·rw [List.nodup_append]
   refine ⟨A.nd, ?_, ?_⟩
   ·rw [List.nodup_cons]
    exact ⟨fun h => (e2new t h).2.1 rfl, B.nd⟩
   ·intro a ha b hb e
    subst e
    rcases List.mem_cons.1 hb with rfl | hb
    ·exact tE1 ha
    ·exact (e2new _ hb).2.2 ha
  ·intro x hx
   rcases (hmem x).1 hx with h | h | h
   ·exact (hu' x (A.new x h)).2
   ·rw [h]; exact hm
   ·exact (e2new x h).1
  ·intro x hx
   rcases List.mem_cons.1 hx with rfl | hx
   ·exact (hmet x).2 (.inr (by simp))
   ·exact B.all x hx
  ·intro x hx s hs
   have mono : ∀ y, m1 y = true → m' y = true := fun y hy => (B.met y).2 (.inl hy)
   rcases (hmem x).1 hx with h | h | h
   ·exact mono s (A.shut x h s hs)
   ·subst h; exact mono s (A.all s hs)
   ·exact B.shut x h s hs
  ·intro i x hx
   rcases split3 i x hx with ⟨hi, h⟩ | ⟨hi, h⟩ | ⟨k, hi, h⟩
   ·rcases A.par i x h with h' | ⟨j, y, hj, hy, hxy⟩
    ·exact .inr ⟨e1.length, t, hi, at2, h'⟩
    ·have hjl : j < e1.length := (List.getElem?_eq_some_iff.1 hy).1
     exact .inr ⟨j, y, hj, by rw [at1 j hjl]; exact hy, hxy⟩
   ·exact .inl (by rw [h]; simp)
   ·rcases B.par k x h with h' | ⟨j, y, hj, hy, hxy⟩
    ·exact .inl (List.mem_cons_of_mem _ h')
    ·exact .inr ⟨e1.length + 1 + j, y, by omega, by rw [at3 j]; exact hy, hxy⟩
  ·intro x hx
   rcases (hmem x).1 hx with h | h | h
   ·exact ⟨t, by simp, fromT x h⟩
   ·exact ⟨t, by simp, by rw [h]; exact Way.refl t⟩
   ·obtain ⟨y, hy, hw⟩ := B.from_ x h
    exact ⟨y, List.mem_cons_of_mem _ hy, hw⟩
  ·intro i x hx s hs
   rcases split3 i x hx with ⟨hi, h⟩ | ⟨hi, h⟩ | ⟨k, hi, h⟩
   ·rcases A.back i x h s hs with h' | ⟨j, hj, hy⟩ | h'
    ·rcases (hu s).1 h' with rfl | h'
     ·exact .inr (.inr (fromT x (List.mem_of_getElem? h)))
     ·exact .inl h'
    ·exact .inr (.inl ⟨j, hj, by rw [at1 j (by omega)]; exact hy⟩)
    ·exact .inr (.inr h')
   ·subst h
    rcases (hm1 s).1 (A.all s hs) with h' | h' | h'
    ·exact .inl h'
    ·exact .inr (.inr (by rw [h']; exact Way.refl _))
    ·obtain ⟨j, hj, hy⟩ := List.getElem_of_mem h'
     exact .inr (.inl ⟨j, by omega, by rw [at1 j hj, List.getElem?_eq_getElem hj, hy]⟩)
   ·rcases B.back k x h s hs with h' | ⟨j, hj, hy⟩ | h'
    ·rcases (hm1 s).1 h' with h' | h' | h'
     ·exact .inl h'
     ·exact .inr (.inl ⟨e1.length, by omega, by rw [at2, h']⟩)
     ·obtain ⟨j, hj, hy⟩ := List.getElem_of_mem h'
      exact .inr (.inl ⟨j, by omega, by rw [at1 j hj, List.getElem?_eq_getElem hj, hy]⟩)
    ·exact .inr (.inl ⟨e1.length + 1 + j, by omega, by rw [at3 j]; exact hy⟩)
    ·exact .inr (.inr h')

def unmet (m : Nat → Bool) : Nat → Nat
 | 0 => 0
 | n + 1 => unmet m n + if m n = true then 0 else 1

theorem unmet_upd {m : Nat → Bool} {t : Nat} (hm : m t = false) : ∀ {n : Nat}, unmet m n = unmet (upd m t) n + if t < n then 1 else 0
 | 0 => by simp [unmet]
 | n + 1 => by
  rw [unmet, unmet, unmet_upd hm (n := n)]
  by_cases e : n = t
  ·subst e; simp [upd, hm]
  ·have : upd m t n = m n := by simp [upd, e]
   rw [this]
   split <;> split <;> split <;> omega

theorem unmet_mono {m m' : Nat → Bool} (h : ∀ x, m x = true → m' x = true) : ∀ n, unmet m' n ≤ unmet m n
 | 0 => Nat.le_refl _
 | n + 1 => by
  have := unmet_mono h n
  rw [unmet, unmet]
  by_cases e : m n = true
  ·simp [e, h n e]; exact this
  ·simp [e]; split <;> omega

theorem rest_ex {N : Nat → List Nat} {n : Nat} (hN : ∀ b, ∀ x ∈ N b, x < n) : ∀ (k : Nat) (l : List Nat), (∀ x ∈ l, x < n) → ∀ (d : List Nat) (m : Nat → Bool), unmet m n = k → ∃ d' m', Rest N l d m d' m' := by
 intro k
 induction k using Nat.strongRecOn with
 | _ k ih =>
  intro l
  induction l with
  | nil => intro _ d m _; exact ⟨d, m, .nil d m⟩
  | cons t l ihl =>
   intro hl d m hk
   by_cases hm : m t = true
   ·obtain ⟨d', m', h⟩ := ihl (fun x hx => hl x (List.mem_cons_of_mem _ hx)) d m hk
    exact ⟨d', m', .skip hm h⟩
   ·have hm' : m t = false := by simpa using hm
    have ht : t < n := hl t (by simp)
    have hu := unmet_upd hm' (n := n)
    rw [if_pos ht] at hu
    obtain ⟨d1, m1, h1⟩ := ih (unmet (upd m t) n) (by omega) (N t) (hN t) d (upd m t) rfl
    obtain ⟨e, he, T⟩ := h1.told
    have hle : unmet m1 n ≤ unmet (upd m t) n := unmet_mono (fun x hx => (T.met x).2 (.inl hx)) n
    obtain ⟨d', m', h2⟩ := ih (unmet m1 n) (by omega) l (fun x hx => hl x (List.mem_cons_of_mem _ hx)) (d1 ++ [t]) m1 rfl
    exact ⟨d', m', .go hm' h1 h2⟩

inductive Stk (N : Nat → List Nat) : List Nat → (Nat → Bool) → List (Nat × List Nat) → List Nat → Prop
 | nil (d : List Nat) (m : Nat → Bool) : Stk N d m [] d
 | top {d : List Nat} {m : Nat → Bool} {ws : List (Nat × List Nat)} {b : Nat} {l d1 : List Nat} {m1 : Nat → Bool} {D : List Nat} : Rest N l d m d1 m1 → Stk N (d1 ++ [b]) m1 ws D → Stk N d m (ws ++ [(b, l)]) D

theorem Stk.inv {N : Nat → List Nat} {d : List Nat} {m : Nat → Bool} {ws : List (Nat × List Nat)} {b : Nat} {l D : List Nat} (h : Stk N d m (ws ++ [(b, l)]) D) : ∃ d1 m1, Rest N l d m d1 m1 ∧ Stk N (d1 ++ [b]) m1 ws D := by
 generalize hW : ws ++ [(b, l)] = W at h
 cases h with
 | nil => simp at hW
 | @top ws' b' l' d1 m1 _ _ _ h1 h2 =>
  obtain ⟨rfl, h'⟩ := List.append_inj' hW rfl
  simp at h'
  obtain ⟨rfl, rfl⟩ := h'
  exact ⟨_, _, h1, h2⟩

theorem Stk.inv_nil {N : Nat → List Nat} {d : List Nat} {m : Nat → Bool} {D : List Nat} (h : Stk N d m [] D) : D = d := by
 generalize hW : ([] : List (Nat × List Nat)) = W at h
 cases h with
 | nil => rfl
 | top _ _ => simp at hW

theorem Stk.pop {N : Nat → List Nat} {d : List Nat} {m : Nat → Bool} {ws : List (Nat × List Nat)} {b : Nat} {D : List Nat} (h : Stk N d m (ws ++ [(b, [])]) D) : Stk N (d ++ [b]) m ws D := by
 obtain ⟨d1, m1, h1, h2⟩ := h.inv
 cases h1
 exact h2

theorem Stk.skip {N : Nat → List Nat} {d : List Nat} {m : Nat → Bool} {ws : List (Nat × List Nat)} {b t : Nat} {l D : List Nat} (hm : m t = true) (h : Stk N d m (ws ++ [(b, t :: l)]) D) : Stk N d m (ws ++ [(b, l)]) D := by
 obtain ⟨d1, m1, h1, h2⟩ := h.inv
 cases h1 with
 | skip _ h => exact .top h h2
 | go h' _ _ => rw [hm] at h'; cases h'

theorem Stk.push {N : Nat → List Nat} {d : List Nat} {m : Nat → Bool} {ws : List (Nat × List Nat)} {b t : Nat} {l D : List Nat} (hm : m t = false) (h : Stk N d m (ws ++ [(b, t :: l)]) D) : Stk N d (upd m t) (ws ++ [(b, l)] ++ [(t, N t)]) D := by
 obtain ⟨d1, m1, h1, h2⟩ := h.inv
 cases h1 with
 | skip h' _ => rw [hm] at h'; cases h'
 | go _ h3 h4 => exact .top h3 (.top h4 h2)

def toCome (N : Nat → List Nat) (m : Nat → Bool) : Nat → Nat
 | 0 => 0
 | n + 1 => toCome N m n + if m n = true then 0 else (N n).length + 2

def pile (W : List (Nat × List Nat)) : Nat := (W.map (fun p => p.2.length + 1)).sum

theorem toCome_upd {N : Nat → List Nat} {m : Nat → Bool} {t : Nat} (hm : m t = false) : ∀ {n : Nat}, t < n → toCome N m n = toCome N (upd m t) n + (N t).length + 2
 | 0, h => by omega
 | n + 1, h => by
  rw [toCome, toCome]
  by_cases e : n = t
  ·subst e
   have key : ∀ k, k ≤ n → toCome N m k = toCome N (upd m n) k := by
    intro k
    induction k with
    | zero => intro _; rfl
    | succ k ih =>
     intro hk
     rw [toCome, toCome, ih (by omega)]
     have : upd m n k = m k := by simp [upd, show k ≠ n by omega]
     rw [this]
   rw [key n (Nat.le_refl _)]
   simp [upd, hm]; omega
  ·rw [toCome_upd hm (n := n) (by omega)]
   have : upd m t n = m n := by simp [upd, e]
   rw [this]
   split <;> omega

theorem pile_snoc (W : List (Nat × List Nat)) (p : Nat × List Nat) : pile (W ++ [p]) = pile W + p.2.length + 1 := by
 simp [pile]; omega
theorem pile_len : ∀ (W : List (Nat × List Nat)), W.length ≤ pile W
 | [] => by simp
 | p :: W => by have := pile_len W; simp [pile] at *; omega

end Go.Proofs.YtolipafcoolpgaaGreat.Flo

/-
  Who comes there: flow.Prev. Rows of rows that a call makes itself.
-/
namespace Go.Proofs.YtolipafcoolpgaaGreat.Flo
open Go.RowKit View Rd Copy Num Ty

set_option linter.unusedVariables false

theorem append_at {ops : Array Oper} {rest : List Oper} {o : Oper} {a : Act} {Q : Exit → Act → World → Prop} {w : World} (hgd : o.guard = none) (s x : Operand)
  (ho : o.op = .call { callee := .builtin .append, args := #[s, x], argTypes := #[33, 33] })
  (base : Nat) (v : Value) (xs : List Int) (hs : a.eval s = v) (y : Int) (hown : w.ownsRow base 3 1 v xs.length (xs.map (Value.int .i64)))
  (hx : a.eval x = .slice (some ⟨w.heap.size, 0, none⟩) 1 1)
  (hsm : xs.length ≤ 1000000) (hbase : base ≤ w.heap.size)
  (h : ∀ v' w', w'.ownsRow base 3 1 v' (xs ++ [y]).length ((xs ++ [y]).map (Value.int .i64)) → (w.alloc (.cells #[.int .i64 y] 3)).grownBy w' v.ownBlock → (v'.ownBlock = v.ownBlock ∨ v'.ownBlock = some (w.heap.size + 1)) → wpList Tryz.prog ops Q rest (a.put o.dst v') w') : wpList Tryz.prog ops Q (o :: rest) a (w.alloc (.cells #[.int .i64 y] 3)) := by
 obtain ⟨i0, hi, hz0, hz1, hz2⟩ := info_parts info3
 refine wpList_append_own_at _ hgd s x 33 ho base 3 i0 (.int .i64 0) 1 8 underlying33 hi hz0 hz1 hz2 rfl (by decide) v _ _ hs (hown.alloc _) ⟨w.heap.size, 0, none⟩ 1 1 [.int .i64 y] hx rfl (cell_one_new _ _ _) (by intro u hu; simp at hu; subst hu; rfl) (by simp only [maxLen]; omega) (by omega) (by simp; omega) ?_
 intro v' w' h1 h2 _ h4
 exact h v' w' (by simpa using h1) h2 (by simpa using h4)

theorem info33 : (Tryz.prog.info? 33).map (fun i => (i.zero, i.size, i.bytes)) = some (some (.slice none 0 0), 1, 24) := by kernel_rfl
theorem underlying153 : Tryz.prog.underlying 153 = some (.slice 33) := by kernel_rfl
theorem size33 : (Tryz.prog.info? 33).map (fun i => i.size) = some 1 := by kernel_rfl

abbrev Sl.val (s : Sl) : Value := .slice s.a s.n s.c

theorem owns_sl {w : World} {base e z n : Nat} {v : Value} {xs : List Value} (h : w.ownsRow base e z v n xs) : ∃ s : Sl, v = Sl.val s := by
 rcases h.2 with ⟨rfl, _⟩ | ⟨g, cap, cur, rfl, _⟩
 ·exact ⟨⟨none, 0, 0⟩, rfl⟩
 ·exact ⟨⟨some ⟨g, 0, none⟩, n, cap⟩, rfl⟩

structure Pv (w : World) (M n : Nat) (R : Nat → Sl) (L : Nat → List Nat) : Prop where
 row : w.rowIs M 33 n (fun i => Sl.val (R i))
 own : ∀ i, i < n → w.ownsRow (M + 1) 3 1 (Sl.val (R i)) (ints (L i)).length ((ints (L i)).map (Value.int .i64))
 apart : ∀ i j, i < n → j < n → i ≠ j → ∀ g, (Sl.val (R i)).ownBlock = some g → (Sl.val (R j)).ownBlock ≠ some g

theorem owns_at {w w' : World} {base e z n : Nat} {v : Value} {xs : List Value} (h : w.ownsRow base e z v n xs) (hb : ∀ g, v.ownBlock = some g → g < w.heap.size → w'.heap[g]? = w.heap[g]?) : w'.ownsRow base e z v n xs := by
 refine ⟨h.1, ?_⟩
 rcases h.2 with h | ⟨g, cap, cur, h1, h2, h3, h4⟩
 ·exact .inl h
 ·exact .inr ⟨g, cap, cur, h1, h2, by rw [hb g (by rw [h1]; rfl) (Array.getElem?_eq_some_iff.1 h3).1]; exact h3, h4⟩

theorem Pv.on {w w' : World} {M n : Nat} {R : Nat → Sl} {L : Nat → List Nat} (hb : Below w.heap.size w w') (h : Pv w M n R L) : Pv w' M n R L :=
 ⟨h.row.of_block (hb.block M h.row.lt), fun i hi => owns_on hb (h.own i hi), h.apart⟩

theorem Pv.congr {w : World} {M n : Nat} {R : Nat → Sl} {L L' : Nat → List Nat} (h : Pv w M n R L) (e : ∀ i, i < n → L i = L' i) : Pv w M n R L' :=
 ⟨h.row, fun i hi => by rw [← e i hi]; exact h.own i hi, h.apart⟩

theorem Pv.step {w w' : World} {M n t : Nat} {R : Nat → Sl} {L : Nat → List Nat} {y : Nat} {s : Sl} (h : Pv w M n R L) (ht : t < n)
  (hown : w'.ownsRow (M + 1) 3 1 (Sl.val s) (ints (L t) ++ [(y : Int)]).length ((ints (L t) ++ [(y : Int)]).map (Value.int .i64))) (hg : (w.alloc (.cells #[.int .i64 y] 3)).grownBy w' (Sl.val (R t)).ownBlock)
  (hat : (Sl.val s).ownBlock = (Sl.val (R t)).ownBlock ∨ (Sl.val s).ownBlock = some (w.heap.size + 1)) :
  Pv (w'.setCell ⟨M, t, none⟩ (Sl.val s)) M n (fun i => if i = t then s else R i) (fun i => if i = t then L t ++ [y] else L i) := by
 have hM := h.row.lt
 have hlow : ∀ i, i < n → ∀ g, (Sl.val (R i)).ownBlock = some g → M + 1 ≤ g ∧ g < w.heap.size := fun i hi g hg => (h.own i hi).lt g hg
 have keep : ∀ i, i < n → i ≠ t → w'.ownsRow (M + 1) 3 1 (Sl.val (R i)) (ints (L i)).length ((ints (L i)).map (Value.int .i64)) := fun i hi hne => by
  refine owns_at ((h.own i hi).alloc (.cells #[.int .i64 y] 3)) (fun g hg' hlt => hg.block g hlt (fun e => ?_))
  exact h.apart i t hi ht hne g hg' e.symm
 have hrow : w'.rowIs M 33 n (fun i => Sl.val (R i)) := (h.row.alloc _).of_block (hg.block M (by simp; omega) (fun e => by have := hlow t ht M e.symm; omega))
 refine ⟨(hrow.set t (Sl.val s)).congr (fun i hi => by split <;> rfl), fun i hi => ?_, fun i j hi hj hne g h1 h2 => ?_⟩
 ·by_cases e : i = t
  ·subst e
   simp only [if_true]
   have e2 : ints (L i ++ [y]) = ints (L i) ++ [(y : Int)] := by simp [ints]
   rw [e2]
   exact owns_at hown (fun g hg hlt => Below.heap_setCell _ _ _ _ (by have := (hown.lt g hg).1; show g ≠ M; omega))
  ·simp only [e, if_false]
   exact owns_at (keep i hi e) (fun g hg hlt => Below.heap_setCell _ _ _ _ (by have := (hlow i hi g hg).1; show g ≠ M; omega))
 ·by_cases e1 : i = t
  ·subst e1
   have e2 : ¬ j = i := fun e => hne e.symm
   simp only [if_true, e2, if_false] at h1 h2
   rcases hat with h' | h'
   ·rw [h'] at h1; exact h.apart i j hi hj hne g h1 h2
   ·rw [h'] at h1
    have := (hlow j hj g h2).2
    have := Option.some.inj h1
    omega
  ·by_cases e2 : j = t
   ·subst e2
    simp only [if_true, e1, if_false] at h1 h2
    rcases hat with h' | h'
    ·rw [h'] at h2; exact h.apart i j hi hj hne g h1 h2
    ·rw [h'] at h2
     have := (hlow i hi g h1).2
     have := Option.some.inj h2
     omega
   ·simp only [e1, e2, if_false] at h1 h2
    exact h.apart i j hi hj hne g h1 h2

def pvL (F : FV) (b i : Nat) : List Nat := (List.range b).filter (fun a => decide (i ∈ su F a))
def pvn (F : FV) (b t i : Nat) : List Nat := pvL F b i ++ if i ∈ (su F b).take t then [b] else []

theorem pvn_zero (F : FV) (b i : Nat) : pvn F b 0 i = pvL F b i := by simp [pvn]
theorem pvn_all (F : FV) (b i : Nat) : pvn F b (su F b).length i = pvL F (b + 1) i := by
 simp only [pvn, pvL, List.take_length, List.range_succ, List.filter_append]
 by_cases h : i ∈ su F b <;> simp [h]
theorem pvL_lt {F : FV} {b i : Nat} : ∀ x ∈ pvL F b i, x < b := by
 intro x h
 simp [pvL] at h
 exact h.1
theorem mem_pvL {F : FV} {b i x : Nat} : x ∈ pvL F b i ↔ x < b ∧ i ∈ su F x := by simp [pvL]
theorem pvL_le (F : FV) (b i : Nat) : (pvL F b i).length ≤ b := by
 have := List.length_filter_le (fun a => decide (i ∈ su F a)) (List.range b)
 simpa [pvL] using this
theorem pvn_le (F : FV) (b t i : Nat) : (pvn F b t i).length ≤ b + 1 := by
 have := pvL_le F b i
 unfold pvn
 split <;> simp <;> omega

theorem take_succ_mem {l : List Nat} {t i : Nat} (ht : t < l.length) : i ∈ l.take (t + 1) ↔ i ∈ l.take t ∨ i = l.getD t 0 := by
 rw [List.take_succ_eq_append_getElem ht, List.mem_append, List.mem_singleton]
 simp [List.getD, ht]

theorem take_not_mem {l : List Nat} (hl : l.Nodup) {t : Nat} (ht : t < l.length) : l.getD t 0 ∉ l.take t := by
 intro h
 obtain ⟨i, hi, e⟩ := List.mem_take_iff_getElem.1 h
 have e1 : l.getD t 0 = l[t] := by simp [List.getD, ht]
 rw [e1] at e
 have := (List.getElem_inj hl).1 e
 omega

theorem pvn_step {F : FV} {b t : Nat} (ht : t < (su F b).length) (i : Nat) : pvn F b (t + 1) i = if i = (su F b).getD t 0 then pvn F b t i ++ [b] else pvn F b t i := by
 unfold pvn
 by_cases e : i = (su F b).getD t 0
 ·rw [if_pos e, if_pos ((take_succ_mem ht).2 (.inr e)), if_neg (by rw [e]; exact take_not_mem (su_nodup F b) ht)]
  simp
 ·rw [if_neg e]
  congr 1
  have : i ∈ (su F b).take (t + 1) ↔ i ∈ (su F b).take t := by rw [take_succ_mem ht]; exact ⟨fun h => h.resolve_right e, .inl⟩
  simp [this]

def Far (s : Sl) (R : Nat → Sl) (n : Nat) : Prop := 0 < s.n → ∀ g, s.a = some ⟨g, 0, none⟩ → ∀ i, i < n → (Sl.val (R i)).ownBlock ≠ some g

theorem row_at {M n x : Nat} (hx : x < n) : ∀ wx, (Instr.indexAt 153 (.slice (some ⟨M, 0, none⟩) n n) (.int .i64 x)).run Tryz.prog wx = .ok (.pointer (some ⟨M, x, none⟩)) wx := by
 have := index_row (s := ⟨some ⟨M, 0, none⟩, n, n⟩) rfl underlying153 size33 hx
 simpa using this

def PrevIs (F : FV) (w : World) (e : Ending) (w' : World) : Prop :=
 ∃ (M : Nat) (R : Nat → Sl), e = .returned (.slice (some ⟨M, 0, none⟩) F.blk.n F.blk.n) ∧ Pv w' M F.blk.n R (pvL F F.blk.n) ∧ w.heap.size ≤ M ∧ Below w.heap.size w w'

theorem getD_mem {l : List Nat} {t : Nat} (ht : t < l.length) : l.getD t 0 ∈ l := by
 simp [List.getD, ht]

set_option maxRecDepth 10000 in
set_option maxHeartbeats 1000000 in
theorem prev_flow (F : FV) (w : World) (hF : In w F) (hl : Light F) (hj : Jng F) :
  Calls Tryz.prog 163 #[F.val] w fun e w' => PrevIs F w e w' := by
 have HF := hid hF
 have HL := hid hl
 have HJ := hid hj
 have gb := hl.blk
 have hmk := run_make_row' (P := Tryz.prog) 153 33 (.slice none 0 0) 24 underlying153 info33 rfl .i64 .i64 F.blk.n (by omega) (by omega)
 clear hF hl hj
 go_enter Tryz.func163, Tryz.ntmps163
 go_wp2_with fail
 have p0 : Pv ((w.alloc (.cells (fcells F) 36)).alloc (.cells (madeCells #[.slice none 0 0] F.blk.n) 33)) (w.heap.size + 1) F.blk.n (fun _ => ⟨none, 0, 0⟩) (pvL F 0) := by
  refine ⟨?_, fun i hi => by simp [pvL]; exact World.ownsRow_nil _ _ _ _, fun i j _ _ _ g h => by simp [Value.ownBlock] at h⟩
  have := World.rowIs_made (w.alloc (.cells (fcells F) 36)) (.slice none 0 0) F.blk.n 33
  simpa using this
 have P0 := hid p0
 clear hmk p0
 go_loopw [14] (fun i wr => ∃ b : Nat, b ≤ F.blk.n ∧ i = .int .i64 b ∧ (∃ R, Pv wr (w.heap.size + 1) F.blk.n R (pvL F b)) ∧ FuncAt wr w.heap.size F ∧ Below w.heap.size w wr) (fun i _ => F.blk.n - (intOf i).toNat)
 case atStart => exact ⟨0, Nat.zero_le _, rfl, ⟨_, P0.out⟩, (FuncAt.alloc w F).on (new (same _) _), new (new (same w) _) _⟩
 case round =>
  clear P0
  obtain ⟨b, hb, rfl, ⟨R, hp⟩, hf, hbr⟩ := hrel
  have HP := hid hp
  have HFA := hid hf
  obtain ⟨c0, c1, c2, c3, c4⟩ := hf
  have hwl : w.heap.size + 1 < wr.heap.size := hp.row.lt
  clear hp
  by_cases hlt : b < F.blk.n
  ·go_wp2_with fail
   refine (next_flow F b _ (HF.out.on hbr) HL.out HJ.out).mono ?_
   rintro e w1 ⟨s, rfl, hsn, hsi, hsm, hb1⟩
   rw [suI_nat] at hsn hsi
   have far : Far s R F.blk.n := fun h0 g hg i hi e => by
    obtain ⟨g1, h1, h2, h3, _⟩ := hsm h0
    rw [h1] at hg
    have h4 := ((HP.out.own i hi).lt g e).2
    simp at hg
   have FAR := hid far
   clear far
   have p1 := HP.out.on hb1
   have f1 := HFA.out.on hb1
   have hb2 := View.more hbr hb1
   have hz := hb1.size
   have hle := su_le HL.out b
   have SI := hid hsi
   have SM := hid hsm
   have P1 := hid p1
   have F1 := hid f1
   have B2 := hid hb2
   have SN := hid hsn
   have hsn2 : s.n ≤ 20 := by omega
   clear hsi hsm p1 f1 hb2 hb1 HP HFA c0 c1 c2 c3 c4 hsn hbr
   go_wp2_with fail
   go_loopw [21] (fun i wx => ∃ t : Nat, t ≤ s.n ∧ i = .int .i64 t ∧ (∃ R, Pv wx (w.heap.size + 1) F.blk.n R (pvn F b t) ∧ Far s R F.blk.n) ∧ w1.heap.size ≤ wx.heap.size ∧ Ints wx s (fun i => (((su F b).getD i 0 : Nat) : Int)) ∧ FuncAt wx w.heap.size F ∧ Below w.heap.size w wx) (fun i _ => s.n - (intOf i).toNat)
   case atStart => exact ⟨0, Nat.zero_le _, rfl, ⟨R, P1.out.congr (fun i _ => (pvn_zero F b i).symm), FAR.out⟩, Nat.le_refl _, SI.out, F1.out, B2.out⟩
   case round =>
    clear P1 F1 B2 SI FAR
    obtain ⟨t, ht, rfl, ⟨R2, hp, hfar⟩, hw1, hsi, hf, hbr⟩ := hrel
    have FR := hid hfar
    have HP := hid hp
    have HFA := hid hf
    have SI := hid hsi
    have hwl2 : w.heap.size + 1 < wr.heap.size := hp.row.lt
    clear hp hf hsi hfar
    by_cases htl : t < s.n
    ·have htl2 : t < (su F b).length := by have := SN.out; omega
     obtain ⟨g1, ga, gl, gt, _⟩ := SM.out (by omega)
     have GA := hid ga
     clear ga
     obtain ⟨ib, io, hiy, hcell⟩ := SI.out.at htl
     have hx : (su F b).getD t 0 < F.blk.n := su_lt F b _ (getD_mem htl2)
     have hstep := pvn_step htl2
     obtain ⟨X, hX⟩ : ∃ X, (su F b).getD t 0 = X := ⟨_, rfl⟩
     simp only [hX] at hcell hx hstep
     have hrow := row_at (M := w.heap.size + 1) hx
     have hrc := HP.out.row.cell hx
     have hrf := HP.out.row.frozen X
     have hpl := pvn_le F b t X
     have STP := hid hstep
     clear hX hstep
     go_wp2_with (at_builtin; refine append_at rfl (.tmp 30) (.tmp 32) rfl (w.heap.size + 1 + 1) (Sl.val (R2 X)) (ints (pvn F b t X)) rfl b (HP.out.own X hx) rfl (by simp; omega) (by omega) ?_; intro v2 w2 hown2 hgr2 hat2; obtain ⟨s2, rfl⟩ := owns_sl hown2; have hk : w2.heap[w.heap.size + 1]? = (wr.alloc (.cells #[.int .i64 b] 3)).heap[w.heap.size + 1]? := hgr2.block _ (by simp; omega) (fun e => by have := ((HP.out.own X hx).lt _ e.symm).1; omega); have hr2 := ((HP.out.row.alloc (.cells #[.int .i64 b] 3)).of_block hk); have hrc2 := hr2.cell hx; have hrf2 := hr2.frozen X; have OW := hid (And.intro hown2 (And.intro hgr2 hat2)); clear hown2 hgr2 hat2 hk hr2 hrc hrf hcell)
     have hz2 := OW.out.2.1.size
     simp only [World.size_alloc] at hz2
     go_round
     case rel =>
      obtain ⟨o1, o2, o3⟩ := OW.out
      have hP := HP.out.step hx o1 o2 o3
      have hb2 : Below w.heap.size w w2 := (new hbr _).grown o2 (by simp; omega) (fun q hq => by have := ((HP.out.own X hx).lt q hq).1; omega)
      have hf2 : FuncAt w2 w.heap.size F := FuncAt.grown (HFA.out.on (new (same _) _)) o2 (fun q hq => by have := ((HP.out.own X hx).lt q hq).1; omega)
      have hi2 : Ints w2 s (fun i => (((su F b).getD i 0 : Nat) : Int)) := by
       refine (SI.out.on (new (same _) (.cells #[.int .i64 b] 3))).kept (p := fun k => k = g1) ⟨o2.size, fun k hk => by subst hk; exact o2.block _ (by simp; omega) (fun e => FR.out (by omega) _ GA.out X hx e.symm)⟩ (fun q off h h0 => ?_)
       rw [GA.out] at h
       simp at h
       exact h.1.symm
      have hi3 : Ints (w2.setCell ⟨w.heap.size + 1, X, none⟩ (Sl.val s2)) s (fun i => (((su F b).getD i 0 : Nat) : Int)) := by
       refine hi2.kept (p := fun k => k = g1) ((Kept.refl _ _).setCell (by show ¬ (w.heap.size + 1 = g1); omega) _) (fun q off h h0 => ?_)
       rw [GA.out] at h
       simp at h
       exact h.1.symm
      refine ⟨t + 1, by omega, by go_num, ⟨_, hP.congr (fun i _ => by rw [STP.out i]; by_cases e : i = X <;> simp [e]), fun h0 g hg i hi e => ?_⟩, by simp; omega, hi3, ?_, hb2.setCell (by simp) _⟩
      ·rw [GA.out] at hg
       simp at hg
       subst hg
       by_cases e1 : i = X
       ·simp only [e1, if_true] at e
        rcases o3 with h | h
        ·rw [h] at e; exact FR.out h0 _ GA.out X hx e
        ·rw [h] at e; simp at e; omega
       ·simp only [e1, if_false] at e
        exact FR.out h0 _ GA.out i hi e
      ·exact hf2.kept ((Kept.refl (fun k => k ≠ w.heap.size + 1) w2).setCell (fun h => h rfl) _) (by show _ ≠ _; omega)
     case measure => simp [intOf]; omega
    ·obtain rfl : t = s.n := by omega
     go_wp2_with fail
     go_round
     case rel => exact ⟨b + 1, by omega, by go_num, ⟨R2, HP.out.congr (fun i _ => by rw [SN.out]; exact pvn_all F b i)⟩, HFA.out, hbr⟩
     case measure => simp [intOf]; omega
  ·obtain rfl : b = F.blk.n := by omega
   go_wp2_with fail
   go_ret
   exact ⟨w.heap.size + 1, R, rfl, HP.out, by omega, hbr⟩

open Srt

theorem underlying151 : Tryz.prog.underlying 151 = some (.slice 4) := by kernel_rfl
theorem info4 : (Tryz.prog.info? 4).map (fun i => (i.zero, i.size, i.bytes)) = some (some (.bool false), 1, 1) := by kernel_rfl
theorem size4 : (Tryz.prog.info? 4).map (fun i => i.size) = some 1 := by kernel_rfl

theorem bool_at {g n x : Nat} (hx : x < n) : ∀ wx, (Instr.indexAt 151 (.slice (some ⟨g, 0, none⟩) n n) (.int .i64 x)).run Tryz.prog wx = .ok (.pointer (some ⟨g, x, none⟩)) wx := by
 have := index_row (s := ⟨some ⟨g, 0, none⟩, n, n⟩) rfl underlying151 size4 hx
 simpa using this

theorem unmet_none (n : Nat) : unmet (fun _ => false) n = n := by
 induction n with
 | zero => rfl
 | succ n ih => rw [unmet, ih]; simp

def ReachIs (n : Nat) (f : Nat → Bool) (w : World) (e : Ending) (w' : World) : Prop :=
 ∃ M, e = .returned (.slice (some ⟨M, 0, none⟩) n n) ∧ w'.rowIs M 4 n (fun i => .bool (f i)) ∧ w.heap.size ≤ M ∧ Below w.heap.size w w'

set_option maxHeartbeats 400000 in
theorem in_any (s : Sl) (f : Nat → Int) (x : Int) (w : World) (hs : Ints w s f) (hn : s.n ≤ 1000) :
  Calls Tryz.prog 182 #[.slice s.a s.n s.c, .int .i64 x] w fun e w' => ∃ b : Bool, e = .returned (.bool b) ∧ (b = true ↔ ∃ i, i < s.n ∧ f i = x) ∧ Below w.heap.size w w' := by
 have HS := hid hs
 clear hs
 go_enter Tryz.func182, Tryz.ntmps182
 go_wp2_with fail
 go_loopw [5] (fun i wr => ∃ k : Nat, k ≤ s.n ∧ i = .int .i64 k ∧ (∀ i, i < k → f i ≠ x) ∧ Below w.heap.size w wr) (fun i _ => s.n - (intOf i).toNat)
 case atStart => exact ⟨0, Nat.zero_le _, rfl, fun i hi => by omega, same w⟩
 case round =>
  obtain ⟨k, hk, rfl, hno, hb⟩ := hrel
  have HN := hid hno
  clear hno
  by_cases hlt : k < s.n
  ·obtain ⟨ib, io, hiy, hcell⟩ := (HS.out.on hb).at hlt
   by_cases he : f k = x
   ·have t1 : (f k == x) = true := by simp [he]
    have HE := hid he
    clear he
    go_wp2_with fail
    go_ret
    exact ⟨true, rfl, by simp; exact ⟨k, hlt, HE.out⟩, hb⟩
   ·have t1 : (f k == x) = false := by simp [he]
    have HE := hid he
    clear he
    go_wp2_with fail
    go_round
    case rel => exact ⟨k + 1, by omega, by go_num, fun i hi => by
     by_cases e : i = k
     ·rw [e]; exact HE.out
     ·exact HN.out i (by omega), hb⟩
    case measure => simp [intOf]; omega
  ·obtain rfl : k = s.n := by omega
   go_wp2_with fail
   go_ret
   exact ⟨false, rfl, by simp; exact HN.out, hb⟩

theorem takeAt {P : Program} {ops : Array Oper} {Q : Exit → Act → World → Prop} {md : Region.Mode} {S : World → Prop} {i : Nat} {oi : Oper} {d : Option Tmp} {v : Value} {fuel : Nat} {listed : Array Bool} {a : Act} {w : World} (hi : ops[i]? = some oi) (hd : oi.dst = d)
  (hs : Region.noSelect ops = true) (hf : Region.free md ops listed i = true) (hr : (Region.ready md ops listed).contains i = true)
  (hQ : ∀ c a w, Q (.panic c) (a.put d v) w → Q (.panic c) a w) (hy : YieldsIf P ops S oi v a) (hS : S w)
  (h : wpAnyH P md ops Q S fuel (listed.setIfInBounds i true) (a.put d v) w) : wpAnyH P md ops Q S (fuel + 1) listed a w := by
 subst hd
 exact wpAnyH_take hi hs hf hr hQ hy hS h

theorem tk {P : Program} {ops : Array Oper} {Q : Exit → Act → World → Prop} {md : Region.Mode} {S : World → Prop} {i : Nat} {oi : Oper} {d : Option Tmp} {v : Value} {fuel : Nat} {listed : Array Bool} {a : Act} {w : World} (hi : ops[i]? = some oi) (hd : oi.dst = d)
  (hy : ∀ w, S w → (execOp a.eval oi).run P w = .ok (.value v) w) (hS : S w)
  (h : wpAnyH P md ops Q S fuel (listed.setIfInBounds i true) (a.put d v) w)
  (hs : Region.noSelect ops = true := by kernel_rfl) (hf : Region.free md ops listed i = true := by kernel_rfl) (hr : (Region.ready md ops listed).contains i = true := by kernel_rfl)
  (hQ : ∀ c a w, Q (.panic c) (a.put d v) w → Q (.panic c) a w := by exact fun _ _ _ h => h) (hw : Region.wanted oi (yielded ops a.tmps) = true := by rfl) : wpAnyH P md ops Q S (fuel + 1) listed a w :=
 takeAt hi hd hs hf hr hQ (Or.inl ⟨hw, hy⟩) hS h

end Go.Proofs.YtolipafcoolpgaaGreat.Flo
