/-
  Wfm, FloR, FloO, FloD: laid together.
-/
import Derived.Test.YtolipafcoolpgaaGreatJ8
import Derived.BigQuiet
import Derived.Deep.QuietTactic
import Derived.Test.YtolipafcoolpgaaGreatJ2
import Derived.Deep.RegionHeld3
import Derived.BigRegion
import Derived.Deep.LoopGhost
/-
  wf: where a block's end leads.
-/
namespace Go.Proofs.YtolipafcoolpgaaGreat.Wf
open Go.RowKit View Rd Num Opn Copy Srt Go.Proofs.YtolipafcoolpgaaGreat.Mod Chk

set_option linter.unusedVariables false

set_option maxRecDepth 10000 in
set_option maxHeartbeats 4000000 in
theorem leadFault_any (F : FV) (b : Nat) (w : World) (hF : In w F) (hl : Light F) (hf : FormF F) (lb : b < F.blk.n) (h1 : 1 ≤ (F.B b).n) : Calls Tryz.prog 126 #[F.val, .agg #[.slice (F.B b).a (F.B b).n (F.B b).c]] w fun e w' => Ans (fun r => r = true ↔ ¬ FlowE F b) w e w' := by
 have gb := hl.blk
 have gi := hl.ins b lb
 obtain ⟨l, hlq⟩ : ∃ l, (F.B b).n - 1 = l := ⟨_, rfl⟩
 have hl2 : l < (F.B b).n := by omega
 have gx := hl.into b lb l hl2
 obtain ⟨v, hv⟩ : ∃ v, F.I b l = v := ⟨_, rfl⟩
 have HFO := hid (show v.op = 28 → v.into.n = 2 from fun h => br_two (by rw [← hv]; exact hf.2.2 b lb l hl2) h)
 have DE := hid (show FlowE F b ↔ (∀ i, i < v.into.n → 1 ≤ F.J b l i ∧ F.J b l i < F.blk.n) ∧ (v.op = 28 → F.J b l 0 ≠ F.J b l 1) by unfold FlowE; rw [hlq, hv])
 have ILAST := hid (show Ints w v.into (F.J b l) by rw [← hv]; exact hF.into b lb l hl2)
 have b5 : IntKind.i64.wrap (((F.B b).n : Int) - 1) = (l : Int) := by simp only [IntKind.wrap_i64]; omega
 have b6 : wrap64 (((F.B b).n : Int) - 1) = (l : Int) := by unfold wrap64; omega
 have b7 : ((F.B b).n : Int) - 1 = (l : Int) := by omega
 obtain ⟨W1, hW1⟩ : ∃ W1, w.alloc (.cells (fcells F) 36) = W1 := ⟨_, rfl⟩
 obtain ⟨W2, hW2⟩ : ∃ W2, W1.alloc (.cells #[.slice (F.B b).a (F.B b).n (F.B b).c] 40) = W2 := ⟨_, rfl⟩
 have FW := hid (show FuncAt W2 w.heap.size F by rw [← hW2, ← hW1]; exact (FuncAt.alloc w F).on (new (same _) _))
 have z1 : W1.heap.size = w.heap.size + 1 := by rw [← hW1]; simp
 have z2 : W2.heap.size = w.heap.size + 2 := by rw [← hW2]; simp [z1]
 have m1 : W2.cell? ⟨w.heap.size + 1, 0, none⟩ = some (.slice (F.B b).a (F.B b).n (F.B b).c) := by rw [← hW2, ← z1]; simp
 have L2 := hid (show Below w.heap.size w W2 by rw [← hW2, ← hW1]; exact new (new (same w) _) _)
 obtain ⟨ib, io, hiy, c0, c1, c2, c3, c4, c5, c6⟩ := ((hF.ins b lb).on L2.out).at hl2
 rw [hv] at c0 c1 c2 c3 c4 c5 c6
 obtain ⟨W, hW⟩ : ∃ W, W2.alloc (.cells v.cells 43) = W := ⟨_, rfl⟩
 have X6 := hid (show W.cell? ⟨w.heap.size + 2, 0, none⟩ = some (.int .i64 v.op) ∧ W.cell? ⟨w.heap.size + 2, 6, none⟩ = some (.slice v.into.a v.into.n v.into.c) by rw [← hW, ← z2]; exact ⟨by simp, by simp⟩)
 have LW2 := hid (show Below W2.heap.size W2 W by rw [← hW]; exact new (same _) _)
 have LW := hid (View.more L2.out LW2.out)
 rw [hv] at gx
 have x6 := X6.out.2
 clear hF hl hf hlq hv
 go_enter Tryz.func126, Tryz.ntmps126
 go_wp2_with fail
 clear hW1 hW2 hW z1 z2 x6 c0 c1 c2 c3 c4 c5 c6 hiy m1 b5 b6 b7
 go_loopw [19] (fun iv wx => ∃ k : Nat, k ≤ v.into.n ∧ iv = .int .i64 k ∧ (∀ t, t < k → 1 ≤ F.J b l t ∧ F.J b l t < F.blk.n) ∧ Below W.heap.size W wx) (fun iv _ => v.into.n - (intOf iv).toNat)
 case atStart => exact ⟨0, Nat.zero_le _, rfl, fun t ht => by omega, same _⟩
 case round =>
  obtain ⟨k, hk0, rfl, hall, hb⟩ := hrel
  have HK := hid (And.intro hall hb)
  have LL := hid (View.more LW.out hb)
  have x0 := cell_on hb X6.out.1
  have x6 := cell_on hb X6.out.2
  obtain ⟨f0, f1, f2, f3, f4⟩ := FW.out.on (View.more LW2.out hb)
  have II := ILAST.out.on LL.out
  by_cases lk : k < v.into.n
  ·obtain ⟨pb, po, hpx, hpc⟩ := II.at lk
   clear hall hb II
   by_cases h1 : F.J b l k < 1
   ·have t1 : decide (F.J b l k < 1) = true := by simpa using h1
    have HN := hid (show ¬ FlowE F b from fun h => by have := ((DE.out.1 h).1 k lk).1; omega)
    clear h1
    go_wp2_with fail
    go_ret
    exact ⟨true, rfl, ⟨fun _ => HN.out, fun _ => rfl⟩, LL.out⟩
   have t1 : decide (F.J b l k < 1) = false := by simpa using h1
   by_cases h2 : (F.blk.n : Int) ≤ F.J b l k
   ·have t2 : decide ((F.blk.n : Int) ≤ F.J b l k) = true := by simpa using h2
    have HN := hid (show ¬ FlowE F b from fun h => by have := ((DE.out.1 h).1 k lk).2; omega)
    clear h1 h2
    go_wp2_with fail
    go_ret
    exact ⟨true, rfl, ⟨fun _ => HN.out, fun _ => rfl⟩, LL.out⟩
   have t2 : decide ((F.blk.n : Int) ≤ F.J b l k) = false := by simpa using h2
   have HP := hid (show 1 ≤ F.J b l k ∧ F.J b l k < F.blk.n by omega)
   clear h1 h2
   go_wp2_with fail
   go_round
   case rel => exact ⟨k + 1, by omega, by go_num, upto1 HK.out.1 HP.out, HK.out.2⟩
   case measure => simp [intOf]; omega
  ·obtain rfl : k = v.into.n := by omega
   clear hall hb
   by_cases h28 : v.op = 28
   ·have t8 : (v.op == 28) = true := by simp [h28]
    have h2n := HFO.out h28
    obtain ⟨pb, po, hpx, hpc⟩ := II.at (k := 0) (by omega)
    obtain ⟨qb, qo, hqx, hqc⟩ := II.at (k := 1) (by omega)
    have hpx' : ∀ wx, (Instr.indexAt 33 (.slice v.into.a v.into.n v.into.c) (.int .i64 0)).run Tryz.prog wx = .ok (.pointer (some ⟨pb, po, none⟩)) wx := hpx
    have hqx' : ∀ wx, (Instr.indexAt 33 (.slice v.into.a v.into.n v.into.c) (.int .i64 1)).run Tryz.prog wx = .ok (.pointer (some ⟨qb, qo, none⟩)) wx := hqx
    have H28 := hid h28
    clear h28 h2n II hpx hqx
    by_cases he : F.J b l 0 = F.J b l 1
    ·have te : (F.J b l 0 == F.J b l 1) = true := by simp [he]
     have HN := hid (show ¬ FlowE F b from fun h => (DE.out.1 h).2 H28.out he)
     clear he
     go_wp2_with fail
     go_quiet (fail)
     go_wp2_with fail
     go_ret
     exact ⟨true, rfl, ⟨fun _ => HN.out, fun _ => rfl⟩, View.more LL.out (below_drewN' _ _)⟩
    ·have te : (F.J b l 0 == F.J b l 1) = false := by simp [he]
     have HBB := hid (show FlowE F b from DE.out.2 ⟨HK.out.1, fun _ => he⟩)
     clear he
     go_wp2_with fail
     go_quiet (fail)
     go_wp2_with fail
     go_ret
     exact ⟨false, rfl, ⟨fun h => absurd h (by simp), fun h => absurd HBB.out h⟩, View.more LL.out (below_drewN' _ _)⟩
   ·have t8 : (v.op == 28) = false := by simp [h28]
    have HBB := hid (show FlowE F b from DE.out.2 ⟨HK.out.1, fun h => absurd h h28⟩)
    clear h28 II
    go_wp2_with fail
    go_quiet (fail)
    go_wp2_with fail
    go_ret
    exact ⟨false, rfl, ⟨fun h => absurd h (by simp), fun h => absurd HBB.out h⟩, View.more LL.out (below_drewN' _ _)⟩

end Go.Proofs.YtolipafcoolpgaaGreat.Wf

/-
  slices.Reverse over a row of the call's own.
-/
namespace Go.Proofs.YtolipafcoolpgaaGreat.Flo
open Go.RowKit View Rd Copy Num Ty Srt

set_option linter.unusedVariables false

def flip (n k : Nat) (f : Nat → Int) : Nat → Int := fun i => if i < k ∨ n ≤ i + k then f (n - 1 - i) else f i

def Turned (g : Nat) (w : World) (s : Sl) (f : Nat → Int) (e : Ending) (w' : World) : Prop := e = .returned (.tuple #[]) ∧ Ints w' s f ∧ Turn (fun b => b = g) w w'

theorem frz {g : Nat} {w wr : World} (h : Turn (fun b => b = g) w wr) (hg : g < w.heap.size) (hf : ∀ i, w.frozen? ⟨g, i, none⟩ = false) (i : Nat) : wr.frozen? ⟨g, i, none⟩ = false := by
 rw [h.froz _ hg]; exact hf i

set_option maxHeartbeats 2000000 in
theorem reverse_any (s : Sl) (g : Nat) (f : Nat → Int) (w : World) (hs : Ints w s f) (ha : 0 < s.n → s.a = some ⟨g, 0, none⟩) (hg : 0 < s.n → g < w.heap.size) (hfz : 0 < s.n → ∀ i, w.frozen? ⟨g, i, none⟩ = false) (hn : s.n ≤ 1000) :
  Calls Tryz.prog 187 #[.slice s.a s.n s.c] w fun e w' => Turned g w s (fun i => f (s.n - 1 - i)) e w' := by
 have HS := hid hs
 have HA := hid ha
 have HG := hid hg
 have HZ := hid hfz
 clear hs ha hg hfz
 go_enter Tryz.func187, Tryz.ntmps187
 go_wp2
 go_loopw [2, 3] (fun i j wr => ∃ k : Nat, 2 * k ≤ s.n + 1 ∧ i = .int .i64 k ∧ j = .int .i64 ((s.n : Int) - 1 - k) ∧ Ints wr s (flip s.n k f) ∧ Turn (fun b => b = g) w wr) (fun i _ _ => s.n - (intOf i).toNat)
 case atStart => exact ⟨0, by omega, rfl, by simp, HS.out.congr (fun i hi => by simp [flip]; omega), Turn.refl _ _⟩
 case round =>
  obtain ⟨k, hk, rfl, rfl, hi, ht⟩ := hrel
  have HI := hid hi
  have HT := hid ht
  clear hi ht
  by_cases hlt : 2 * k + 1 < s.n
  ·obtain ⟨m, hm⟩ : ∃ m : Nat, s.n = k + 1 + m + 1 + k := ⟨s.n - (k + 1) - 1 - k, by omega⟩
   have hga := HA.out (by omega)
   have hgl := HG.out (by omega)
   have hz := frz HT.out hgl (HZ.out (by omega))
   obtain ⟨x1, y1⟩ := own_at HI.out hga (k := k) (by omega)
   obtain ⟨x2, y2⟩ := own_at HI.out hga (k := k + 1 + m) (by omega)
   have z1 := hz k
   have z2 := hz (k + 1 + m)
   have hj : ((s.n : Int) - 1 - k) = ((k + 1 + m : Nat) : Int) := by omega
   rw [hj]
   have hne : k ≠ k + 1 + m := by omega
   have hne' : ¬ (k + 1 + m = k) := by omega
   have HM := hid (And.intro hm hga)
   obtain ⟨p, hp⟩ : ∃ p, flip s.n k f k = p := ⟨_, rfl⟩
   obtain ⟨q, hq⟩ : ∃ q, flip s.n k f (k + 1 + m) = q := ⟨_, rfl⟩
   rw [hp] at y1
   rw [hq] at y2
   have HPQ := hid (And.intro hp hq)
   obtain ⟨jj, hjj⟩ : ∃ jj, k + 1 + m = jj := ⟨_, rfl⟩
   rw [hjj] at x2 y2 z2 hne hne'
   rw [hjj]
   have HJ := hid hjj
   have hlt2 : (k : Int) < jj := by omega
   have hkl : jj < 1000 := by omega
   clear hm hga hp hq hz hj hjj
   go_wp2
   go_region
   go_wp2
   go_round
   case rel =>
    obtain ⟨hm, hga⟩ := HM.out
    have hj := HJ.out
    have i1 := own_set HI.out hga (k := k) (by omega) q
    have i2 := own_set i1 hga (k := jj) (by omega) p
    refine ⟨k + 1, by omega, by go_num, by congr 1; omega, ?_, ((HT.out.setCell (x := ⟨g, k, none⟩) (.inl rfl) _).setCell (x := ⟨g, jj, none⟩) (.inl rfl) _).drew⟩
    have i3 := i2.congr (g := flip s.n (k + 1) f) (fun i hi => by
     obtain ⟨hp, hq⟩ := HPQ.out
     by_cases e1 : i = jj
     ·rw [if_pos e1, ← hp]
      unfold flip
      rw [if_neg (by omega), if_pos (by omega)]
      congr 1; omega
     ·rw [if_neg e1]
      by_cases e2 : i = k
      ·rw [if_pos e2, ← hq]
       unfold flip
       rw [if_neg (by omega), if_pos (by omega)]
       congr 1; omega
      ·rw [if_neg e2]
       unfold flip
       by_cases e3 : i < k ∨ s.n ≤ i + k
       ·rw [if_pos e3, if_pos (by omega)]
       ·rw [if_neg e3, if_neg (by omega)])
    exact i3
   case measure => simp [intOf]; omega
  ·have e1 : decide ((k : Int) < (s.n : Int) - 1 - k) = false := by simp; omega
   go_wp2
   go_end0
   refine ⟨rfl, HI.out.congr (fun i hi => ?_), HT.out⟩
   unfold flip
   split
   ·rfl
   ·congr 1; omega

end Go.Proofs.YtolipafcoolpgaaGreat.Flo

/-
  Depth first: flow.Order: how its lists lie in memory.
-/
namespace Go.Proofs.YtolipafcoolpgaaGreat.Flo
open Go.RowKit View Rd Copy Num Ty Srt

set_option linter.unusedVariables false

structure Ent where
 b : Nat
 s : Sl
 l : List Nat

def flatW (W : List Ent) : List Value := W.flatMap (fun e => [.int .i64 e.b, Sl.val e.s])
abbrev wy (W : List Ent) : List (Nat × List Nat) := W.map (fun e => (e.b, e.l))

theorem flatW_snoc (W : List Ent) (e : Ent) : flatW (W ++ [e]) = flatW W ++ [.int .i64 e.b, Sl.val e.s] := by simp [flatW]
theorem flatW_length (W : List Ent) : (flatW W).length = W.length * 2 := by
 induction W with
 | nil => rfl
 | cons e W ih => simp [flatW] at *; omega

structure EntOk (n : Nat) (wr : World) (A0 : Nat) (D V : Option Nat) (e : Ent) : Prop where
 bn : e.b < n
 len : e.s.n = e.l.length
 ints : Ints wr e.s (fun i => ((e.l.getD i 0 : Nat) : Int))
 lt : ∀ x ∈ e.l, x < n
 far : 0 < e.s.n → ∃ g o, e.s.a = some ⟨g, o, none⟩ ∧ A0 + 2 ≤ g ∧ g < wr.heap.size ∧ some g ≠ D ∧ some g ≠ V

theorem EntOk.to {n : Nat} {wr w' : World} {A0 : Nat} {D V D' V' : Option Nat} {e : Ent} (h : EntOk n wr A0 D V e) (hz : wr.heap.size ≤ w'.heap.size)
  (hb : ∀ g, A0 + 2 ≤ g → g < wr.heap.size → some g ≠ D → some g ≠ V → w'.heap[g]? = wr.heap[g]? ∧ some g ≠ D' ∧ some g ≠ V') : EntOk n w' A0 D' V' e := by
 refine ⟨h.bn, h.len, ?_, h.lt, fun h0 => ?_⟩
 ·by_cases h0 : 0 < e.s.n
  ·obtain ⟨g, o, ha, h1, h2, h3, h4⟩ := h.far h0
   refine h.ints.kept (p := fun k => k = g) ⟨hz, fun k hk => by subst hk; exact (hb _ h1 h2 h3 h4).1⟩ (fun b off e' _ => ?_)
   rw [ha] at e'; simp at e'; exact e'.1.symm
  ·exact ⟨h.ints.1, h.ints.2.1, h.ints.2.2.1, fun h => absurd h h0⟩
 ·obtain ⟨g, o, ha, h1, h2, h3, h4⟩ := h.far h0
  exact ⟨g, o, ha, h1, by omega, (hb g h1 h2 h3 h4).2.1, (hb g h1 h2 h3 h4).2.2⟩

structure OrdM (F : FV) (A0 : Nat) (dv wv : Value) (wr : World) (d : List Nat) (m : Nat → Bool) (W : List Ent) : Prop where
 dn : wr.ownsRow (A0 + 2) 3 1 dv (ints d).length ((ints d).map (Value.int .i64))
 wy : wr.ownsRow (A0 + 2) 224 2 wv W.length (flatW W)
 mt : wr.rowIs (A0 + 1) 4 F.blk.n (fun i => .bool (m i))
 fa : FuncAt wr A0 F
 en : ∀ e ∈ W, EntOk F.blk.n wr A0 dv.ownBlock wv.ownBlock e
 nn : ∃ g cap, wv = .slice (some ⟨g, 0, none⟩) W.length cap

theorem kinds {w : World} {base base' z z' n n' : Nat} {v v' : Value} {xs xs' : List Value} (h : w.ownsRow base 3 z v n xs) (h' : w.ownsRow base' 224 z' v' n' xs') : ∀ g, v.ownBlock = some g → v'.ownBlock ≠ some g := by
 intro g e e'
 rcases h.2 with ⟨rfl, _⟩ | ⟨g1, cap, cur, rfl, _, hg, _⟩
 ·simp [Value.ownBlock] at e
 ·rcases h'.2 with ⟨rfl, _⟩ | ⟨g2, cap2, cur2, rfl, _, hg2, _⟩
  ·simp [Value.ownBlock] at e'
  ·simp [Value.ownBlock] at e e'
   subst e
   subst e'
   rw [hg] at hg2
   simp at hg2

variable {F : FV} {A0 : Nat} {dv wv : Value} {wr : World} {d : List Nat} {m : Nat → Bool} {W : List Ent}

theorem OrdM.on (h : OrdM F A0 dv wv wr d m W) {w' : World} (hb : Below wr.heap.size wr w') : OrdM F A0 dv wv w' d m W :=
 ⟨owns_on hb h.dn, owns_on hb h.wy, h.mt.of_block (hb.block _ h.mt.lt), h.fa.on hb, fun e he => (h.en e he).to hb.size (fun g _ h2 h3 h4 => ⟨hb.block g h2, h3, h4⟩), h.nn⟩

theorem OrdM.alloc (h : OrdM F A0 dv wv wr d m W) (o : Obj) : OrdM F A0 dv wv (wr.alloc o) d m W := h.on (new (same _) o)

theorem OrdM.meet (h : OrdM F A0 dv wv wr d m W) (t : Nat) : OrdM F A0 dv wv (wr.setCell ⟨A0 + 1, t, none⟩ (.bool true)) d (upd m t) W := by
 have hb : ∀ g, A0 + 2 ≤ g → (wr.setCell ⟨A0 + 1, t, none⟩ (.bool true)).heap[g]? = wr.heap[g]? := fun g hg => Below.heap_setCell _ _ _ _ (by show g ≠ A0 + 1; omega)
 refine ⟨owns_at h.dn (fun g hg _ => hb g (h.dn.lt g hg).1), owns_at h.wy (fun g hg _ => hb g (h.wy.lt g hg).1), (h.mt.set t (.bool true)).congr (fun i hi => by unfold upd; split <;> rfl), h.fa.kept ((Kept.refl (fun k => k ≠ A0 + 1) wr).setCell (fun h => h rfl) _) (by show _ ≠ _; omega), fun e he => (h.en e he).to (by simp) (fun g h1 _ h3 h4 => ⟨hb g h1, h3, h4⟩), h.nn⟩

theorem OrdM.pop {e : Ent} (h : OrdM F A0 dv wv wr d m (W ++ [e])) {g cap : Nat} (hv : wv = .slice (some ⟨g, 0, none⟩) (W ++ [e]).length cap) {w2 : World} {dv' : Value}
  (hown : w2.ownsRow (A0 + 2) 3 1 dv' (ints d ++ [(e.b : Int)]).length ((ints d ++ [(e.b : Int)]).map (Value.int .i64))) (hg : (wr.alloc (.cells #[.int .i64 e.b] 3)).grownBy w2 dv.ownBlock)
  (hat : dv'.ownBlock = dv.ownBlock ∨ dv'.ownBlock = some (wr.heap.size + 1)) : OrdM F A0 dv' (.slice (some ⟨g, 0, none⟩) W.length cap) w2 (d ++ [e.b]) m W := by
 have hsz := hg.size
 simp only [World.size_alloc] at hsz
 have hb : ∀ k, k < wr.heap.size → some k ≠ dv.ownBlock → w2.heap[k]? = wr.heap[k]? := fun k hk hne => by
  rw [hg.block k (by simp; omega) hne, Below.heap_alloc _ _ _ hk]
 have hw : w2.ownsRow (A0 + 2) 224 2 wv (W ++ [e]).length (flatW (W ++ [e])) := owns_at h.wy (fun k hk hlt => hb k hlt (fun e' => kinds h.dn h.wy k e'.symm hk))
 have hlow : ∀ k, k = A0 + 1 ∨ k = A0 → some k ≠ dv.ownBlock := fun k hk e' => by have := (h.dn.lt k e'.symm).1; omega
 refine ⟨?_, ?_, h.mt.of_block (hb _ h.mt.lt (hlow _ (.inl rfl))), h.fa.kept (p := fun k => k = A0) ⟨by omega, fun k hk => by subst hk; exact hb _ (World.block_lt_of_cell? _ _ h.fa.c0) (hlow _ (.inr rfl))⟩ rfl, fun x hx => (h.en x (by simp [hx])).to (by omega) (fun k h1 h2 h3 h4 => ⟨hb k h2 h3, ?_, ?_⟩), ⟨g, cap, rfl⟩⟩
 ·have e2 : ints (d ++ [e.b]) = ints d ++ [(e.b : Int)] := by simp [ints]
  rw [e2]; exact hown
 ·rw [hv, flatW_snoc, List.length_append] at hw
  exact ownsRow_pop (flatW_length W) hw
 ·rcases hat with h' | h'
  ·rw [h']; exact h3
  ·rw [h']; intro e'; have := Option.some.inj e'; omega
 ·rw [hv] at h4
  exact h4

def tl (s : Sl) : Sl := ⟨if s.c = 1 then s.a else s.a.map (fun a => a.add 1), s.n - 1, s.c - 1⟩

theorem tl_run {w : World} {s : Sl} {f : Nat → Int} (h : Ints w s f) (h0 : 0 < s.n) : ∀ wx, (Instr.slice 33 (.slice s.a s.n s.c) (some (.int .i64 1)) none none).run Tryz.prog wx = .ok (.slice (tl s).a (tl s).n (tl s).c) wx := by
 intro wx
 have he : Tryz.prog.elem 33 = 3 := by unfold Program.elem; rw [underlying33]
 obtain ⟨i, hi, hi'⟩ := Option.map_eq_some_iff.1 size3
 have hr := run_slice_l (P := Tryz.prog) wx 33 s.a s.n s.c (by rw [he]; exact underlying33) .i64 1 (by omega) (by omega)
 rw [he] at hr
 rw [hr]
 simp [sizeOf, typeInfo, hi, hi', sliced, tl]

theorem tl_ints {w : World} {s : Sl} {x : Nat} {l : List Nat} (h : Ints w s (fun i => (((x :: l).getD i 0 : Nat) : Int))) (hn : s.n = (x :: l).length) : Ints w (tl s) (fun i => ((l.getD i 0 : Nat) : Int)) := by
 simp only [List.length_cons] at hn
 obtain ⟨b, off, ha, hc⟩ := h.2.2.2 (by omega)
 have h1 := h.1
 have h2 := h.2.1
 refine ⟨by show s.n - 1 ≤ s.c - 1; omega, by show s.n - 1 ≤ _; omega, fun e => ?_, fun h0 => ?_⟩
 ·unfold tl at e
  simp only [ha] at e
  split at e <;> simp at e
 ·have h0' : 0 < s.n - 1 := h0
  refine ⟨b, off + 1, ?_, fun i hi => ?_⟩
  ·show (if s.c = 1 then s.a else s.a.map (fun a => a.add 1)) = _
   rw [if_neg (by omega), ha]; simp [Addr.add_lit]
  ·have hi' : i < s.n - 1 := hi
   have := hc (i + 1) (by omega)
   rw [show off + 1 + i = off + (i + 1) by omega, this]
   simp

theorem tl_at {s : Sl} {b off : Nat} (ha : s.a = some ⟨b, off, none⟩) : ∃ o, (tl s).a = some ⟨b, o, none⟩ := by
 unfold tl
 simp only [ha]
 split
 ·exact ⟨off, rfl⟩
 ·exact ⟨off + 1, by simp [Addr.add_lit]⟩

theorem OrdM.shift {b x : Nat} {s : Sl} {l : List Nat} (h : OrdM F A0 dv wv wr d m (W ++ [⟨b, s, x :: l⟩])) {g cap : Nat} (hv : wv = .slice (some ⟨g, 0, none⟩) (W ++ [(⟨b, s, x :: l⟩ : Ent)]).length cap) :
  OrdM F A0 dv wv (wr.setCell ⟨g, W.length * 2 + 1, none⟩ (Sl.val (tl s))) d m (W ++ [⟨b, tl s, l⟩]) := by
 have hgl : A0 + 2 ≤ g ∧ g < wr.heap.size := h.wy.lt g (by rw [hv]; rfl)
 have hb : ∀ k, k ≠ g → (wr.setCell ⟨g, W.length * 2 + 1, none⟩ (Sl.val (tl s))).heap[k]? = wr.heap[k]? := fun k hk => Below.heap_setCell _ _ _ _ (by show k ≠ g; exact hk)
 have hV : wv.ownBlock = some g := by rw [hv]; rfl
 have hlen : (W ++ [(⟨b, tl s, l⟩ : Ent)]).length = (W ++ [(⟨b, s, x :: l⟩ : Ent)]).length := by simp
 have hto : ∀ e ∈ W ++ [(⟨b, s, x :: l⟩ : Ent)], EntOk F.blk.n (wr.setCell ⟨g, W.length * 2 + 1, none⟩ (Sl.val (tl s))) A0 dv.ownBlock wv.ownBlock e := fun e he => (h.en e he).to (by simp) (fun k h1 h2 h3 h4 => ⟨hb k (fun e' => h4 (by rw [hV, e'])), h3, h4⟩)
 refine ⟨owns_at h.dn (fun k hk _ => hb k (fun e' => kinds h.dn h.wy k hk (by rw [hV, e']))), ?_, h.mt.of_block (hb _ (by omega)), h.fa.kept (p := fun k => k = A0) ⟨by simp, fun k hk => by subst hk; exact hb _ (by omega)⟩ rfl, fun e he => ?_, ⟨g, cap, by rw [hlen]; exact hv⟩⟩
 ·have hw := h.wy
  rw [hv] at hw
  have := (hw.stored (W.length * 2 + 1) (Sl.val (tl s))).1
  rw [hv, hlen]
  have e2 : (flatW (W ++ [(⟨b, s, x :: l⟩ : Ent)])).set (W.length * 2 + 1) (Sl.val (tl s)) = flatW (W ++ [(⟨b, tl s, l⟩ : Ent)]) := by
   rw [flatW_snoc, flatW_snoc, List.set_append_right _ _ (by rw [flatW_length]; omega), flatW_length]
   simp
  rw [e2] at this
  exact this
 ·rcases List.mem_append.1 he with he | he
  ·exact hto e (by simp [he])
  ·simp at he
   subst he
   have k := hto ⟨b, s, x :: l⟩ (by simp)
   have hkl := k.len
   simp only [List.length_cons] at hkl
   refine ⟨k.bn, by show s.n - 1 = l.length; omega, tl_ints k.ints k.len, fun y hy => k.lt y (List.mem_cons_of_mem _ hy), fun h0 => ?_⟩
   obtain ⟨q, o, h1, h2⟩ := k.far (by show 0 < s.n; omega)
   obtain ⟨o', h3⟩ := tl_at h1
   exact ⟨q, o', h3, h2⟩

theorem OrdM.push (h : OrdM F A0 dv wv wr d m W) {e : Ent} {w2 : World} {wv' : Value} (he : EntOk F.blk.n wr A0 dv.ownBlock wv.ownBlock e)
  (hown : w2.ownsRow (A0 + 2) 224 2 wv' (W.length + 1) (flatW W ++ [.int .i64 e.b, Sl.val e.s])) (hg : (wr.alloc (.cells #[.int .i64 e.b, Sl.val e.s] 224)).grownBy w2 wv.ownBlock)
  (hat : wv'.ownBlock = wv.ownBlock ∨ wv'.ownBlock = some (wr.heap.size + 1)) : OrdM F A0 dv wv' w2 d m (W ++ [e]) := by
 have hsz := hg.size
 simp only [World.size_alloc] at hsz
 have hb : ∀ k, k < wr.heap.size → some k ≠ wv.ownBlock → w2.heap[k]? = wr.heap[k]? := fun k hk hne => by
  rw [hg.block k (by simp; omega) hne, Below.heap_alloc _ _ _ hk]
 have hlow : ∀ k, k = A0 + 1 ∨ k = A0 → some k ≠ wv.ownBlock := fun k hk e' => by have := (h.wy.lt k e'.symm).1; omega
 have hV' : ∀ k, k < wr.heap.size → some k ≠ wv.ownBlock → some k ≠ wv'.ownBlock := fun k hk h4 => by
  rcases hat with h' | h'
  ·rw [h']; exact h4
  ·rw [h']; intro e'; have := Option.some.inj e'; omega
 refine ⟨owns_at h.dn (fun k hk hlt => hb k hlt (fun e' => kinds h.dn h.wy k hk e'.symm)), ?_, h.mt.of_block (hb _ h.mt.lt (hlow _ (.inl rfl))), h.fa.kept (p := fun k => k = A0) ⟨by omega, fun k hk => by subst hk; exact hb _ (World.block_lt_of_cell? _ _ h.fa.c0) (hlow _ (.inr rfl))⟩ rfl, fun x hx => ?_, ?_⟩
 ·rw [flatW_snoc, List.length_append]; exact hown
 ·have : EntOk F.blk.n wr A0 dv.ownBlock wv.ownBlock x := by
   rcases List.mem_append.1 hx with hx | hx
   ·exact h.en x hx
   ·simp at hx; rw [hx]; exact he
  exact this.to (by omega) (fun k h1 h2 h3 h4 => ⟨hb k h2 h4, h3, hV' k h2 h4⟩)
 ·rcases hown.2 with ⟨_, h0⟩ | ⟨q, c, cur, hq, _⟩
  ·omega
  ·exact ⟨q, c, by rw [hq]; simp⟩

end Go.Proofs.YtolipafcoolpgaaGreat.Flo

/-
  Depth first: flow.Order.
-/
namespace Go.Proofs.YtolipafcoolpgaaGreat.Flo
open Go.RowKit View Rd Copy Num Ty Srt

set_option linter.unusedVariables false

theorem info224 : (Tryz.prog.info? 224).map (fun i => (i.zero, i.size, i.bytes)) = some (some (.agg #[.int .i64 0, .slice none 0 0]), 2, 32) := by kernel_rfl
theorem size224 : (Tryz.prog.info? 224).map (fun i => i.size) = some 2 := by kernel_rfl
theorem underlying225 : Tryz.prog.underlying 225 = some (.slice 224) := by kernel_rfl

theorem append_visit {ops : Array Oper} {rest : List Oper} {o : Oper} {a : Act} {Q : Exit → Act → World → Prop} {w : World} (hgd : o.guard = none) (s x : Operand)
  (ho : o.op = .call { callee := .builtin .append, args := #[s, x], argTypes := #[225, 225] })
  (base : Nat) (v : Value) (n : Nat) (xs : List Value) (hs : a.eval s = v) (y : Int) (t : Sl) (hown : w.ownsRow base 224 2 v n xs)
  (hx : a.eval x = .slice (some ⟨w.heap.size, 0, none⟩) 1 1)
  (hsm : n ≤ 1000000) (hbase : base ≤ w.heap.size)
  (h : ∀ v' w', w'.ownsRow base 224 2 v' (n + 1) (xs ++ [.int .i64 y, Sl.val t]) → (w.alloc (.cells #[.int .i64 y, Sl.val t] 224)).grownBy w' v.ownBlock → (v'.ownBlock = v.ownBlock ∨ v'.ownBlock = some (w.heap.size + 1)) → wpList Tryz.prog ops Q rest (a.put o.dst v') w') : wpList Tryz.prog ops Q (o :: rest) a (w.alloc (.cells #[.int .i64 y, Sl.val t] 224)) := by
 obtain ⟨i0, hi, hz0, hz1, hz2⟩ := info_parts info224
 refine wpList_append_own_at _ hgd s x 225 ho base 224 i0 (.agg #[.int .i64 0, .slice none 0 0]) 2 32 underlying225 hi hz0 hz1 hz2 rfl (by decide) v _ _ hs (hown.alloc _) ⟨w.heap.size, 0, none⟩ 1 1 [.int .i64 y, Sl.val t] hx rfl (cell_two_new _ _ _ _) (by intro u hu; simp at hu; rcases hu with rfl | rfl <;> rfl) (by simp only [maxLen]; omega) (by omega) (by simp; omega) ?_
 intro v' w' h1 h2 _ h4
 exact h v' w' h1 h2 (by simpa using h4)

theorem OrdM.top {F : FV} {A0 : Nat} {dv : Value} {wr : World} {d : List Nat} {m : Nat → Bool} {W : List Ent} {e : Ent} {g cap : Nat} (h : OrdM F A0 dv (.slice (some ⟨g, 0, none⟩) (W ++ [e]).length cap) wr d m (W ++ [e])) :
  wr.cell? ⟨g, W.length * 2, none⟩ = some (.int .i64 e.b) ∧ wr.cell? ⟨g, W.length * 2 + 1, none⟩ = some (.slice e.s.a e.s.n e.s.c) ∧ (∀ i, wr.frozen? ⟨g, i, none⟩ = false) ∧ A0 + 2 ≤ g ∧ g < wr.heap.size ∧ (W.length + 1 ≤ cap) := by
 have hc := h.wy.cells (g := g) rfl
 have hl := h.wy.lt g rfl
 have e1 : (flatW (W ++ [e]))[W.length * 2]? = some (.int .i64 e.b) := by rw [flatW_snoc, List.getElem?_append_right (by rw [flatW_length]; omega), flatW_length]; simp
 have e2 : (flatW (W ++ [e]))[W.length * 2 + 1]? = some (Sl.val e.s) := by rw [flatW_snoc, List.getElem?_append_right (by rw [flatW_length]; omega), flatW_length]; simp
 have k1 := hc _ _ e1
 have k2 := hc _ _ e2
 rw [Addr.add_lit] at k1 k2
 refine ⟨by simpa using k1, by simpa using k2, fun i => ?_, hl.1, hl.2, ?_⟩
 ·rcases h.wy.2 with ⟨h0, _⟩ | ⟨g', c', cur, hv, _, hg, _⟩
  ·cases h0
  ·cases hv; simp [World.frozen?, hg]
 ·rcases h.wy.2 with ⟨h0, _⟩ | ⟨g', c', cur, hv, _, hg, hn, _⟩
  ·cases h0
  ·cases hv; simpa using hn

theorem way_at {g n cap x : Nat} (hx : x < n) : ∀ wx, (Instr.indexAt 225 (.slice (some ⟨g, 0, none⟩) n cap) (.int .i64 x)).run Tryz.prog wx = .ok (.pointer (some ⟨g, x * 2, none⟩)) wx := by
 have := index_row (s := ⟨some ⟨g, 0, none⟩, n, cap⟩) rfl underlying225 size224 hx
 simpa using this

def OrdIs (F : FV) (L : List Nat) : Prop :=
 (F.blk.n = 0 ∧ L = []) ∨ (0 < F.blk.n ∧ ∃ d m, Rest (su F) (su F 0) [] (upd (fun _ => false) 0) d m ∧ L = (d ++ [0]).reverse)

theorem ord_ex (F : FV) : ∃ L, OrdIs F L := by
 by_cases h : F.blk.n = 0
 ·exact ⟨[], .inl ⟨h, rfl⟩⟩
 ·obtain ⟨d, m, hr⟩ := rest_ex (N := su F) (n := F.blk.n) (su_lt F) _ (su F 0) (su_lt F 0) [] (upd (fun _ => false) 0) rfl
  exact ⟨_, .inr ⟨by omega, d, m, hr, rfl⟩⟩

theorem OrdM.start {F : FV} {w w1 : World} {s : Sl} (h0 : 0 < F.blk.n) (hsn : s.n = (su F 0).length) (hsi : Ints w1 s (fun i => (((su F 0).getD i 0 : Nat) : Int)))
  (hsm : Mine ((w.alloc (.cells (fcells F) 36)).alloc (.cells ((madeCells #[.bool false] F.blk.n).setIfInBounds 0 (.bool true)) 4)).heap.size w1.heap.size w1 s)
  (hb1 : Below ((w.alloc (.cells (fcells F) 36)).alloc (.cells ((madeCells #[.bool false] F.blk.n).setIfInBounds 0 (.bool true)) 4)).heap.size ((w.alloc (.cells (fcells F) 36)).alloc (.cells ((madeCells #[.bool false] F.blk.n).setIfInBounds 0 (.bool true)) 4)) w1) :
  OrdM F w.heap.size (.slice none 0 0) (.slice (some ⟨w1.heap.size, 0, none⟩) 1 1) (w1.alloc (.cells #[.int .i64 0, .slice s.a s.n s.c] 224)) [] (upd (fun _ => false) 0) [⟨0, s, su F 0⟩] := by
 have hz := hb1.size
 simp only [World.size_alloc] at hz
 refine ⟨World.ownsRow_nil _ _ _ _, ?_, ?_, ((FuncAt.alloc w F).on (new (same _) _) |>.on hb1).on (new (same _) _), ?_, ⟨_, _, rfl⟩⟩
 ·have := World.ownsRow_lit (base := w.heap.size + 2) (size := 2) (e := 224) w1 #[.int .i64 0, .slice s.a s.n s.c] 1 (by omega) (by decide) rfl
  simpa [flatW] using this
 ·have hr : ((w.alloc (.cells (fcells F) 36)).alloc (.cells ((madeCells #[.bool false] F.blk.n).setIfInBounds 0 (.bool true)) 4)).rowIs (w.heap.size + 1) 4 F.blk.n (fun i => .bool (upd (fun _ => false) 0 i)) := by
   refine ⟨(madeCells #[.bool false] F.blk.n).setIfInBounds 0 (.bool true), ?_, by simp [size_madeCells], fun i hi => ?_⟩
   ·have := Deep.blk_alloc_new (w.alloc (.cells (fcells F) 36)) (.cells ((madeCells #[.bool false] F.blk.n).setIfInBounds 0 (.bool true)) 4)
    simpa using this
   ·rw [Array.getElem?_setIfInBounds]
    by_cases e : 0 = i
    ·subst e; simp [size_madeCells, h0, upd]
    ·rw [if_neg e]
     have e' : ¬ i = 0 := fun h => e h.symm
     simp [madeCells, hi, Nat.mod_one, upd, e']
  exact (hr.of_block (hb1.block _ (by simp))).alloc _
 ·intro e he
  simp at he
  subst he
  refine ⟨h0, hsn, hsi.on (new (same _) _), su_lt F 0, fun hp => ?_⟩
  obtain ⟨g, h1, h2, h3, _⟩ := hsm hp
  simp only [World.size_alloc] at h2
  refine ⟨g, 0, h1, by omega, by simp; omega, by simp [Value.ownBlock], ?_⟩
  simp [Value.ownBlock]; omega

set_option maxRecDepth 10000 in
set_option maxHeartbeats 4000000 in
theorem order_flow (F : FV) (L : List Nat) (w : World) (hL : OrdIs F L) (hF : In w F) (hl : Light F) (hj : Jng F) :
  Calls Tryz.prog 162 #[F.val] w fun e w' => Gives L w e w' := by
 have HF := hid hF
 have HL := hid hl
 have HJ := hid hj
 have gb := hl.blk
 clear hF hl hj
 rcases hL with ⟨h0, rfl⟩ | ⟨h0, d1, m1, hR, rfl⟩
 ·have t0 : ((F.blk.n : Int) == 0) = true := by simp [h0]
  have H0 := hid h0
  clear h0
  go_enter Tryz.func162, Tryz.ntmps162
  go_wp2
  go_ret
  exact gives_nil (new (same w) _)
 have t0 : ((F.blk.n : Int) == 0) = false := by simp; omega
 have hS : Stk (su F) [] (upd (fun _ => false) 0) (([] : List (Nat × List Nat)) ++ [(0, su F 0)]) (d1 ++ [0]) := .top hR (.nil _ _)
 obtain ⟨D, hD⟩ : ∃ D, d1 ++ [0] = D := ⟨_, rfl⟩
 rw [hD] at hS
 rw [hD]
 have HS := hid hS
 have hmk := run_make_row' (P := Tryz.prog) 151 4 (.bool false) 1 underlying151 info4 rfl .i64 .i64 F.blk.n (by omega) (by omega)
 have hb0 := bool_at (g := w.heap.size + 1) (x := 0) (n := F.blk.n) h0
 have hmc : (madeCells #[Value.bool false] F.blk.n)[0]? = some (.bool false) := by simp [madeCells, h0, Nat.mod_one]
 clear hR hD hS
 go_enter Tryz.func162, Tryz.ntmps162
 go_wp2_with fail
 refine (next_flow F 0 _ (HF.out.on (new (new (same w) _) _)) HL.out HJ.out).mono ?_
 rintro e w1 ⟨s, rfl, hsn, hsi, hsm, hb1⟩
 have esu : suI F 0 = su F 0 := suI_nat F 0
 rw [esu] at hsn hsi
 have hb2 := View.more (new (new (same w) _) _) hb1
 have hz := hb1.size
 simp only [World.size_alloc] at hz
 have om : OrdM F w.heap.size (.slice none 0 0) (.slice (some ⟨w1.heap.size, 0, none⟩) 1 1) (w1.alloc (.cells #[.int .i64 0, .slice s.a s.n s.c] 224)) [] (upd (fun _ => false) 0) [⟨0, s, su F 0⟩] := by
  refine OrdM.start (w := w) h0 hsn hsi hsm hb1
 have OM := hid om
 have B2 := hid hb2
 have hun : unmet (upd (fun _ => false) 0) F.blk.n + 1 = F.blk.n := by
  have := unmet_upd (m := fun _ => false) (t := 0) rfl (n := F.blk.n)
  rw [unmet_none, if_pos h0] at this
  omega
 have HU := hid hun
 clear hmk hb0 hmc om hb2 hsn hsi hsm hb1 hun esu
 go_wp2_with fail
 go_loopg [3, 5] (toCome (su F) (upd (fun _ => false) 0) F.blk.n + (su F 0).length + 1) (fun k dv wv wr => ∃ d m W, OrdM F w.heap.size dv wv wr d m W ∧ Stk (su F) d m (wy W) D ∧ Below w.heap.size w wr ∧ d.length + W.length + unmet m F.blk.n ≤ F.blk.n ∧ toCome (su F) m F.blk.n + pile (wy W) ≤ k)
 case atStart => exact ⟨_, _, _, OM.out, HS.out, new B2.out _, by have := HU.out; simp; omega, by simp [pile]; omega⟩
 case round =>
  clear OM B2 HS HU hz
  obtain ⟨d, m, W, ho, hs, hb, hc, hk⟩ := hrel
  obtain ⟨g, cap, hnn⟩ := ho.nn
  subst hnn
  have OM := hid ho
  have SK := hid hs
  have HC := hid hc
  have HK := hid hk
  clear ho hs hc hk
  rcases List.eq_nil_or_concat W with hW | ⟨W', e, hW⟩
  ·subst hW
   have hd : D = d := SK.out.inv_nil
   subst hd
   have hdl : D.length ≤ 48 := by have := HC.out; omega
   clear HK HC
   obtain ⟨t, rfl, htn, hti, htm⟩ := ints_of_owns OM.out.dn (by simp; omega)
   have T1 := hid (And.intro hti htm)
   have htn' : t.n = D.length := by simpa using htn
   have HT := hid htn'
   have ht16 : t.n ≤ 48 := by omega
   clear hti htm htn htn'
   obtain ⟨g0, hg0, hga⟩ : ∃ g0, w.heap.size ≤ g0 ∧ (0 < t.n → t.a = some ⟨g0, 0, none⟩ ∧ g0 < wr.heap.size ∧ ∀ i, wr.frozen? ⟨g0, i, none⟩ = false) := by
    by_cases hp : 0 < t.n
    ·obtain ⟨g0, a1, a2, a3, a4⟩ := T1.out.2 hp
     exact ⟨g0, by omega, fun _ => ⟨a1, a3, a4⟩⟩
    ·exact ⟨w.heap.size, Nat.le_refl _, fun h => absurd h hp⟩
   have GA := hid hga
   clear hga
   go_wp2_with fail
   refine (reverse_any t g0 _ wr T1.out.1 (fun h => (GA.out h).1) (fun h => (GA.out h).2.1) (fun h => (GA.out h).2.2) (by omega)).mono ?_
   rintro e w5 ⟨rfl, hti5, htu⟩
   go_wp2_with fail
   go_ret
   refine ⟨t, rfl, by rw [HT.out, List.length_reverse], hti5.congr (fun i hi => ?_), fun hp => ?_, ?_⟩
   ·have hi' : i < D.length := by rw [← HT.out]; exact hi
    show (ints D).getD (t.n - 1 - i) 0 = _
    rw [getD_ints D _ (by rw [HT.out]; omega), HT.out]
    congr 1
    have h2 : D.length - 1 - i < D.length := by omega
    simp [List.getD, hi', List.getElem?_eq_getElem h2]
   ·obtain ⟨a1, a2, a3⟩ := GA.out hp
    exact ⟨g0, a1, hg0, by have := htu.size; omega, fun i => by rw [htu.froz _ a2]; exact a3 i⟩
   ·exact ⟨htu.os.trans hb.os, htu.tape.trans hb.tape, htu.output.trans hb.output, Nat.le_trans hb.size htu.size, fun k hk => (htu.block k (by have := hb.size; omega) (by omega)).trans (hb.block k hk)⟩
  ·simp only [List.concat_eq_append] at hW
   subst hW
   obtain ⟨b, s', l⟩ := e
   obtain ⟨h1, h2, h3, h4, h5, h6⟩ := OM.out.top
   have eok := OM.out.en ⟨b, s', l⟩ (by simp)
   have hlen : (W' ++ [(⟨b, s', l⟩ : Ent)]).length = W'.length + 1 := by simp
   obtain ⟨k, hkk⟩ : ∃ k, W'.length = k := ⟨_, rfl⟩
   rw [hkk] at h1 h2 h6 hlen
   rw [hlen]
   have hix := way_at (g := g) (cap := cap) (Nat.lt_succ_self k)
   have hfa := OM.out.fa
   have EOK := hid eok
   have HKK := hid (And.intro hkk hlen)
   have hkb : k < 48 := by have := HC.out; rw [hlen] at this; omega
   clear eok hkk hlen
   cases l with
   | nil =>
    have hsn : s'.n = 0 := EOK.out.len
    have t1 : ((s'.n : Int) == 0) = true := by simp [hsn]
    have HSN := hid hsn
    clear hsn
    have hdl : d.length ≤ 48 := by have := HC.out; omega
    go_wp2_with (at_builtin; refine append_at rfl (.tmp 37) (.tmp 40) rfl (w.heap.size + 2) u3 (ints d) rfl b (OM.out.alloc (.cells #[.int .i64 b, .slice s'.a s'.n s'.c] 224)).dn (by rw [World.size_alloc]; rfl) (by simp; omega) (by simp; omega) ?_; intro v2 w2 hown2 hgr2 hat2; have OW := hid (And.intro hown2 (And.intro hgr2 hat2)); clear hown2 hgr2 hat2)
    go_roundg (toCome (su F) m F.blk.n + pile (wy W'))
    case measure =>
     have h := HK.out
     simp only [wy, List.map_append, List.map_cons, List.map_nil] at h
     rw [pile_snoc] at h
     simp only [wy]
     omega
    case rel =>
     obtain ⟨o1, o2, o3⟩ := OW.out
     have hP := (OM.out.alloc (.cells #[.int .i64 b, .slice s'.a s'.n s'.c] 224)).pop rfl o1 o2 o3
     have hkk := HKK.out.1
     rw [hkk] at hP
     refine ⟨_, _, _, hP, ?_, ?_, ?_, Nat.le_refl _⟩
     ·have := SK.out
      simp only [wy, List.map_append, List.map_cons, List.map_nil] at this
      exact this.pop
     ·exact (new (new hb _) _).grown o2 (by simp; omega) (fun q hq => by have := (OM.out.dn.lt q hq).1; omega)
     ·have := HC.out
      simp at this ⊢
      omega
   | cons x l =>
    have hsn : s'.n = l.length + 1 := EOK.out.len
    have t1 : ((s'.n : Int) == 0) = false := by simp; omega
    have hxn : x < F.blk.n := EOK.out.lt x (by simp)
    obtain ⟨ib, io, hiy, hcell⟩ := (EOK.out.ints.on (new (same _) (.cells #[.int .i64 b, .slice s'.a s'.n s'.c] 224))).at (k := 0) (by show 0 < s'.n; omega)
    simp only [List.getD_cons_zero] at hcell
    replace hiy : ∀ wx, (Instr.indexAt 33 (.slice s'.a s'.n s'.c) (.int .i64 0)).run Tryz.prog wx = .ok (.pointer (some ⟨ib, io, none⟩)) wx := hiy
    have htl := tl_run (s := s') EOK.out.ints (by omega)
    have O1 := hid (OM.out.shift rfl)
    rw [HKK.out.1] at O1
    have hbl := bool_at (g := w.heap.size + 1) hxn
    have hrc := OM.out.mt.cell hxn
    have hrf := OM.out.mt.frozen x
    have hml := OM.out.mt.lt
    have HSN := hid hsn
    clear hsn
    obtain ⟨c0, c1, c2, c3, c4⟩ := hfa
    have hwl : w.heap.size < wr.heap.size := by omega
    by_cases hm : m x = true
    ·rw [hm] at hrc
     have HM := hid hm
     clear hm
     go_wp2_with fail
     go_roundg (toCome (su F) m F.blk.n + pile (wy (W' ++ [(⟨b, tl s', l⟩ : Ent)])))
     case measure =>
      have h := HK.out
      simp only [wy, List.map_append, List.map_cons, List.map_nil] at h ⊢
      rw [pile_snoc] at h ⊢
      simp at h ⊢
      omega
     case rel =>
      refine ⟨d, m, W' ++ [(⟨b, tl s', l⟩ : Ent)], ?_, ?_, ?_, ?_, Nat.le_refl _⟩
      ·have := O1.out.alloc (.cells #[.int .i64 b, .slice s'.a s'.n s'.c] 224)
       rw [HKK.out.2] at this
       exact this
      ·have := SK.out
       simp only [wy, List.map_append, List.map_cons, List.map_nil] at this ⊢
       exact this.skip HM.out
      ·exact new (hb.setCell (by show w.heap.size ≤ g; omega) _) _
      ·have := HC.out
       simp at this ⊢
       omega
    have hm' : m x = false := by simpa using hm
    rw [hm'] at hrc
    have HM := hid hm'
    clear hm hm'
    have O2 := hid ((O1.out.meet x).alloc (.cells #[.int .i64 b, .slice s'.a s'.n s'.c] 224))
    rw [HKK.out.2] at O2
    have b2 := new ((hb.setCell (p := ⟨g, k * 2 + 1, none⟩) (by show w.heap.size ≤ g; omega) (Sl.val (tl s'))).setCell (p := ⟨w.heap.size + 1, x, none⟩) (by show w.heap.size ≤ w.heap.size + 1; omega) (.bool true)) (.cells #[.int .i64 b, .slice s'.a s'.n s'.c] 224)
    have B2 := hid b2
    clear b2
    go_wp2_with fail
    refine (next_flow F x _ (HF.out.on B2.out) HL.out HJ.out).mono ?_
    rintro e w3 ⟨s3, rfl, hsn3, hsi3, hsm3, hb3⟩
    rw [suI_nat] at hsn3 hsi3
    have O3 := hid (O2.out.on hb3)
    have B3 := hid (View.more B2.out hb3)
    have hz3 := hb3.size
    simp only [World.size_alloc, World.size_setCell] at hz3 hsm3
    have E3 := hid (And.intro hsn3 (And.intro hsi3 hsm3))
    clear hsn3 hsi3 hsm3 hb3 c0 c1 c2 c3 c4 hrc hrf h1 h2 h3 hcell hiy htl
    go_wp2_with (at_builtin; refine append_visit rfl (.tmp 64) (.tmp 70) rfl (w.heap.size + 2) (.slice (some ⟨g, 0, none⟩) (k + 1) cap) (k + 1) (flatW (W' ++ [(⟨b, tl s', l⟩ : Ent)])) rfl x s3 (by have := O3.out.wy; simp only [List.length_append, List.length_cons, List.length_nil, HKK.out.1] at this; exact this) rfl (by omega) (by omega) ?_; intro v4 w4 hown4 hgr4 hat4; have OW := hid (And.intro hown4 (And.intro hgr4 hat4)); clear hown4 hgr4 hat4)
    go_roundg (toCome (su F) (upd m x) F.blk.n + pile (wy (W' ++ [(⟨b, tl s', l⟩ : Ent)] ++ [(⟨x, s3, su F x⟩ : Ent)])))
    case measure =>
     have h := HK.out
     have h' := toCome_upd (N := su F) HM.out hxn
     simp only [wy, List.map_append, List.map_cons, List.map_nil] at h ⊢
     rw [pile_snoc] at h
     rw [pile_snoc, pile_snoc]
     simp at h ⊢
     omega
    case rel =>
     obtain ⟨o1, o2, o3⟩ := OW.out
     obtain ⟨e1, e2, e3⟩ := E3.out
     have l1 := O2.out.dn.lt
     have l2 := O2.out.wy.lt
     simp only [World.size_alloc, World.size_setCell] at l1 l2
     have he : EntOk F.blk.n w3 w.heap.size u3.ownBlock (Value.slice (some ⟨g, 0, none⟩) (k + 1) cap).ownBlock ⟨x, s3, su F x⟩ := by
      refine ⟨hxn, e1, e2, su_lt F x, fun hp => ?_⟩
      obtain ⟨g3, a1, a2, a3, _⟩ := e3 hp
      exact ⟨g3, 0, a1, by omega, a3, fun e => by have := (l1 g3 e.symm).2; omega, fun e => by have := (l2 g3 e.symm).2; omega⟩
     have hlw : (W' ++ [(⟨b, tl s', l⟩ : Ent)]).length = k + 1 := by simp [HKK.out.1]
     refine ⟨d, upd m x, W' ++ [(⟨b, tl s', l⟩ : Ent)] ++ [(⟨x, s3, su F x⟩ : Ent)], O3.out.push he (by rw [hlw]; exact o1) o2 o3, ?_, ?_, ?_, Nat.le_refl _⟩
     ·have := SK.out
      simp only [wy, List.map_append, List.map_cons, List.map_nil] at this ⊢
      exact this.push HM.out
     ·exact (new B3.out _).grown o2 (by simp; omega) (fun q hq => by have := (l2 q hq).1; omega)
     ·have h := HC.out
      have h' := unmet_upd HM.out (n := F.blk.n)
      rw [if_pos hxn] at h'
      simp at h ⊢
      omega

end Go.Proofs.YtolipafcoolpgaaGreat.Flo
