/-
  FloS, FloT, FloY: laid together.
-/
import Derived.Test.YtolipafcoolpgaaGreatJ2
import Derived.Deep.LoopGhost
import Derived.Deep.RegionHeld3
/-
  By the document: plnref3.Last, Next.
-/
namespace Go.Proofs.YtolipafcoolpgaaGreat.Flo
open Go.RowKit View Rd Copy Num Ty Srt

set_option linter.unusedVariables false

theorem results_cell_tmp {fn : Func} {p q : Tmp} {ty : TypeId} (h : fn.results = #[.cell p ty, .tmp q]) (tmps : Array Value) (P : Program) (w : World) :
  (results fn tmps).run P w = ((asAddr (tmps.getD p undef)).run P w).andThen fun a w₁ => ((loadVar ty a).run P w₁).andThen fun v w₂ => .ok (.tuple #[v, tmps.getD q undef]) w₂ := by
 simp only [results, h]
 simp [Sem.run_bind, Result.andThen]

def hasL (F : FV) (x : Int) : Bool := isB F x && decide ((F.B x.toNat).n ≠ 0)
def lastI (F : FV) (x : Int) : IV := if hasL F x = true then F.I x.toNat ((F.B x.toNat).n - 1) else IV.zero

def LastIs (F : FV) (x : Int) (w : World) (e : Ending) (w' : World) : Prop := e = .returned (.tuple #[(lastI F x).val, .bool (hasL F x)]) ∧ Below w.heap.size w w'

set_option maxHeartbeats 1000000 in
theorem last_ref (F : FV) (x : Int) (w : World) (hF : In w F) :
  Calls Tryz.prog 181 #[F.val, .int .i64 x] w fun e w' => LastIs F x w e w' := by
 have HF := hid hF
 have q2 := hF.blk.2.1
 clear hF
 by_cases hx : isB F x = true
 case neg =>
  have hl : hasL F x = false := by unfold hasL; simp at hx; simp [hx]
  have hI : lastI F x = IV.zero := by unfold lastI; simp [hl]
  by_cases h0 : x < 0
  ·have t1 : decide (x < 0) = true := by simpa using h0
   go_enter Tryz.func181, Tryz.ntmps181
   go_wp2_with fail
   refine bodyPost_ret (v := .tuple #[IV.zero.val, .bool false]) (by rw [results_cell_tmp rfl]; go_simp) rfl ?_
   exact ⟨by rw [hl, hI], new (new (same w) _) _⟩
  ·have t1 : decide (x < 0) = false := by simpa using h0
   have t2 : decide ((F.blk.n : Int) ≤ x) = true := by unfold isB at hx; simp at hx; simp; omega
   go_enter Tryz.func181, Tryz.ntmps181
   go_wp2_with fail
   refine bodyPost_ret (v := .tuple #[IV.zero.val, .bool false]) (by rw [results_cell_tmp rfl]; go_simp) rfl ?_
   exact ⟨by rw [hl, hI], new (new (same w) _) _⟩
 obtain ⟨b, rfl⟩ : ∃ b : Nat, x = b := ⟨x.toNat, by unfold isB at hx; simp at hx; omega⟩
 have hb : b < F.blk.n := by unfold isB at hx; simp at hx; omega
 have t1 : decide ((b : Int) < 0) = false := by simp
 have t2 : decide ((F.blk.n : Int) ≤ (b : Int)) = false := by simp; omega
 obtain ⟨bb, oo, hix, hck⟩ := (HF.out.blk.on (new (new (same w) (.cells (fcells F) 36)) (.cells IV.zero.cells 43))).at hb
 by_cases h0 : (F.B b).n = 0
 ·have t3 : (((F.B b).n : Int) == 0) = true := by simp [h0]
  have hl : hasL F b = false := by unfold hasL; simp [h0]
  have hI : lastI F b = IV.zero := by unfold lastI; simp [hl]
  have H0 := hid h0
  clear h0 hx
  go_enter Tryz.func181, Tryz.ntmps181
  go_wp2_with fail
  refine bodyPost_ret (v := .tuple #[IV.zero.val, .bool false]) (by rw [results_cell_tmp rfl]; go_simp) rfl ?_
  exact ⟨by rw [hl, hI], new (new (same w) _) _⟩
 ·have t3 : (((F.B b).n : Int) == 0) = false := by simp [h0]
  have hl : hasL F b = true := by unfold hasL; simp [h0, hx]
  have hI : lastI F b = F.I b ((F.B b).n - 1) := by unfold lastI; simp [hl]
  obtain ⟨m, hm⟩ : ∃ m, (F.B b).n = m + 1 := ⟨(F.B b).n - 1, by omega⟩
  have e1 : ((F.B b).n : Int) - 1 = m := by omega
  have q3 := (HF.out.ins b hb).2.1
  obtain ⟨ib, io, hiy, c0, c1, c2, c3, c4, c5, c6⟩ := ((HF.out.ins b hb).on (new (new (same w) (.cells (fcells F) 36)) (.cells IV.zero.cells 43))).at (k := m) (by omega)
  rw [← e1] at hiy
  have HM := hid hm
  have E1 := hid e1
  have HL := hid hl
  have HI := hid hI
  clear hm e1 h0 hx hl hI
  go_enter Tryz.func181, Tryz.ntmps181
  go_wp2_with fail
  refine bodyPost_ret (v := .tuple #[(F.I b m).val, .bool true]) (by rw [results_cell_tmp rfl]; go_simp) rfl ?_
  exact ⟨by rw [HL.out, HI.out, HM.out]; rfl, new (new (same w) _) _⟩

theorem ex_mem {l : List Nat} {n : Nat} (hn : n = l.length) (x : Nat) : (∃ i, i < n ∧ ((l.getD i 0 : Nat) : Int) = (x : Int)) ↔ x ∈ l := by
 constructor
 ·rintro ⟨i, hi, e⟩
  have : l.getD i 0 = x := by omega
  rw [← this]
  exact getD_mem (by omega)
 ·intro h
  obtain ⟨i, hi, e⟩ := List.getElem_of_mem h
  exact ⟨i, by omega, by simp [List.getD, hi, e]⟩

theorem suI_none {F : FV} {x : Int} (h : hasL F x = false) : suI F x = [] := by
 unfold suI
 split
 ·next h0 =>
  unfold su
  split
  ·next hb =>
   have hx : isB F x = true := by unfold isB; simp; omega
   have : (F.B x.toNat).n = 0 := by unfold hasL at h; simpa [hx] using h
   have hled : led (F.B x.toNat) (F.I x.toNat) = ⟨none, 0, 0⟩ := by unfold led; rw [if_pos this]
   rw [hled]; rfl
  ·rfl
 ·rfl

set_option maxRecDepth 10000 in
set_option maxHeartbeats 2000000 in
theorem next_ref (F : FV) (x : Int) (w : World) (hF : In w F) (hl : Light F) :
  Calls Tryz.prog 157 #[F.val, .int .i64 x] w fun e w' => Gives (suI F x) w e w' := by
 have HF := hid hF
 have HL := hid hl
 have gb := hl.blk
 clear hF hl
 obtain ⟨LL, hLL⟩ : ∃ LL, suI F x = LL := ⟨_, rfl⟩
 rw [hLL]
 have HLL := hid hLL
 clear hLL
 go_enter Tryz.func157, Tryz.ntmps157
 go_wp2_with fail
 refine (last_ref F x _ (HF.out.on (new (same w) _))).mono ?_
 rintro e w1 ⟨rfl, hb1⟩
 have f1 : FuncAt w1 w.heap.size F := (FuncAt.alloc w F).on hb1
 have b1 := View.more (new (same w) _) hb1
 have hz := hb1.size
 simp only [World.size_alloc] at hz
 have F1 := hid f1
 have B1 := hid b1
 clear hb1 f1 b1
 by_cases hh : hasL F x = true
 case neg =>
  have hh' : hasL F x = false := by simpa using hh
  rw [hh']
  have e0 := HLL.out
  rw [suI_none hh'] at e0
  subst e0
  clear hh
  go_wp2_with fail
  go_ret
  exact gives_nil (new B1.out _)
 have hxb : isB F x = true := by unfold hasL at hh; simp at hh; exact hh.1
 obtain ⟨b, rfl⟩ : ∃ b : Nat, x = b := ⟨x.toNat, by unfold isB at hxb; simp at hxb; omega⟩
 have hb : b < F.blk.n := by unfold isB at hxb; simp at hxb; omega
 have hn0 : (F.B b).n ≠ 0 := by unfold hasL at hh; simp at hh; exact hh.2
 have hI : lastI F b = F.I b ((F.B b).n - 1) := by unfold lastI; rw [if_pos hh]; rfl
 have hsu : su F b = nxt F.blk.n (F.J b ((F.B b).n - 1)) (led (F.B b) (F.I b)).n := by rw [su, if_pos hb]
 have hled : led (F.B b) (F.I b) = if (F.I b ((F.B b).n - 1)).op = 27 ∨ (F.I b ((F.B b).n - 1)).op = 28 then (F.I b ((F.B b).n - 1)).into else ⟨none, 0, 0⟩ := by unfold led; rw [if_neg hn0]
 rw [hh, hI]
 have e0 := HLL.out
 rw [suI_nat, hsu, hled] at e0
 have HI := hid (HF.out.into b hb ((F.B b).n - 1) (by omega))
 have hle := HL.out.into b hb ((F.B b).n - 1) (by omega)
 obtain ⟨v, hv⟩ : ∃ v, F.I b ((F.B b).n - 1) = v := ⟨_, rfl⟩
 obtain ⟨f, hf⟩ : ∃ f, F.J b ((F.B b).n - 1) = f := ⟨_, rfl⟩
 rw [hv] at HI hle
 rw [hf] at HI
 rw [hv, hf] at e0
 rw [hv]
 clear HLL hh hxb hn0 hI hsu hled hv hf
 by_cases hop : v.op = 27 ∨ v.op = 28
 case neg =>
  rw [if_neg hop] at e0
  subst e0
  have t1 : (v.op != 27) = true := by simp; exact fun h => hop (.inl h)
  have t2 : (v.op != 28) = true := by simp; exact fun h => hop (.inr h)
  have HO := hid hop
  clear hop
  go_wp2_with fail
  go_ret
  exact gives_nil (new B1.out _)
 rw [if_pos hop] at e0
 have HLL := hid e0
 clear e0
 have hgo : ((v.op != 27) = false) ∨ ((v.op != 27) = true ∧ (v.op != 28) = false) := by
  rcases hop with h | h
  ·left; simp [h]
  ·right; simp [h]
 have IA := hid (InsAt.alloc w1 v)
 have BA := hid (new B1.out (.cells v.cells 43))
 have FA := hid (F1.out.on (new (same _) (.cells v.cells 43)))
 clear hop
 rcases hgo with t1 | ⟨t1, t2⟩
 all_goals
  go_wp2_with fail
  go_loopw [7, 8] (fun o i wr => ∃ k : Nat, k ≤ v.into.n ∧ i = .int .i64 k ∧ wr.ownsRow (w1.heap.size + 1) 3 1 o (ints (nxt F.blk.n f k)).length ((ints (nxt F.blk.n f k)).map (Value.int .i64)) ∧ InsAt wr w1.heap.size 0 v ∧ FuncAt wr w.heap.size F ∧ Below w.heap.size w wr ∧ w1.heap.size < wr.heap.size) (fun _ i _ => v.into.n - (intOf i).toNat)
  case atStart => exact ⟨0, Nat.zero_le _, rfl, World.ownsRow_nil _ _ _ _, IA.out, FA.out, BA.out, by simp⟩
  case round =>
   clear IA FA BA
   obtain ⟨k, hk, rfl, hown, hia, hfa, hbr, hwr⟩ := hrel
   have HO := hid hown
   have HIA := hid hia
   have HFA := hid hfa
   obtain ⟨i0, i1, i2, i3, i4, i5, i6⟩ := hia.head
   obtain ⟨c0, c1, c2, c3, c4⟩ := hfa
   clear hown hia
   by_cases hlt : k < v.into.n
   ·obtain ⟨ib, io, hiy, hcell⟩ := (HI.out.on hbr).at hlt
    have hnl := nxt_le F.blk.n f k
    obtain ⟨X, hX⟩ : ∃ X, nxt F.blk.n f k = X := ⟨_, rfl⟩
    rw [hX] at hnl HO
    have HXX := hid hX
    clear hX
    by_cases h0 : 0 ≤ f k
    case neg =>
     have t3 : decide ((0 : Int) ≤ f k) = false := by simpa using h0
     go_wp2_with fail
     go_round
     case rel =>
      have e : nxt F.blk.n f (k + 1) = X := by rw [nxt_no (fun h => h0 h.1), HXX.out]
      exact ⟨k + 1, by omega, by go_num, by rw [e]; exact HO.out, HIA.out, HFA.out, hbr, hwr⟩
     case measure => simp [intOf]; omega
    have t3 : decide ((0 : Int) ≤ f k) = true := by simpa using h0
    by_cases h1 : f k < F.blk.n
    case neg =>
     have t4 : decide (f k < (F.blk.n : Int)) = false := by simpa using h1
     have HH := hid h1
     clear h1
     go_wp2_with fail
     go_round
     case rel =>
      have e : nxt F.blk.n f (k + 1) = X := by rw [nxt_no (fun h => HH.out h.2.1), HXX.out]
      exact ⟨k + 1, by omega, by go_num, by rw [e]; exact HO.out, HIA.out, HFA.out, hbr, hwr⟩
     case measure => simp [intOf]; omega
    have t4 : decide (f k < (F.blk.n : Int)) = true := by simpa using h1
    obtain ⟨z, hz1⟩ : ∃ z : Nat, f k = z := ⟨(f k).toNat, by omega⟩
    obtain ⟨so, rfl, hon, hoi, hom⟩ := ints_of_owns HO.out (by simp; omega)
    have OI := hid hoi
    have ON := hid hon
    have hso : so.n ≤ 1000 := by simp at hon; omega
    have HZ := hid (And.intro hz1 (And.intro h0 h1))
    rw [hz1] at hcell t3 t4
    have hzn : (z : Int) < F.blk.n := by omega
    have hzn' : z < F.blk.n := by omega
    clear hoi hon hom hz1 h0 h1
    go_wp2_with fail
    refine (in_any so _ z _ OI.out hso).mono ?_
    rintro e w3 ⟨r, rfl, hr, hb3⟩
    have hmem : r = true ↔ z ∈ X := by
     rw [hr]
     have h1 := ex_mem (l := X) (n := so.n) (by have := ON.out; simpa using this) z
     rw [← h1]
     constructor
     ·rintro ⟨i, hi, e⟩; exact ⟨i, hi, by rw [← getD_ints X i (by have := ON.out; simp at this; omega)]; exact e⟩
     ·rintro ⟨i, hi, e⟩; exact ⟨i, hi, by rw [getD_ints X i (by have := ON.out; simp at this; omega)]; exact e⟩
    have HM := hid hmem
    have O3 := hid (owns_on hb3 HO.out)
    have I3 := hid (HIA.out.on hb3)
    have F3 := hid (HFA.out.on hb3)
    have B3 := hid (View.more hbr hb3)
    have z3 := hb3.size
    clear hmem hr hb3 HO HIA HFA hbr c0 c1 c2 c3 c4 i0 i1 i2 i3 i4 i5 i6 hiy hcell OI
    cases r with
    | true =>
     go_wp2_with fail
     go_round
     case rel =>
      have e : nxt F.blk.n f (k + 1) = X := by rw [nxt_no (fun h => h.2.2 (by rw [HXX.out, HZ.out.1]; exact HM.out.1 (by simp))), HXX.out]
      exact ⟨k + 1, by omega, by go_num, by rw [e]; exact O3.out, I3.out, F3.out, B3.out, by omega⟩
     case measure => simp [intOf]; omega
    | false =>
     go_wp2_with (at_builtin; refine append_one rfl (.tmp 55) (.tmp 57) rfl (w1.heap.size + 1) _ (ints X) rfl (z : Int) O3.out rfl (by simp; omega) (by omega) ?_; intro v5 w5 hown5 hgr5; have OW := hid (And.intro hown5 hgr5); clear hown5 hgr5)
     go_round
     case rel =>
      obtain ⟨hown5, hgr5⟩ := OW.out
      have k4 : ∀ q, (_root_.Go.Value.ownBlock _ = some q) → w1.heap.size + 1 ≤ q := fun q hq => (O3.out.lt q hq).1
      have hs5 := hgr5.size
      simp only [World.size_alloc] at hs5
      have e : nxt F.blk.n f (k + 1) = X ++ [(f k).toNat] := by
       rw [nxt_yes HZ.out.2.1 HZ.out.2.2 (by rw [HXX.out, HZ.out.1]; exact fun h => by simpa using HM.out.2 h), HXX.out]
      have e2 : ints (X ++ [(f k).toNat]) = ints X ++ [(z : Int)] := by simp [ints, HZ.out.1]
      refine ⟨k + 1, by omega, by go_num, by rw [e, e2]; exact hown5, ?_, ?_, (new B3.out _).grown hgr5 (by simp; omega) (fun q hq => by have := k4 q hq; omega), by omega⟩
      ·exact (I3.out.on (new (same _) _)).kept (p := fun k => k = w1.heap.size) ⟨hgr5.size, fun k hk => by subst hk; exact hgr5.block _ (by simp; omega) (fun e => by have := k4 _ e.symm; omega)⟩ rfl
      ·exact FuncAt.grown (F3.out.on (new (same _) _)) hgr5 (fun q hq => by have := k4 q hq; omega)
     case measure => simp [intOf]; omega
   ·obtain rfl : k = v.into.n := by omega
    go_wp2_with fail
    go_ret
    have e0 := HLL.out
    rw [e0] at HO
    exact gives_of_owns HO.out (by have := nxt_le F.blk.n f v.into.n; rw [e0] at this; omega) hbr (by omega)

def suL (F : FV) (ls : Int) (b : Nat) : List Nat := (su F b).filter (fun t => decide ((t : Int) ≠ ls))

theorem mem_suL {F : FV} {ls : Int} {b t : Nat} : t ∈ suL F ls b ↔ t ∈ su F b ∧ (t : Int) ≠ ls := by simp [suL]

theorem suL_neg {F : FV} {ls : Int} (h : ls < 0) : suL F ls = su F := by
 funext b
 unfold suL
 rw [List.filter_eq_self]
 intro t _
 simp
 omega

theorem upd_eq (m : Nat → Bool) (t i : Nat) : (Value.bool (upd m t i)) = if i = t then Value.bool true else Value.bool (m i) := by unfold upd; split <;> rfl

structure Met (F : FV) (ls : Int) (s0 : Nat) (f : Nat → Bool) : Prop where
 start : f s0 = true
 way : ∀ i, f i = true → Way (suL F ls) s0 i

theorem Met.more {F : FV} {ls : Int} {s0 : Nat} {f : Nat → Bool} (h : Met F ls s0 f) {b x : Nat} (hb : f b = true) (hx : x ∈ suL F ls b) : Met F ls s0 (upd f x) := by
 refine ⟨by unfold upd; split; rfl; exact h.start, fun i hi => ?_⟩
 unfold upd at hi
 split at hi
 ·next e => subst e; exact (h.way b hb).step hx
 ·exact h.way i hi

def Shut (F : FV) (ls : Int) (f : Nat → Bool) (b : Nat) : Prop := ∀ c, c < b → f c = true → ∀ t ∈ suL F ls c, f t = true

theorem met_iff {F : FV} {ls : Int} {s0 : Nat} {f : Nat → Bool} (h : Met F ls s0 f) (hs : Shut F ls f F.blk.n) (i : Nat) : f i = true ↔ Way (suL F ls) s0 i := by
 refine ⟨h.way i, fun hw => ?_⟩
 induction hw with
 | refl => exact h.start
 | @step b c _ hc ih =>
  have hb : b < F.blk.n := by
   have := (mem_suL.1 hc).1
   unfold su at this
   split at this
   ·assumption
   ·simp at this
  exact hs b hb ih c hc

def FromIs (F : FV) (st ls : Int) (w : World) (e : Ending) (w' : World) : Prop :=
 ∃ f : Nat → Bool, ReachIs F.blk.n f w e w' ∧ ∀ i, i < F.blk.n → (f i = true ↔ isB F st = true ∧ st ≠ ls ∧ Way (suL F ls) st.toNat i)

set_option maxRecDepth 10000 in
set_option maxHeartbeats 4000000 in
theorem from_ref (F : FV) (st ls : Int) (w : World) (hF : In w F) (hl : Light F) :
  Calls Tryz.prog 156 #[F.val, .int .i64 st, .int .i64 ls] w fun e w' => FromIs F st ls w e w' := by
 have HF := hid hF
 have HL := hid hl
 have gb := hl.blk
 have hmk := run_make_row' (P := Tryz.prog) 151 4 (.bool false) 1 underlying151 info4 rfl .i64 .i64 F.blk.n (by omega) (by omega)
 have hrow : ((w.alloc (.cells (fcells F) 36)).alloc (.cells (madeCells #[.bool false] F.blk.n) 4)).rowIs (w.heap.size + 1) 4 F.blk.n (fun _ => .bool false) := by
  have := World.rowIs_made (w.alloc (.cells (fcells F) 36)) (.bool false) F.blk.n 4
  simpa using this
 have HR := hid hrow
 have FW := hid ((FuncAt.alloc w F).on (new (same _) (.cells (madeCells #[.bool false] F.blk.n) 4)))
 clear hF hl hrow
 by_cases hgo : isB F st = true ∧ st ≠ ls
 case neg =>
  have fin : ∀ w', w'.rowIs (w.heap.size + 1) 4 F.blk.n (fun _ => .bool false) → Below w.heap.size w w' → FromIs F st ls w (.returned (.slice (some ⟨w.heap.size + 1, 0, none⟩) F.blk.n F.blk.n)) w' :=
   fun w' h1 h2 => ⟨fun _ => false, ⟨_, rfl, h1, by omega, h2⟩, fun i hi => by simp; exact fun a b => absurd ⟨a, b⟩ hgo⟩
  by_cases h0 : st < 0
  ·have t1 : decide (st < 0) = true := by simpa using h0
   clear hgo
   go_enter Tryz.func156, Tryz.ntmps156
   go_wp2_with fail
   go_ret
   exact fin _ HR.out (new (new (same w) _) _)
  ·have t1 : decide (st < 0) = false := by simpa using h0
   by_cases h1 : (F.blk.n : Int) ≤ st
   ·have t2 : decide ((F.blk.n : Int) ≤ st) = true := by simpa using h1
    clear hgo
    go_enter Tryz.func156, Tryz.ntmps156
    go_wp2_with fail
    go_ret
    exact fin _ HR.out (new (new (same w) _) _)
   ·have t2 : decide ((F.blk.n : Int) ≤ st) = false := by simpa using h1
    have h3 : st = ls := by
     refine Classical.byContradiction fun h => hgo ⟨?_, h⟩
     unfold isB; simp; omega
    have t3 : (st == ls) = true := by simpa using h3
    clear hgo h3
    go_enter Tryz.func156, Tryz.ntmps156
    go_wp2_with fail
    go_ret
    exact fin _ HR.out (new (new (same w) _) _)
 obtain ⟨hb, hne⟩ := hgo
 obtain ⟨s0, rfl⟩ : ∃ b : Nat, st = b := ⟨st.toNat, by unfold isB at hb; simp at hb; omega⟩
 have hs0 : s0 < F.blk.n := by unfold isB at hb; simp at hb; omega
 have t1 : decide ((s0 : Int) < 0) = false := by simp
 have t2 : decide ((F.blk.n : Int) ≤ (s0 : Int)) = false := by simp; omega
 have t2' : decide (F.blk.n ≤ s0) = false := by simp; omega
 have t3 : ((s0 : Int) == ls) = false := by simp; exact hne
 have HG := hid (And.intro hb hne)
 have hbz := bool_at (g := w.heap.size + 1) hs0
 have hmc : (madeCells #[Value.bool false] F.blk.n)[s0]? = some (.bool false) := by simp [madeCells, hs0, Nat.mod_one]
 have hr0 : ((w.alloc (.cells (fcells F) 36)).alloc (.cells ((madeCells #[.bool false] F.blk.n).setIfInBounds s0 (.bool true)) 4)).rowIs (w.heap.size + 1) 4 F.blk.n (fun i => .bool (upd (fun _ => false) s0 i)) := by
  refine ⟨(madeCells #[.bool false] F.blk.n).setIfInBounds s0 (.bool true), ?_, by simp [size_madeCells], fun i hi => ?_⟩
  ·have := Deep.blk_alloc_new (w.alloc (.cells (fcells F) 36)) (.cells ((madeCells #[.bool false] F.blk.n).setIfInBounds s0 (.bool true)) 4)
   simpa using this
  ·rw [Array.getElem?_setIfInBounds]
   by_cases e : s0 = i
   ·subst e; simp [size_madeCells, hs0, upd]
   ·rw [if_neg e]
    have e' : ¬ i = s0 := fun h => e h.symm
    simp [madeCells, hi, Nat.mod_one, upd, e']
 have R0 := hid hr0
 have M0 : Hid (Met F ls s0 (upd (fun _ => false) s0)) := ⟨by simp [upd], fun i hi => by
  unfold upd at hi
  split at hi
  ·next e => rw [e]; exact .refl _
  ·cases hi⟩
 clear hb hne hr0 HR
 go_enter Tryz.func156, Tryz.ntmps156
 go_wp2_with fail
 clear hmk hbz hmc
 go_loopg [8] (F.blk.n + 1) (fun k ag wr => ∃ (f : Nat → Bool) (g : Bool), ag = .bool g ∧ wr.rowIs (w.heap.size + 1) 4 F.blk.n (fun i => .bool (f i)) ∧ Met F ls s0 f ∧ (g = false → Shut F ls f F.blk.n) ∧ unmet f F.blk.n + (if g = true then 1 else 0) ≤ k ∧ FuncAt wr w.heap.size F ∧ Below w.heap.size w wr)
 case atStart => exact ⟨_, true, rfl, R0.out, M0.out, fun h => (by cases h), by have := unmet_mono (m := fun _ => false) (m' := upd (fun _ => false) s0) (fun x h => (by cases h)) F.blk.n; rw [unmet_none] at this; simp; exact this, (FuncAt.alloc w F).on (new (same _) _), new (new (same w) _) _⟩
 case round =>
  clear R0 M0
  obtain ⟨f, g, rfl, hr, hm, hs, hk, hf, hb⟩ := hrel
  have HR := hid hr
  have HM := hid hm
  have HS := hid hs
  have HK := hid hk
  have HFA := hid hf
  clear hr hm hs hk hf
  cases g with
  | false =>
   go_wp2_with fail
   go_ret
   exact ⟨f, ⟨_, rfl, HR.out, by omega, hb⟩, fun i hi => by
    rw [met_iff HM.out (HS.out (by simp)) i]
    exact ⟨fun h => ⟨HG.out.1, HG.out.2, h⟩, fun h => h.2.2⟩⟩
  | true =>
   go_wp2_with fail
   clear HS
   go_loopw [8, 9] (fun ag i wx => ∃ (f2 : Nat → Bool) (g : Bool) (b : Nat), b ≤ F.blk.n ∧ ag = .bool g ∧ i = .int .i64 b ∧ wx.rowIs (w.heap.size + 1) 4 F.blk.n (fun i => .bool (f2 i)) ∧ Met F ls s0 f2 ∧ (g = false → Shut F ls f2 b) ∧ unmet f2 F.blk.n + (if g = true then 1 else 0) ≤ unmet f F.blk.n ∧ FuncAt wx w.heap.size F ∧ Below w.heap.size w wx) (fun _ i _ => F.blk.n - (intOf i).toNat)
   case atStart => exact ⟨f, false, 0, Nat.zero_le _, rfl, rfl, HR.out, HM.out, fun _ c hc => by omega, by simp, HFA.out, hb⟩
   case round =>
    clear HR HM HFA hb
    obtain ⟨f2, g, b, hbn, rfl, rfl, hr, hm, hs, hu, hf, hb⟩ := hrel
    have HR := hid hr
    have HM := hid hm
    have HS := hid hs
    have HU := hid hu
    have HFA := hid hf
    obtain ⟨c0, c1, c2, c3, c4⟩ := hf
    have hwl := hr.lt
    clear hr hm hs hu
    by_cases hlt : b < F.blk.n
    ·have hbb := bool_at (g := w.heap.size + 1) hlt
     have hrc := HR.out.cell hlt
     by_cases hfb : f2 b = true
     ·rw [hfb] at hrc
      have FB := hid hfb
      clear hfb
      go_wp2_with fail
      refine (next_ref F b _ (HF.out.on hb) HL.out).mono ?_
      rintro e w3 ⟨s3, rfl, hsn, hsi, hsm, hb3⟩
      rw [suI_nat] at hsn hsi
      have hle := su_le HL.out b
      have hs20 : s3.n ≤ 20 := by omega
      have SN := hid hsn
      have SI := hid hsi
      have SM := hid hsm
      have R3 := hid (HR.out.of_block (hb3.block _ HR.out.lt))
      have F3 := hid (HFA.out.on hb3)
      have B3 := hid (View.more hb hb3)
      have z3 := hb3.size
      clear hsn hsi hsm hb3 hle HR HFA hb hbb hrc c0 c1 c2 c3 c4
      go_wp2_with fail
      go_loopw [8, 11] (fun ag i wy => ∃ (f3 : Nat → Bool) (g : Bool) (t : Nat), t ≤ s3.n ∧ ag = .bool g ∧ i = .int .i64 t ∧ wy.rowIs (w.heap.size + 1) 4 F.blk.n (fun i => .bool (f3 i)) ∧ Met F ls s0 f3 ∧ f3 b = true ∧ (g = false → Shut F ls f3 b ∧ ∀ j, j < t → ((su F b).getD j 0 : Int) ≠ ls → f3 ((su F b).getD j 0) = true) ∧ unmet f3 F.blk.n + (if g = true then 1 else 0) ≤ unmet f F.blk.n ∧ FuncAt wy w.heap.size F ∧ Below w.heap.size w wy ∧ Ints wy s3 (fun i => (((su F b).getD i 0 : Nat) : Int))) (fun _ i _ => s3.n - (intOf i).toNat)
      case atStart => exact ⟨f2, g, 0, Nat.zero_le _, rfl, rfl, R3.out, HM.out, FB.out, fun h => ⟨HS.out h, fun j hj => by omega⟩, HU.out, F3.out, B3.out, SI.out⟩
      case round =>
       clear R3 F3 B3 SI HM HS HU FB
       obtain ⟨f3, g, t, ht, rfl, rfl, hr, hm, hfb, hs, hu, hf, hb, hi⟩ := hrel
       have HR := hid hr
       have HM := hid hm
       have FB := hid hfb
       have HS := hid hs
       have HU := hid hu
       have HFA := hid hf
       have HI := hid hi
       have hwl2 := hr.lt
       clear hr hm hs hu hf hfb hi
       by_cases hlt2 : t < s3.n
       ·obtain ⟨ib, io, hiy, hcell⟩ := HI.out.at hlt2
        have htl : t < (su F b).length := by have := SN.out; omega
        have hmX := getD_mem htl
        have hx := su_lt F b _ hmX
        obtain ⟨X, hX⟩ : ∃ X, (su F b).getD t 0 = X := ⟨_, rfl⟩
        rw [hX] at hmX hx
        simp only [hX] at hcell
        have hbx := bool_at (g := w.heap.size + 1) hx
        have hrx := HR.out.cell hx
        have hrf := HR.out.frozen X
        have HX := hid (And.intro hX hmX)
        clear hX hmX
        by_cases hls : (X : Int) = ls
        ·have t5 : ((X : Int) != ls) = false := by simp [hls]
         have HLS := hid hls
         clear hls
         go_wp2_with fail
         go_round
         case rel =>
          refine ⟨f3, g, t + 1, by omega, rfl, by go_num, HR.out, HM.out, FB.out, fun h => ⟨(HS.out h).1, fun j hj hne => ?_⟩, HU.out, HFA.out, hb, HI.out⟩
          by_cases e : j = t
          ·subst e; rw [HX.out.1] at hne; exact absurd HLS.out hne
          ·exact (HS.out h).2 j (by omega) hne
         case measure => simp [intOf]; omega
        ·have t5 : ((X : Int) != ls) = true := by simp [hls]
         have HLS := hid hls
         clear hls
         by_cases hfx : f3 X = true
         ·rw [hfx] at hrx
          have FX := hid hfx
          clear hfx
          go_wp2_with fail
          go_round
          case rel =>
           refine ⟨f3, g, t + 1, by omega, rfl, by go_num, HR.out, HM.out, FB.out, fun h => ⟨(HS.out h).1, fun j hj hne => ?_⟩, HU.out, HFA.out, hb, HI.out⟩
           by_cases e : j = t
           ·subst e; rw [HX.out.1]; exact FX.out
           ·exact (HS.out h).2 j (by omega) hne
          case measure => simp [intOf]; omega
         ·have hfx' : f3 X = false := by simpa using hfx
          rw [hfx'] at hrx
          have FX := hid hfx'
          clear hfx hfx'
          go_wp2_with fail
          go_round
          case rel =>
           have hmore := HM.out.more FB.out (mem_suL.2 ⟨HX.out.2, HLS.out⟩)
           have hun := unmet_upd FX.out (n := F.blk.n)
           rw [if_pos hx] at hun
           refine ⟨upd f3 X, true, t + 1, by omega, rfl, by go_num, (HR.out.set X (.bool true)).congr (fun i hi => (upd_eq f3 X i).symm), hmore, by unfold upd; split; rfl; exact FB.out, fun h => (by cases h), ?_, HFA.out.kept ((Kept.refl (fun b => b ≠ w.heap.size + 1) wr).setCell (fun h => h rfl) _) (by show _ ≠ _; omega), hb.setCell (by show _ ≤ w.heap.size + 1; omega) _, HI.out.kept ((Kept.refl (fun b => b ≠ w.heap.size + 1) wr).setCell (fun h => h rfl) _) (fun b off h h0 => by have := (SM.out.ge b off h h0).1; omega)⟩
           have := HU.out
           simp
           split at this <;> omega
          case measure => simp [intOf]; omega
       ·obtain rfl : t = s3.n := by omega
        go_wp2_with fail
        go_round
        case rel =>
         refine ⟨f3, g, b + 1, by omega, rfl, by go_num, HR.out, HM.out, fun h c hc hfc x hx => ?_, HU.out, HFA.out, hb⟩
         by_cases e : c = b
         ·subst e
          obtain ⟨h1, h2⟩ := mem_suL.1 hx
          obtain ⟨j, hj, e'⟩ := List.getElem_of_mem h1
          have h3 := (HS.out h).2 j (by rw [SN.out]; exact hj)
          have hg : (su F c).getD j 0 = x := by simp only [List.getD, List.getElem?_eq_getElem hj, e', Option.getD_some]
          rw [hg] at h3
          exact h3 h2
         ·exact (HS.out h).1 c (by omega) hfc x hx
        case measure => simp [intOf]; omega
     ·have hfb' : f2 b = false := by simpa using hfb
      rw [hfb'] at hrc
      have FB := hid hfb'
      clear hfb hfb'
      go_wp2_with fail
      go_round
      case rel =>
       refine ⟨f2, g, b + 1, by omega, rfl, by go_num, HR.out, HM.out, fun h c hc hfc x hx => ?_, HU.out, HFA.out, hb⟩
       by_cases e : c = b
       ·subst e; rw [FB.out] at hfc; cases hfc
       ·exact HS.out h c (by omega) hfc x hx
      case measure => simp [intOf]; omega
    ·obtain rfl : b = F.blk.n := by omega
     go_wp2_with fail
     go_roundg (unmet f2 F.blk.n + (if g = true then 1 else 0))
     case measure => have h1 := HK.out; have h2 := HU.out; simp at h1; omega
     case rel => exact ⟨f2, g, rfl, HR.out, HM.out, HS.out, Nat.le_refl _, HFA.out, hb⟩

theorem reach_ref (F : FV) (w : World) (hF : In w F) (hl : Light F) :
  Calls Tryz.prog 108 #[F.val] w fun e w' => FromIs F 0 (-1) w e w' := by
 have HF := hid hF
 have HL := hid hl
 clear hF hl
 go_enter Tryz.func108, Tryz.ntmps108
 go_wp2_with fail
 refine (from_ref F 0 (-1) _ (HF.out.on (new (same w) _)) HL.out).mono ?_
 rintro e w1 ⟨f, ⟨M, rfl, hr, hM, hb⟩, hf⟩
 have FIN := hid (And.intro hr (And.intro hM (And.intro hb hf)))
 clear hr hM hb hf
 go_wp2_with fail
 go_ret
 obtain ⟨hr, hM, hb, hf⟩ := FIN.out
 simp only [World.size_alloc] at hM
 exact ⟨f, ⟨M, rfl, hr, by omega, View.more (new (same w) _) hb⟩, hf⟩

theorem wp_app {P : Program} {o : Oper} {a : Act} {w w' : World} {v' v u : Value} {t : TypeId} {s x : Operand} {K : Act → World → Prop} {Q : Exit → Act → World → Prop} {d : Option Tmp} (ho : o.op = .call { callee := .builtin .append, args := #[s, x], argTypes := #[t, t] }) (hd : o.dst = d) (hs : a.eval s = v) (hx : a.eval x = u) (hr : (Builtin.append_ #[t, t] o.type #[v, u]).run P w = .ok v' w') (h : K (a.put d v') w') : o.wp P a w K Q := by
 subst hd
 unfold Oper.wp execOp
 simp only [ho, resolve, invoke, builtin, Sem.run_bind, Sem.run_pure, Result.andThen_ok, List.map_toArray, List.map_cons, List.map_nil, hs, hx, hr]
 exact h

set_option maxRecDepth 10000 in
set_option maxHeartbeats 1000000 in
theorem prev_ref (F : FV) (w : World) (hF : In w F) (hl : Light F) :
  Calls Tryz.prog 109 #[F.val] w fun e w' => PrevIs F w e w' := by
 have HF := hid hF
 have HL := hid hl
 have gb := hl.blk
 have hmk := run_make_row' (P := Tryz.prog) 153 33 (.slice none 0 0) 24 underlying153 info33 rfl .i64 .i64 F.blk.n (by omega) (by omega)
 clear hF hl
 go_enter Tryz.func109, Tryz.ntmps109
 go_wp2_with fail
 have p0 : Pv ((w.alloc (.cells (fcells F) 36)).alloc (.cells (madeCells #[.slice none 0 0] F.blk.n) 33)) (w.heap.size + 1) F.blk.n (fun _ => ⟨none, 0, 0⟩) (pvL F 0) := by
  refine ⟨?_, fun i hi => by simp [pvL]; exact World.ownsRow_nil _ _ _ _, fun i j _ _ _ g h => by simp [Value.ownBlock] at h⟩
  have := World.rowIs_made (w.alloc (.cells (fcells F) 36)) (.slice none 0 0) F.blk.n 33
  simpa using this
 have P0 := hid p0
 clear hmk p0
 go_loopw [4] (fun i wr => ∃ b : Nat, b ≤ F.blk.n ∧ i = .int .i64 b ∧ (∃ R, Pv wr (w.heap.size + 1) F.blk.n R (pvL F b)) ∧ FuncAt wr w.heap.size F ∧ Below w.heap.size w wr) (fun i _ => F.blk.n - (intOf i).toNat)
 case atStart => exact ⟨0, Nat.zero_le _, rfl, ⟨_, P0.out⟩, (FuncAt.alloc w F).on (new (same _) _), new (new (same w) _) _⟩
 case round =>
  clear P0
  obtain ⟨b, hb, rfl, ⟨R, hp⟩, hf, hbr⟩ := hrel
  have HP := hid hp
  have HFA := hid hf
  obtain ⟨c0, c1, c2, c3, c4⟩ := hf
  have hwl : w.heap.size + 1 < wr.heap.size := hp.row.lt
  clear hp
  by_cases hlt : b < F.blk.n
  ·go_wp2_with fail
   refine (next_ref F b _ (HF.out.on hbr) HL.out).mono ?_
   rintro e w1 ⟨s, rfl, hsn, hsi, hsm, hb1⟩
   rw [suI_nat] at hsn hsi
   have far : Far s R F.blk.n := fun h0 g hg i hi e => by
    obtain ⟨g1, h1, h2, h3, _⟩ := hsm h0
    rw [h1] at hg
    have h4 := ((HP.out.own i hi).lt g e).2
    simp at hg
   have FAR := hid far
   clear far
   have p1 := HP.out.on hb1
   have f1 := HFA.out.on hb1
   have hb2 := View.more hbr hb1
   have hz := hb1.size
   have hle := su_le HL.out b
   have SI := hid hsi
   have SM := hid hsm
   have P1 := hid p1
   have F1 := hid f1
   have B2 := hid hb2
   have SN := hid hsn
   have hsn2 : s.n ≤ 20 := by omega
   clear hsi hsm p1 f1 hb2 hb1 HP HFA c0 c1 c2 c3 c4 hsn hbr
   go_wp2_with fail
   go_loopw [6] (fun i wx => ∃ t : Nat, t ≤ s.n ∧ i = .int .i64 t ∧ (∃ R, Pv wx (w.heap.size + 1) F.blk.n R (pvn F b t) ∧ Far s R F.blk.n) ∧ w1.heap.size ≤ wx.heap.size ∧ Ints wx s (fun i => (((su F b).getD i 0 : Nat) : Int)) ∧ FuncAt wx w.heap.size F ∧ Below w.heap.size w wx) (fun i _ => s.n - (intOf i).toNat)
   case atStart => exact ⟨0, Nat.zero_le _, rfl, ⟨R, P1.out.congr (fun i _ => (pvn_zero F b i).symm), FAR.out⟩, Nat.le_refl _, SI.out, F1.out, B2.out⟩
   case round =>
    clear P1 F1 B2 SI FAR
    obtain ⟨t, ht, rfl, ⟨R2, hp, hfar⟩, hw1, hsi, hf, hbr⟩ := hrel
    have FR := hid hfar
    have HP := hid hp
    have HFA := hid hf
    have SI := hid hsi
    have hwl2 : w.heap.size + 1 < wr.heap.size := hp.row.lt
    clear hp hf hsi hfar
    by_cases htl : t < s.n
    ·have htl2 : t < (su F b).length := by have := SN.out; omega
     obtain ⟨g1, ga, gl, gt, _⟩ := SM.out (by omega)
     have GA := hid ga
     clear ga
     obtain ⟨hiy, hcell⟩ := own_at SI.out GA.out htl
     have hx : (su F b).getD t 0 < F.blk.n := su_lt F b _ (getD_mem htl2)
     have hstep := pvn_step htl2
     obtain ⟨X, hX⟩ : ∃ X, (su F b).getD t 0 = X := ⟨_, rfl⟩
     simp only [hX] at hcell hx hstep
     have hrow := row_at (M := w.heap.size + 1) hx
     have hrc := HP.out.row.cell hx
     have hrf := HP.out.row.frozen X
     have hpl := pvn_le F b t X
     have STP := hid hstep
     clear hX hstep
     obtain ⟨i0, hi, hz0, hz1, hz2x⟩ := info_parts info3
     obtain ⟨v2, w2, hrun, hown2, hgr2, _, hat2⟩ := run_append_own_at (P := Tryz.prog) (wr.drew.alloc (.cells #[.int .i64 b] 3)) (w.heap.size + 1 + 1) 33 33 3 i0 (.int .i64 0) 1 8 underlying33 hi hz0 hz1 hz2x rfl (by decide) (.slice (R2 X).a (R2 X).n (R2 X).c) _ _ ((owns_on (Below.drew (same _)) (HP.out.own X hx)).alloc _) ⟨wr.heap.size, 0, none⟩ 1 1 [.int .i64 b] rfl (cell_one_new wr.drew _ _) (by intro u hu; simp at hu; subst hu; rfl) (by simp only [maxLen]; simp; omega) (by simp; omega) (by show _ ≤ (wr.drew.alloc _).heap.size; simp; omega)
     obtain ⟨s2, rfl⟩ := owns_sl hown2
     have hk : w2.heap[w.heap.size + 1]? = (wr.drew.alloc (.cells #[.int .i64 b] 3)).heap[w.heap.size + 1]? := hgr2.block _ (by show _ < (wr.drew.alloc _).heap.size; simp; omega) (fun e => by have := ((HP.out.own X hx).lt _ e.symm).1; omega)
     have hr2 : w2.rowIs (w.heap.size + 1) 33 F.blk.n (fun i => Sl.val (R2 i)) := World.rowIs.of_block (World.rowIs.alloc (w := wr.drew) (HP.out.row.of_block rfl) (.cells #[.int .i64 b] 3)) hk
     have hrc2 := hr2.cell hx
     have hrf2 := hr2.frozen X
     have hS0 : wr.drew.cell? ⟨g1, t, none⟩ = some (.int .i64 X) := hcell
     have hS1 : (wr.drew.alloc (.cells #[.int .i64 b] 3)).cell? ⟨g1, t, none⟩ = some (.int .i64 X) := cell_on (new (same _) _) hS0
     have hS2 : w2.cell? ⟨g1, t, none⟩ = some (.int .i64 X) := by
      rw [World.cell?_of_block (w := wr.drew.alloc (.cells #[.int .i64 b] 3)) (hgr2.block g1 (by show _ < (wr.drew.alloc _).heap.size; simp; omega) (fun e => FR.out (by omega) _ GA.out X hx e.symm))]
      exact hS1
     have hS3 : (w2.setCell ⟨w.heap.size + 1, X, none⟩ (.slice s2.a s2.n s2.c)).cell? ⟨g1, t, none⟩ = some (.int .i64 X) := cell_other (fun e => by have := congrArg Addr.block e; simp at this; omega) hS2
     have hown3 : w2.ownsRow (w.heap.size + 1 + 1) 3 1 (Sl.val s2) (ints (pvn F b t X) ++ [(b : Int)]).length ((ints (pvn F b t X) ++ [(b : Int)]).map (Value.int .i64)) := by simpa using hown2
     have hat3 : (Sl.val s2).ownBlock = (Sl.val (R2 X)).ownBlock ∨ (Sl.val s2).ownBlock = some (wr.drew.heap.size + 1) := by simpa using hat2
     have OW := hid (And.intro hown3 (And.intro hgr2 hat3))
     clear hown2 hown3 hgr2 hat2 hat3 hk hr2 hi hz0 hz1 hz2x
     go_wp2_with fail
     refine wp_region_noPanic ?_
     refine wp_region_held_drew (S := fun wx => wx.cell? ⟨g1, t, none⟩ = some (.int .i64 X)) (by kernel_rfl) hS0 (fun hS => ?_)
     refine tk (i := 0) (d := some 27) (v := ?v0) rfl (by rfl) ?y0 hS ?_
     case y0 => intro wx hSw; (go_simp) <;> with_reducible rfl
     simp only [Act.put, sP1, sP2, sP3]
     refine tk (i := 1) (d := some 28) (v := ?v1) rfl (by rfl) ?y1 hS ?_
     case y1 => intro wx hSw; (go_simp) <;> with_reducible rfl
     simp only [Act.put, sP1, sP2, sP3]
     refine tk (i := 2) (d := some 29) (v := ?v2) rfl (by rfl) ?y2 hS ?_
     case y2 => intro wx hSw; (go_simp) <;> with_reducible rfl
     simp only [Act.put, sP1, sP2, sP3]
     refine tk (i := 3) (d := some 30) (v := ?v3) rfl (by rfl) ?y3 hS ?_
     case y3 => intro wx hSw; (go_simp) <;> with_reducible rfl
     simp only [Act.put, sP1, sP2, sP3]
     refine tk (i := 4) (d := some 31) (v := ?v4) rfl (by rfl) ?y4 hS ?_
     case y4 => intro wx hSw; (go_simp) <;> with_reducible rfl
     simp only [Act.put, sP1, sP2, sP3]
     refine tk (i := 5) (d := some 32) (v := ?v5) rfl (by rfl) ?y5 hS ?_
     case y5 => intro wx hSw; (go_simp) <;> with_reducible rfl
     simp only [Act.put, sP1, sP2, sP3]
     refine tk (i := 6) (d := some 33) (v := ?v6) rfl (by rfl) ?y6 hS ?_
     case y6 => intro wx hSw; (go_simp) <;> with_reducible rfl
     simp only [Act.put, sP1, sP2, sP3]
     refine tk (i := 7) (d := some 34) (v := ?v7) rfl (by rfl) ?y7 hS ?_
     case y7 => intro wx hSw; (go_simp) <;> with_reducible rfl
     simp only [Act.put, sP1, sP2, sP3]
     refine tk (i := 8) (d := some 35) (v := ?v8) rfl (by rfl) ?y8 hS ?_
     case y8 => intro wx hSw; (go_simp) <;> with_reducible rfl
     simp only [Act.put, sP1, sP2, sP3]
     refine tk (i := 9) (d := some 36) (v := ?v9) rfl (by rfl) ?y9 hS ?_
     case y9 => intro wx hSw; (go_simp) <;> with_reducible rfl
     simp only [Act.put, sP1, sP2, sP3]
     refine tk (i := 10) (d := some 37) (v := ?v10) rfl (by rfl) ?y10 hS ?_
     case y10 => intro wx hSw; (go_simp) <;> with_reducible rfl
     simp only [Act.put, sP1, sP2, sP3]
     refine tk (i := 12) (d := some 39) (v := ?v12) rfl (by rfl) ?y12 hS ?_
     case y12 => intro wx hSw; (go_simp) <;> with_reducible rfl
     simp only [Act.put, sP1, sP2, sP3]
     refine wpAnyH_ready (rs := [11, 13]) (by kernel_rfl) (by simp) ?_
     refine AllReadyH.cons rfl (fun K hK => ?_) (AllReadyH.cons rfl (fun K hK => ?_) AllReadyH.nil)
     ·go_simp
      refine hK.out _ _ hS0 (fun _ => ?_)
      clear hK K
      replace hS := hS0
      try simp only [Act.put, sP1, sP2, sP3]
      refine wpAnyH_ready (rs := [13]) (by kernel_rfl) (by simp) ?_
      refine AllReadyH.cons rfl (fun K hK => ?_) AllReadyH.nil
      go_simp
      refine hK.out _ _ hS1 (fun _ => ?_)
      clear hK K
      replace hS := hS1
      try simp only [Act.put, sP1, sP2, sP3]
      refine wpAnyH_ready (rs := [14]) (by kernel_rfl) (by simp) ?_
      refine AllReadyH.cons rfl (fun K hK => ?_) AllReadyH.nil
      rw [if_pos (by rfl)]
      refine wp_app (s := .tmp 38) (x := .tmp 40) (t := 33) (d := some 41) rfl rfl rfl rfl hrun ?_
      try simp only [Act.put, sP1, sP2, sP3]
      refine hK.out _ _ hS2 (fun _ => ?_)
      clear hK K
      replace hS := hS2
      try simp only [Act.put, sP1, sP2, sP3]
      refine tk (i := 15) (d := some 42) (v := ?vp15) rfl (by rfl) ?yp15 hS ?_
      case yp15 => intro wx hSw; (go_simp) <;> with_reducible rfl
      simp only [Act.put, sP1, sP2, sP3]
      refine wpAnyH_ready (rs := [16]) (by kernel_rfl) (by simp) ?_
      refine AllReadyH.cons rfl (fun K hK => ?_) AllReadyH.nil
      go_simp
      refine hK.out _ _ hS3 (fun _ => ?_)
      clear hK K
      replace hS := hS3
      try simp only [Act.put, sP1, sP2, sP3]
      refine wpAnyH_done (by kernel_rfl) ?_ _
      refine NoPanic.normal ?_
      clear hS hS0 hS1 hS2 hS3 hrun hrc hrf hcell
      go_wp2_with fail
      have hz2 := OW.out.2.1.size
      simp only [World.size_alloc] at hz2
      have hz3 : wr.heap.size + 1 ≤ w2.heap.size := hz2
      go_round
      case rel =>
       obtain ⟨o1, o2, o3⟩ := OW.out
       have hP := (HP.out.on (Below.drew (same wr))).step hx o1 o2 o3
       have hb2 : Below w.heap.size w w2 := (new (Below.drew hbr) _).grown o2 (by simp; omega) (fun q hq => by have := ((HP.out.own X hx).lt q hq).1; omega)
       have hf2 : FuncAt w2 w.heap.size F := FuncAt.grown (HFA.out.on (new (Below.drew (same _)) _)) o2 (fun q hq => by have := ((HP.out.own X hx).lt q hq).1; omega)
       have hi2 : Ints w2 s (fun i => (((su F b).getD i 0 : Nat) : Int)) := by
        refine (SI.out.on (new (Below.drew (same _)) (.cells #[.int .i64 b] 3))).kept (p := fun k => k = g1) ⟨o2.size, fun k hk => by subst hk; exact o2.block _ (by simp; omega) (fun e => FR.out (by omega) _ GA.out X hx e.symm)⟩ (fun q off h h0 => ?_)
        rw [GA.out] at h
        simp at h
        exact h.1.symm
       have hi3 : Ints (w2.setCell ⟨w.heap.size + 1, X, none⟩ (Sl.val s2)) s (fun i => (((su F b).getD i 0 : Nat) : Int)) := by
        refine hi2.kept (p := fun k => k = g1) ((Kept.refl _ _).setCell (by show ¬ (w.heap.size + 1 = g1); omega) _) (fun q off h h0 => ?_)
        rw [GA.out] at h
        simp at h
        exact h.1.symm
       refine ⟨t + 1, by omega, by go_num, ⟨_, hP.congr (fun i _ => by rw [STP.out i]; by_cases e : i = X <;> simp [e]), fun h0 g hg i hi e => ?_⟩, by simp; omega, hi3, ?_, hb2.setCell (by simp) _⟩
       ·rw [GA.out] at hg
        simp at hg
        subst hg
        by_cases e1 : i = X
        ·simp only [e1, if_true] at e
         rcases o3 with h | h
         ·rw [h] at e; exact FR.out h0 _ GA.out X hx e
         ·rw [h] at e; simp at e; omega
        ·simp only [e1, if_false] at e
         exact FR.out h0 _ GA.out i hi e
       ·exact hf2.kept ((Kept.refl (fun k => k ≠ w.heap.size + 1) w2).setCell (fun h => h rfl) _) (by show _ ≠ _; omega)
      case measure => simp [intOf]; omega
     ·go_simp
      refine hK.out _ _ hS1 (fun _ => ?_)
      clear hK K
      replace hS := hS1
      try simp only [Act.put, sP1, sP2, sP3]
      refine wpAnyH_ready (rs := [11]) (by kernel_rfl) (by simp) ?_
      refine AllReadyH.cons rfl (fun K hK => ?_) AllReadyH.nil
      go_simp
      refine hK.out _ _ hS1 (fun _ => ?_)
      clear hK K
      replace hS := hS1
      try simp only [Act.put, sP1, sP2, sP3]
      refine wpAnyH_ready (rs := [14]) (by kernel_rfl) (by simp) ?_
      refine AllReadyH.cons rfl (fun K hK => ?_) AllReadyH.nil
      rw [if_pos (by rfl)]
      refine wp_app (s := .tmp 38) (x := .tmp 40) (t := 33) (d := some 41) rfl rfl rfl rfl hrun ?_
      try simp only [Act.put, sP1, sP2, sP3]
      refine hK.out _ _ hS2 (fun _ => ?_)
      clear hK K
      replace hS := hS2
      try simp only [Act.put, sP1, sP2, sP3]
      refine tk (i := 15) (d := some 42) (v := ?vq15) rfl (by rfl) ?yq15 hS ?_
      case yq15 => intro wx hSw; (go_simp) <;> with_reducible rfl
      simp only [Act.put, sP1, sP2, sP3]
      refine wpAnyH_ready (rs := [16]) (by kernel_rfl) (by simp) ?_
      refine AllReadyH.cons rfl (fun K hK => ?_) AllReadyH.nil
      go_simp
      refine hK.out _ _ hS3 (fun _ => ?_)
      clear hK K
      replace hS := hS3
      try simp only [Act.put, sP1, sP2, sP3]
      refine wpAnyH_done (by kernel_rfl) ?_ _
      refine NoPanic.normal ?_
      clear hS hS0 hS1 hS2 hS3 hrun hrc hrf hcell
      go_wp2_with fail
      have hz2 := OW.out.2.1.size
      simp only [World.size_alloc] at hz2
      have hz3 : wr.heap.size + 1 ≤ w2.heap.size := hz2
      go_round
      case rel =>
       obtain ⟨o1, o2, o3⟩ := OW.out
       have hP := (HP.out.on (Below.drew (same wr))).step hx o1 o2 o3
       have hb2 : Below w.heap.size w w2 := (new (Below.drew hbr) _).grown o2 (by simp; omega) (fun q hq => by have := ((HP.out.own X hx).lt q hq).1; omega)
       have hf2 : FuncAt w2 w.heap.size F := FuncAt.grown (HFA.out.on (new (Below.drew (same _)) _)) o2 (fun q hq => by have := ((HP.out.own X hx).lt q hq).1; omega)
       have hi2 : Ints w2 s (fun i => (((su F b).getD i 0 : Nat) : Int)) := by
        refine (SI.out.on (new (Below.drew (same _)) (.cells #[.int .i64 b] 3))).kept (p := fun k => k = g1) ⟨o2.size, fun k hk => by subst hk; exact o2.block _ (by simp; omega) (fun e => FR.out (by omega) _ GA.out X hx e.symm)⟩ (fun q off h h0 => ?_)
        rw [GA.out] at h
        simp at h
        exact h.1.symm
       have hi3 : Ints (w2.setCell ⟨w.heap.size + 1, X, none⟩ (Sl.val s2)) s (fun i => (((su F b).getD i 0 : Nat) : Int)) := by
        refine hi2.kept (p := fun k => k = g1) ((Kept.refl _ _).setCell (by show ¬ (w.heap.size + 1 = g1); omega) _) (fun q off h h0 => ?_)
        rw [GA.out] at h
        simp at h
        exact h.1.symm
       refine ⟨t + 1, by omega, by go_num, ⟨_, hP.congr (fun i _ => by rw [STP.out i]; by_cases e : i = X <;> simp [e]), fun h0 g hg i hi e => ?_⟩, by simp; omega, hi3, ?_, hb2.setCell (by simp) _⟩
       ·rw [GA.out] at hg
        simp at hg
        subst hg
        by_cases e1 : i = X
        ·simp only [e1, if_true] at e
         rcases o3 with h | h
         ·rw [h] at e; exact FR.out h0 _ GA.out X hx e
         ·rw [h] at e; simp at e; omega
        ·simp only [e1, if_false] at e
         exact FR.out h0 _ GA.out i hi e
       ·exact hf2.kept ((Kept.refl (fun k => k ≠ w.heap.size + 1) w2).setCell (fun h => h rfl) _) (by show _ ≠ _; omega)
      case measure => simp [intOf]; omega
    ·obtain rfl : t = s.n := by omega
     go_wp2_with fail
     go_round
     case rel => exact ⟨b + 1, by omega, by go_num, ⟨R2, HP.out.congr (fun i _ => by rw [SN.out]; exact pvn_all F b i)⟩, HFA.out, hbr⟩
     case measure => simp [intOf]; omega
  ·obtain rfl : b = F.blk.n := by omega
   go_wp2_with fail
   go_ret
   exact ⟨w.heap.size + 1, R, rfl, HP.out, by omega, hbr⟩

theorem Pv.ints {w : World} {M n : Nat} {R : Nat → Sl} {L : Nat → List Nat} (h : Pv w M n R L) {i : Nat} (hi : i < n) (hl : (L i).length ≤ 1000) : Ints w (R i) (fun k => (((L i).getD k 0 : Nat) : Int)) ∧ (R i).n = (L i).length := by
 obtain ⟨s, hs, hn, hI, _⟩ := ints_of_owns (h.own i hi) (by simp; omega)
 have e : R i = s := by
  have h1 : (R i).a = s.a ∧ (R i).n = s.n ∧ (R i).c = s.c := by simpa [Sl.val] using hs
  cases hR : R i; cases s; rw [hR] at h1; simp at h1; simp [h1]
 rw [e]
 exact ⟨hI.congr (fun k hk => getD_ints _ _ (by rw [hn] at hk; simpa using hk)), by simpa using hn⟩

end Go.Proofs.YtolipafcoolpgaaGreat.Flo
