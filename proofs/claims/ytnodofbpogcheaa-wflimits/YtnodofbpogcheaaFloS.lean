/-
  By the document: plnref3.Last, Next.
-/
import Derived.Test.YtnodofbpogcheaaJ3
import Derived.Deep.LoopGhost
namespace Go.Proofs.Ytnodofbpogcheaa.Flo
open Go.RowKit View Rd Copy Num Ty Srt

set_option linter.unusedVariables false

theorem results_cell_tmp {fn : Func} {p q : Tmp} {ty : TypeId} (h : fn.results = #[.cell p ty, .tmp q]) (tmps : Array Value) (P : Program) (w : World) :
    (results fn tmps).run P w = ((asAddr (tmps.getD p undef)).run P w).andThen fun a w₁ => ((loadVar ty a).run P w₁).andThen fun v w₂ => .ok (.tuple #[v, tmps.getD q undef]) w₂ := by
  simp only [results, h]
  simp [Sem.run_bind, Result.andThen]

/-- Is there a last one? -/
def hasL (F : FV) (x : Int) : Bool := isB F x && decide ((F.B x.toNat).n ≠ 0)
def lastI (F : FV) (x : Int) : IV := if hasL F x = true then F.I x.toNat ((F.B x.toNat).n - 1) else IV.zero

def LastIs (F : FV) (x : Int) (w : World) (e : Ending) (w' : World) : Prop := e = .returned (.tuple #[(lastI F x).val, .bool (hasL F x)]) ∧ Below w.heap.size w w'

set_option maxHeartbeats 1000000 in
theorem last_ref (F : FV) (x : Int) (w : World) (hF : In w F) :
    Calls Try.prog 99 #[F.val, .int .i64 x] w fun e w' => LastIs F x w e w' := by
  have HF := hid hF
  have q2 := hF.blk.2.1
  clear hF
  by_cases hx : isB F x = true
  case neg =>
    have hl : hasL F x = false := by unfold hasL; simp at hx; simp [hx]
    have hI : lastI F x = IV.zero := by unfold lastI; simp [hl]
    by_cases h0 : x < 0
    · have t1 : decide (x < 0) = true := by simpa using h0
      go_enter Try.func99, Try.ntmps99
      go_wp2_with fail
      refine bodyPost_ret (v := .tuple #[IV.zero.val, .bool false]) (by rw [results_cell_tmp rfl]; go_simp) rfl ?_
      exact ⟨by rw [hl, hI], new (new (same w) _) _⟩
    · have t1 : decide (x < 0) = false := by simpa using h0
      have t2 : decide ((F.blk.n : Int) ≤ x) = true := by unfold isB at hx; simp at hx; simp; omega
      go_enter Try.func99, Try.ntmps99
      go_wp2_with fail
      refine bodyPost_ret (v := .tuple #[IV.zero.val, .bool false]) (by rw [results_cell_tmp rfl]; go_simp) rfl ?_
      exact ⟨by rw [hl, hI], new (new (same w) _) _⟩
  obtain ⟨b, rfl⟩ : ∃ b : Nat, x = b := ⟨x.toNat, by unfold isB at hx; simp at hx; omega⟩
  have hb : b < F.blk.n := by unfold isB at hx; simp at hx; omega
  have t1 : decide ((b : Int) < 0) = false := by simp
  have t2 : decide ((F.blk.n : Int) ≤ (b : Int)) = false := by simp; omega
  obtain ⟨bb, oo, hix, hck⟩ := (HF.out.blk.on (new (new (same w) (.cells (fcells F) 33)) (.cells IV.zero.cells 39))).at hb
  by_cases h0 : (F.B b).n = 0
  · have t3 : (((F.B b).n : Int) == 0) = true := by simp [h0]
    have hl : hasL F b = false := by unfold hasL; simp [h0]
    have hI : lastI F b = IV.zero := by unfold lastI; simp [hl]
    have H0 := hid h0
    clear h0 hx
    go_enter Try.func99, Try.ntmps99
    go_wp2_with fail
    refine bodyPost_ret (v := .tuple #[IV.zero.val, .bool false]) (by rw [results_cell_tmp rfl]; go_simp) rfl ?_
    exact ⟨by rw [hl, hI], new (new (same w) _) _⟩
  · have t3 : (((F.B b).n : Int) == 0) = false := by simp [h0]
    have hl : hasL F b = true := by unfold hasL; simp [h0, hx]
    have hI : lastI F b = F.I b ((F.B b).n - 1) := by unfold lastI; simp [hl]
    obtain ⟨m, hm⟩ : ∃ m, (F.B b).n = m + 1 := ⟨(F.B b).n - 1, by omega⟩
    have e1 : ((F.B b).n : Int) - 1 = m := by omega
    have q3 := (HF.out.ins b hb).2.1
    obtain ⟨ib, io, hiy, c0, c1, c2, c3, c4, c5, c6⟩ := ((HF.out.ins b hb).on (new (new (same w) (.cells (fcells F) 33)) (.cells IV.zero.cells 39))).at (k := m) (by omega)
    rw [← e1] at hiy
    have HM := hid hm
    have E1 := hid e1
    have HL := hid hl
    have HI := hid hI
    clear hm e1 h0 hx hl hI
    go_enter Try.func99, Try.ntmps99
    go_wp2_with fail
    refine bodyPost_ret (v := .tuple #[(F.I b m).val, .bool true]) (by rw [results_cell_tmp rfl]; go_simp) rfl ?_
    exact ⟨by rw [HL.out, HI.out, HM.out]; rfl, new (new (same w) _) _⟩

theorem ex_mem {l : List Nat} {n : Nat} (hn : n = l.length) (x : Nat) : (∃ i, i < n ∧ ((l.getD i 0 : Nat) : Int) = (x : Int)) ↔ x ∈ l := by
  constructor
  · rintro ⟨i, hi, e⟩
    have : l.getD i 0 = x := by omega
    rw [← this]
    exact getD_mem (by omega)
  · intro h
    obtain ⟨i, hi, e⟩ := List.getElem_of_mem h
    exact ⟨i, by omega, by simp [List.getD, hi, e]⟩

theorem suI_none {F : FV} {x : Int} (h : hasL F x = false) : suI F x = [] := by
  unfold suI
  split
  · next h0 =>
    unfold su
    split
    · next hb =>
      have hx : isB F x = true := by unfold isB; simp; omega
      have : (F.B x.toNat).n = 0 := by unfold hasL at h; simpa [hx] using h
      have hled : led (F.B x.toNat) (F.I x.toNat) = ⟨none, 0, 0⟩ := by unfold led; rw [if_pos this]
      rw [hled]; rfl
    · rfl
  · rfl

set_option maxRecDepth 10000 in
set_option maxHeartbeats 2000000 in
theorem next_ref (F : FV) (x : Int) (w : World) (hF : In w F) (hl : Light F) :
    Calls Try.prog 60 #[F.val, .int .i64 x] w fun e w' => Gives (suI F x) w e w' := by
  have HF := hid hF
  have HL := hid hl
  have gb := hl.blk
  clear hF hl
  obtain ⟨LL, hLL⟩ : ∃ LL, suI F x = LL := ⟨_, rfl⟩
  rw [hLL]
  have HLL := hid hLL
  clear hLL
  go_enter Try.func60, Try.ntmps60
  go_wp2_with fail
  refine (last_ref F x _ (HF.out.on (new (same w) _))).mono ?_
  rintro e w1 ⟨rfl, hb1⟩
  have f1 : FuncAt w1 w.heap.size F := (FuncAt.alloc w F).on hb1
  have b1 := View.more (new (same w) _) hb1
  have hz := hb1.size
  simp only [World.size_alloc] at hz
  have F1 := hid f1
  have B1 := hid b1
  clear hb1 f1 b1
  by_cases hh : hasL F x = true
  case neg =>
    have hh' : hasL F x = false := by simpa using hh
    rw [hh']
    have e0 := HLL.out
    rw [suI_none hh'] at e0
    subst e0
    clear hh
    go_wp2_with fail
    go_ret
    exact gives_nil (new B1.out _)
  have hxb : isB F x = true := by unfold hasL at hh; simp at hh; exact hh.1
  obtain ⟨b, rfl⟩ : ∃ b : Nat, x = b := ⟨x.toNat, by unfold isB at hxb; simp at hxb; omega⟩
  have hb : b < F.blk.n := by unfold isB at hxb; simp at hxb; omega
  have hn0 : (F.B b).n ≠ 0 := by unfold hasL at hh; simp at hh; exact hh.2
  have hI : lastI F b = F.I b ((F.B b).n - 1) := by unfold lastI; rw [if_pos hh]; rfl
  have hsu : su F b = nxt F.blk.n (F.J b ((F.B b).n - 1)) (led (F.B b) (F.I b)).n := by rw [su, if_pos hb]
  have hled : led (F.B b) (F.I b) = if (F.I b ((F.B b).n - 1)).op = 27 ∨ (F.I b ((F.B b).n - 1)).op = 28 then (F.I b ((F.B b).n - 1)).into else ⟨none, 0, 0⟩ := by unfold led; rw [if_neg hn0]
  rw [hh, hI]
  have e0 := HLL.out
  rw [suI_nat, hsu, hled] at e0
  have HI := hid (HF.out.into b hb ((F.B b).n - 1) (by omega))
  have hle := HL.out.into b hb ((F.B b).n - 1) (by omega)
  obtain ⟨v, hv⟩ : ∃ v, F.I b ((F.B b).n - 1) = v := ⟨_, rfl⟩
  obtain ⟨f, hf⟩ : ∃ f, F.J b ((F.B b).n - 1) = f := ⟨_, rfl⟩
  rw [hv] at HI hle
  rw [hf] at HI
  rw [hv, hf] at e0
  rw [hv]
  clear HLL hh hxb hn0 hI hsu hled hv hf
  by_cases hop : v.op = 27 ∨ v.op = 28
  case neg =>
    rw [if_neg hop] at e0
    subst e0
    have t1 : (v.op != 27) = true := by simp; exact fun h => hop (.inl h)
    have t2 : (v.op != 28) = true := by simp; exact fun h => hop (.inr h)
    have HO := hid hop
    clear hop
    go_wp2_with fail
    go_ret
    exact gives_nil (new B1.out _)
  rw [if_pos hop] at e0
  have HLL := hid e0
  clear e0
  have hgo : ((v.op != 27) = false) ∨ ((v.op != 27) = true ∧ (v.op != 28) = false) := by
    rcases hop with h | h
    · left; simp [h]
    · right; simp [h]
  have IA := hid (InsAt.alloc w1 v)
  have BA := hid (new B1.out (.cells v.cells 39))
  have FA := hid (F1.out.on (new (same _) (.cells v.cells 39)))
  clear hop
  rcases hgo with t1 | ⟨t1, t2⟩
  all_goals
    go_wp2_with fail
    go_loopw [7, 8] (fun o i wr => ∃ k : Nat, k ≤ v.into.n ∧ i = .int .i64 k ∧ wr.ownsRow (w1.heap.size + 1) 3 1 o (ints (nxt F.blk.n f k)).length ((ints (nxt F.blk.n f k)).map (Value.int .i64)) ∧ InsAt wr w1.heap.size 0 v ∧ FuncAt wr w.heap.size F ∧ Below w.heap.size w wr ∧ w1.heap.size < wr.heap.size) (fun _ i _ => v.into.n - (intOf i).toNat)
    case atStart => exact ⟨0, Nat.zero_le _, rfl, World.ownsRow_nil _ _ _ _, IA.out, FA.out, BA.out, by simp⟩
    case round =>
      clear IA FA BA
      obtain ⟨k, hk, rfl, hown, hia, hfa, hbr, hwr⟩ := hrel
      have HO := hid hown
      have HIA := hid hia
      have HFA := hid hfa
      obtain ⟨i0, i1, i2, i3, i4, i5, i6⟩ := hia.head
      obtain ⟨c0, c1, c2, c3, c4⟩ := hfa
      clear hown hia
      by_cases hlt : k < v.into.n
      · obtain ⟨ib, io, hiy, hcell⟩ := (HI.out.on hbr).at hlt
        have hnl := nxt_le F.blk.n f k
        obtain ⟨X, hX⟩ : ∃ X, nxt F.blk.n f k = X := ⟨_, rfl⟩
        rw [hX] at hnl HO
        have HXX := hid hX
        clear hX
        by_cases h0 : 0 ≤ f k
        case neg =>
          have t3 : decide ((0 : Int) ≤ f k) = false := by simpa using h0
          go_wp2_with fail
          go_round
          case rel =>
            have e : nxt F.blk.n f (k + 1) = X := by rw [nxt_no (fun h => h0 h.1), HXX.out]
            exact ⟨k + 1, by omega, by go_num, by rw [e]; exact HO.out, HIA.out, HFA.out, hbr, hwr⟩
          case measure => simp [intOf]; omega
        have t3 : decide ((0 : Int) ≤ f k) = true := by simpa using h0
        by_cases h1 : f k < F.blk.n
        case neg =>
          have t4 : decide (f k < (F.blk.n : Int)) = false := by simpa using h1
          have HH := hid h1
          clear h1
          go_wp2_with fail
          go_round
          case rel =>
            have e : nxt F.blk.n f (k + 1) = X := by rw [nxt_no (fun h => HH.out h.2.1), HXX.out]
            exact ⟨k + 1, by omega, by go_num, by rw [e]; exact HO.out, HIA.out, HFA.out, hbr, hwr⟩
          case measure => simp [intOf]; omega
        have t4 : decide (f k < (F.blk.n : Int)) = true := by simpa using h1
        obtain ⟨z, hz1⟩ : ∃ z : Nat, f k = z := ⟨(f k).toNat, by omega⟩
        obtain ⟨so, rfl, hon, hoi, hom⟩ := ints_of_owns HO.out (by simp; omega)
        have OI := hid hoi
        have ON := hid hon
        have hso : so.n ≤ 1000 := by simp at hon; omega
        have HZ := hid (And.intro hz1 (And.intro h0 h1))
        rw [hz1] at hcell t3 t4
        have hzn : (z : Int) < F.blk.n := by omega
        have hzn' : z < F.blk.n := by omega
        clear hoi hon hom hz1 h0 h1
        go_wp2_with fail
        refine (in_any so _ z _ OI.out hso).mono ?_
        rintro e w3 ⟨r, rfl, hr, hb3⟩
        have hmem : r = true ↔ z ∈ X := by
          rw [hr]
          have h1 := ex_mem (l := X) (n := so.n) (by have := ON.out; simpa using this) z
          rw [← h1]
          constructor
          · rintro ⟨i, hi, e⟩; exact ⟨i, hi, by rw [← getD_ints X i (by have := ON.out; simp at this; omega)]; exact e⟩
          · rintro ⟨i, hi, e⟩; exact ⟨i, hi, by rw [getD_ints X i (by have := ON.out; simp at this; omega)]; exact e⟩
        have HM := hid hmem
        have O3 := hid (owns_on hb3 HO.out)
        have I3 := hid (HIA.out.on hb3)
        have F3 := hid (HFA.out.on hb3)
        have B3 := hid (View.more hbr hb3)
        have z3 := hb3.size
        clear hmem hr hb3 HO HIA HFA hbr c0 c1 c2 c3 c4 i0 i1 i2 i3 i4 i5 i6 hiy hcell OI
        cases r with
        | true =>
          go_wp2_with fail
          go_round
          case rel =>
            have e : nxt F.blk.n f (k + 1) = X := by rw [nxt_no (fun h => h.2.2 (by rw [HXX.out, HZ.out.1]; exact HM.out.1 (by simp))), HXX.out]
            exact ⟨k + 1, by omega, by go_num, by rw [e]; exact O3.out, I3.out, F3.out, B3.out, by omega⟩
          case measure => simp [intOf]; omega
        | false =>
          go_wp2_with (at_builtin; refine append_one rfl (.tmp 55) (.tmp 57) rfl (w1.heap.size + 1) _ (ints X) rfl (z : Int) O3.out rfl (by simp; omega) (by omega) ?_; intro v5 w5 hown5 hgr5; have OW := hid (And.intro hown5 hgr5); clear hown5 hgr5)
          go_round
          case rel =>
            obtain ⟨hown5, hgr5⟩ := OW.out
            have k4 : ∀ q, (_root_.Go.Value.ownBlock _ = some q) → w1.heap.size + 1 ≤ q := fun q hq => (O3.out.lt q hq).1
            have hs5 := hgr5.size
            simp only [World.size_alloc] at hs5
            have e : nxt F.blk.n f (k + 1) = X ++ [(f k).toNat] := by
              rw [nxt_yes HZ.out.2.1 HZ.out.2.2 (by rw [HXX.out, HZ.out.1]; exact fun h => by simpa using HM.out.2 h), HXX.out]
            have e2 : ints (X ++ [(f k).toNat]) = ints X ++ [(z : Int)] := by simp [ints, HZ.out.1]
            refine ⟨k + 1, by omega, by go_num, by rw [e, e2]; exact hown5, ?_, ?_, (new B3.out _).grown hgr5 (by simp; omega) (fun q hq => by have := k4 q hq; omega), by omega⟩
            · exact (I3.out.on (new (same _) _)).kept (p := fun k => k = w1.heap.size) ⟨hgr5.size, fun k hk => by subst hk; exact hgr5.block _ (by simp; omega) (fun e => by have := k4 _ e.symm; omega)⟩ rfl
            · exact FuncAt.grown (F3.out.on (new (same _) _)) hgr5 (fun q hq => by have := k4 q hq; omega)
          case measure => simp [intOf]; omega
      · obtain rfl : k = v.into.n := by omega
        go_wp2_with fail
        go_ret
        have e0 := HLL.out
        rw [e0] at HO
        exact gives_of_owns HO.out (by have := nxt_le F.blk.n f v.into.n; rw [e0] at this; omega) hbr (by omega)

end Go.Proofs.Ytnodofbpogcheaa.Flo
