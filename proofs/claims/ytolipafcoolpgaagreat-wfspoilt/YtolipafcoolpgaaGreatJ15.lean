/-
  Wfg, Wfh, Wfi: laid together.
-/
import Derived.Test.YtolipafcoolpgaaGreatJ7
import Derived.Maps.AppendAt
/-
  wf: which names may be; all names of a module.
-/
namespace Go.Proofs.YtolipafcoolpgaaGreat.Wf
open Go.RowKit View Rd Num Opn Copy Srt Go.Proofs.YtolipafcoolpgaaGreat.Mod Chk

set_option linter.unusedVariables false

def letB (c : Int) : Bool := decide (97 ≤ c) && decide (c ≤ 122)

theorem isLetter_any (c : Int) (w : World) : Calls Tryz.prog 53 #[.int .u8 c] w fun e w' => e = .returned (.bool (letB c)) ∧ w' = w := by
 by_cases h3 : 97 ≤ c
 all_goals
  by_cases h4 : c ≤ 122
  all_goals
   go_enter Tryz.func53, Tryz.ntmps53
   go_wp2
   go_ret
   exact ⟨congrArg (fun b => Ending.returned (.bool b)) (show _ = letB c by simp [letB]; try omega), rfl⟩

set_option maxRecDepth 10000 in
set_option maxHeartbeats 4000000 in
theorem wname_any (s : ByteArray) (w : World) (hs : s.size ≤ 1000) : Calls Tryz.prog 22 #[.string s] w fun e w' => NameIs s w e w' := by
 have HNO := hid (show ¬ NameOk s → NameIs s w (.returned (.bool false)) w from fun h => ⟨false, rfl, by simp [h], rfl⟩)
 by_cases h1 : (s.size : Int) < 1
 ·have t1 : decide ((s.size : Int) < 1) = true := by simpa using h1
  have HN := hid (show ¬ NameOk s from fun h => by have := h.1; omega)
  clear h1
  go_enter Tryz.func22, Tryz.ntmps22
  go_wp2_with fail
  go_ret
  exact HNO.out HN.out
 have t1 : decide ((s.size : Int) < 1) = false := by simpa using h1
 by_cases h2 : (12 : Int) < s.size
 ·have t2 : decide ((12 : Int) < s.size) = true := by simpa using h2
  have HN := hid (show ¬ NameOk s from fun h => by have := h.2.1; omega)
  clear h1 h2
  go_enter Tryz.func22, Tryz.ntmps22
  go_wp2_with fail
  go_ret
  exact HNO.out HN.out
 have t2 : decide ((12 : Int) < s.size) = false := by simpa using h2
 have l0 : 0 < s.size := by omega
 have hx0 : ∀ wx, (Instr.index 9 (.string s) (.int .i64 0)).run Tryz.prog wx = .ok (.int .u8 (byteAt s 0)) wx := index_str s l0
 have hc0 : ((s[0]'l0).toNat : Int) = byteAt s 0 := by unfold byteAt; rw [dif_pos l0]
 cases hl : letB (byteAt s 0) with
 | false =>
  have HN := hid (show ¬ NameOk s from fun h => by
   have e1 := h.2.2.1
   have e2 := h.2.2.2.1
   simp [letB] at hl
   omega)
  clear h1 h2
  go_enter Tryz.func22, Tryz.ntmps22
  go_wp2_with (go_at_call 53; refine (isLetter_any _ _).mono ?_; rintro e w1 ⟨rfl, hw1⟩; rw [hw1]; clear hw1; rw [hl])
  go_ret
  exact HNO.out HN.out
 | true =>
  have HH := hid (show 1 ≤ s.size ∧ s.size ≤ 12 ∧ 97 ≤ byteAt s 0 ∧ byteAt s 0 ≤ 122 by simp [letB] at hl; omega)
  clear h1 h2
  go_enter Tryz.func22, Tryz.ntmps22
  go_wp2_with (go_at_call 53; refine (isLetter_any _ _).mono ?_; rintro e w1 ⟨rfl, hw1⟩; rw [hw1]; clear hw1; rw [hl])
  clear t1 t2 hc0 hx0 hl
  go_loop [21] (fun iv => ∃ k : Nat, k ≤ s.size ∧ iv = .int .i64 k ∧ ∀ i, i < k → chOk (byteAt s i) = true) (fun iv => s.size - (intOf iv).toNat)
  case atStart => exact ⟨0, Nat.zero_le _, rfl, fun i hi => by omega⟩
  case round =>
   obtain ⟨k, hk, rfl, hall⟩ := hrel
   have HA := hid hall
   clear hall
   by_cases lk : k < s.size
   ·have hx := index_str s lk
    have hcc : ((s[k]'lk).toNat : Int) = byteAt s k := by unfold byteAt; rw [dif_pos lk]
    cases hok : chOk (byteAt s k) with
    | true =>
     have HO := hid hok
     cases hl : letB (byteAt s k) with
     | true =>
      go_wp2_with (go_at_call 53; refine (isLetter_any _ _).mono ?_; rintro e w1 ⟨rfl, hw1⟩; rw [hw1]; clear hw1; rw [hl])
      go_round
      case rel => exact ⟨k + 1, by omega, by go_num, upto2 HA.out HO.out⟩
      case measure => simp [intOf]; omega
     | false =>
      have HD := hid (show (48 ≤ byteAt s k ∧ byteAt s k ≤ 57) ∨ byteAt s k = 95 by simp [chOk, letB] at hok hl; omega)
      go_wp2_with (go_at_call 53; refine (isLetter_any _ _).mono ?_; rintro e w1 ⟨rfl, hw1⟩; rw [hw1]; clear hw1; rw [hl])
      all_goals first
       | (go_round; (case rel => exact ⟨k + 1, by omega, by go_num, upto2 HA.out HO.out⟩); (case measure => simp [intOf]; omega))
       | (exfalso; have := HD.out; clear HA HO HD HH HNO; go_light; simp_all <;> omega)
    | false =>
     have HN := hid (show ¬ NameOk s from fun h => by have := h.2.2.2.2 k lk; rw [hok] at this; cases this)
     have hl : letB (byteAt s k) = false := by simp [chOk, letB] at hok ⊢; omega
     have HD := hid (show ¬ (48 ≤ byteAt s k ∧ byteAt s k ≤ 57) ∧ byteAt s k ≠ 95 by simp [chOk] at hok; omega)
     go_wp2_with (go_at_call 53; refine (isLetter_any _ _).mono ?_; rintro e w1 ⟨rfl, hw1⟩; rw [hw1]; clear hw1; rw [hl])
     all_goals first
      | (go_ret; exact HNO.out HN.out)
      | (exfalso; have := HD.out; clear HA HN HD HH HNO; go_light; simp_all <;> omega)
   ·obtain rfl : k = s.size := by omega
    go_wp2
    go_ret
    exact (⟨true, rfl, by simp; exact ⟨HH.out.1, HH.out.2.1, HH.out.2.2.1, HH.out.2.2.2, HA.out⟩, rfl⟩ : NameIs s w (.returned (.bool true)) w)

theorem underlyingSs : Tryz.prog.underlying 105 = some (.slice 9) := by kernel_rfl
theorem infoS : (Tryz.prog.info? 9).map (fun i => (i.zero, i.size, i.bytes)) = some (some (.string ByteArray.empty), 1, 16) := by kernel_rfl

theorem append_str {ops : Array Oper} {rest : List Oper} {o : Oper} {a : Act} {Q : Exit → Act → World → Prop} {w : World}
  (hgd : o.guard = none) (s x : Operand) (ho : o.op = .call { callee := .builtin .append, args := #[s, x], argTypes := #[105, 105] })
  (base : Nat) (v : Value) (L : List ByteArray) (hs : a.eval s = v) (hown : w.ownsRow base 9 1 v L.length (L.map Value.string)) (hx : a.eval x = .slice (some ⟨w.heap.size, 0, none⟩) 1 1)
  (n : ByteArray) (hk : L.length ≤ 5000) (hbase : base ≤ w.heap.size)
  (h : ∀ v' w', w'.ownsRow base 9 1 v' (L ++ [n]).length ((L ++ [n]).map Value.string) → Below base w w' → wpList Tryz.prog ops Q rest (a.put o.dst v') w') : wpList Tryz.prog ops Q (o :: rest) a (w.alloc (.cells #[.string n] 9)) := by
 obtain ⟨i0, hi, hz0, hz1, hz2⟩ := info_parts infoS
 refine wpList_append_own_at _ hgd s x 105 ho base 9 i0 (.string ByteArray.empty) 1 16 underlyingSs hi hz0 hz1 hz2 rfl (by decide) v L.length _ hs (hown.alloc _) ⟨w.heap.size, 0, none⟩ 1 1 [.string n] hx rfl (cell_one_new _ _ _) (by intro u hu; simp at hu; subst hu; rfl) (by simp only [maxLen]; omega) (by omega) (by simp; omega) ?_
 intro v' w' q1 q2 _ _
 exact h v' w' (by simpa using q1) (((Below.refl base w).alloc hbase _).grown q2 (by simp; omega) (fun b hb => (hown.lt b hb).1))

set_option maxRecDepth 10000 in
set_option maxHeartbeats 4000000 in
theorem namesOf_any (M : MV) (w : World) (hM : InM w M) (hs : SmallM M) : Calls Tryz.prog 73 #[M.val] w fun e w' =>
  ∃ v, e = .returned v ∧ w'.ownsRow (w.heap.size + 1) 9 1 v (namesF M M.fns.n).length ((namesF M M.fns.n).map Value.string) ∧ Below (w.heap.size + 1) (w.alloc (.cells (mcells M) 27)) w' := by
 have x1 := hs.ext
 have x2 := hs.glo
 have x3 := hs.tab
 have x4 := hs.fns
 obtain ⟨W, hW⟩ : ∃ W, w.alloc (.cells (mcells M) 27) = W := ⟨_, rfl⟩
 have hz : W.heap.size = w.heap.size + 1 := by rw [← hW]; simp
 have BX := hid (show W.cell? ⟨w.heap.size, 0, none⟩ = some (.slice M.ext.a M.ext.n M.ext.c) ∧ W.cell? ⟨w.heap.size, 1, none⟩ = some (.slice M.glo.a M.glo.n M.glo.c) ∧ W.cell? ⟨w.heap.size, 2, none⟩ = some (.slice M.tab.a M.tab.n M.tab.c) ∧ W.cell? ⟨w.heap.size, 3, none⟩ = some (.slice M.fns.a M.fns.n M.fns.c) by
  rw [← hW]
  exact ⟨by simp, by simp, by simp, by simp⟩)
 have HM := hid (show InM W M by rw [← hW]; exact hM.on (new (same w) _))
 have bb := BX.out.1
 rw [hW, ← hz]
 have HW := hid hW
 clear hM hs hz
 go_enter Tryz.func73, Tryz.ntmps73
 go_wp2_with fail
 clear hW bb
 go_loopw [3, 15] (fun l iv wr => ∃ (v : Value) (a : Nat), v = l ∧ iv = .int .i64 a ∧ a ≤ M.ext.n ∧ wr.ownsRow W.heap.size 9 1 v (namesE M a).length ((namesE M a).map Value.string) ∧ Below W.heap.size W wr) (fun _ iv _ => M.ext.n - (intOf iv).toNat)
 case atStart => exact ⟨_, 0, rfl, rfl, Nat.zero_le _, by simpa [namesE] using World.ownsRow_nil W W.heap.size 9 1, same W⟩
 case round =>
  obtain ⟨v, a, rfl, rfl, ha, own, hb⟩ := hrel
  have OWN := hid own
  have BEL := hid hb
  have z := hb.size
  clear own hb
  by_cases la : a < M.ext.n
  ·obtain ⟨rb, ro, hrx, r0, r1, r2⟩ := (HM.out.on BEL.out).ext.at underlying22 size65 la
   have hl : (namesE M a).length ≤ 1000 := by rw [lenE]; omega
   go_wp2_with (at_builtin; refine append_str rfl (.tmp 19) (.tmp 22) rfl W.heap.size v (namesE M a) rfl (OWN.out.alloc _) (by simp only [World.size_alloc]; rfl) (M.E a).name (by omega) (by simp; omega) ?_; intro v' w4 own4 b4; have O4 := hid (show w4.ownsRow W.heap.size 9 1 v' (namesE M (a + 1)).length ((namesE M (a + 1)).map Value.string) by rw [namesE_next]; exact own4); have B4 := hid (show Below W.heap.size W w4 from (BEL.out.alloc z _).trans b4); clear own4 b4)
   go_round
   case rel => exact ⟨_, a + 1, rfl, by go_num, by omega, O4.out, B4.out⟩
   case measure => simp [intOf]; omega
  ·obtain rfl : a = M.ext.n := by omega
   have bb := cell_on BEL.out BX.out.2.1
   clear la
   go_wp2_with fail
   clear bb
   go_loopw [3, 28] (fun l iv wr => ∃ (v : Value) (a : Nat), v = l ∧ iv = .int .i64 a ∧ a ≤ M.glo.n ∧ wr.ownsRow W.heap.size 9 1 v (namesG M a).length ((namesG M a).map Value.string) ∧ Below W.heap.size W wr) (fun _ iv _ => M.glo.n - (intOf iv).toNat)
   case atStart => exact ⟨_, 0, rfl, rfl, Nat.zero_le _, by rw [show namesG M 0 = namesE M M.ext.n by simp [namesG]]; exact OWN.out, BEL.out⟩
   case round =>
    obtain ⟨v, a, rfl, rfl, ha, own, hb⟩ := hrel
    have OWN := hid own
    have BEL := hid hb
    have z := hb.size
    clear own hb
    by_cases la : a < M.glo.n
    ·obtain ⟨rb, ro, hrx, r0, r1⟩ := (HM.out.on BEL.out).glo.at underlying23 size47 la
     have hl : (namesG M a).length ≤ 1000 := by rw [lenG]; omega
     go_wp2_with (at_builtin; refine append_str rfl (.tmp 32) (.tmp 35) rfl W.heap.size v (namesG M a) rfl (OWN.out.alloc _) (by simp only [World.size_alloc]; rfl) (M.G a).name (by omega) (by simp; omega) ?_; intro v' w4 own4 b4; have O4 := hid (show w4.ownsRow W.heap.size 9 1 v' (namesG M (a + 1)).length ((namesG M (a + 1)).map Value.string) by rw [namesG_next]; exact own4); have B4 := hid (show Below W.heap.size W w4 from (BEL.out.alloc z _).trans b4); clear own4 b4)
     go_round
     case rel => exact ⟨_, a + 1, rfl, by go_num, by omega, O4.out, B4.out⟩
     case measure => simp [intOf]; omega
    ·obtain rfl : a = M.glo.n := by omega
     have bb := cell_on BEL.out BX.out.2.2.1
     clear la
     go_wp2_with fail
     clear bb
     go_loopw [3, 41] (fun l iv wr => ∃ (v : Value) (a : Nat), v = l ∧ iv = .int .i64 a ∧ a ≤ M.tab.n ∧ wr.ownsRow W.heap.size 9 1 v (namesT M a).length ((namesT M a).map Value.string) ∧ Below W.heap.size W wr) (fun _ iv _ => M.tab.n - (intOf iv).toNat)
     case atStart => exact ⟨_, 0, rfl, rfl, Nat.zero_le _, by rw [show namesT M 0 = namesG M M.glo.n by simp [namesT]]; exact OWN.out, BEL.out⟩
     case round =>
      obtain ⟨v, a, rfl, rfl, ha, own, hb⟩ := hrel
      have OWN := hid own
      have BEL := hid hb
      have z := hb.size
      clear own hb
      by_cases la : a < M.tab.n
      ·obtain ⟨rb, ro, hrx, r0, r1⟩ := (HM.out.on BEL.out).tab.at underlying24 size49 la
       have hl : (namesT M a).length ≤ 1000 := by rw [lenT]; omega
       go_wp2_with (at_builtin; refine append_str rfl (.tmp 45) (.tmp 48) rfl W.heap.size v (namesT M a) rfl (OWN.out.alloc _) (by simp only [World.size_alloc]; rfl) (M.T a).name (by omega) (by simp; omega) ?_; intro v' w4 own4 b4; have O4 := hid (show w4.ownsRow W.heap.size 9 1 v' (namesT M (a + 1)).length ((namesT M (a + 1)).map Value.string) by rw [namesT_next]; exact own4); have B4 := hid (show Below W.heap.size W w4 from (BEL.out.alloc z _).trans b4); clear own4 b4)
       go_round
       case rel => exact ⟨_, a + 1, rfl, by go_num, by omega, O4.out, B4.out⟩
       case measure => simp [intOf]; omega
      ·obtain rfl : a = M.tab.n := by omega
       have bb := cell_on BEL.out BX.out.2.2.2
       clear la
       go_wp2_with fail
       clear bb
       go_loopw [3, 54] (fun l iv wr => ∃ (v : Value) (a : Nat), v = l ∧ iv = .int .i64 a ∧ a ≤ M.fns.n ∧ wr.ownsRow W.heap.size 9 1 v (namesF M a).length ((namesF M a).map Value.string) ∧ Below W.heap.size W wr) (fun _ iv _ => M.fns.n - (intOf iv).toNat)
       case atStart => exact ⟨_, 0, rfl, rfl, Nat.zero_le _, by rw [show namesF M 0 = namesT M M.tab.n by simp [namesF]]; exact OWN.out, BEL.out⟩
       case round =>
        obtain ⟨v, a, rfl, rfl, ha, own, hb⟩ := hrel
        have OWN := hid own
        have BEL := hid hb
        have z := hb.size
        clear own hb
        by_cases la : a < M.fns.n
        ·obtain ⟨rb, ro, hrx, r0, r1, r2, r3, r4⟩ := (HM.out.on BEL.out).fns.at underlying25 size36 la
         have hl : (namesF M a).length ≤ 1000 := by rw [lenF]; omega
         go_wp2_with (at_builtin; refine append_str rfl (.tmp 58) (.tmp 61) rfl W.heap.size v (namesF M a) rfl (OWN.out.alloc _) (by simp only [World.size_alloc]; rfl) (M.F a).name (by omega) (by simp; omega) ?_; intro v' w4 own4 b4; have O4 := hid (show w4.ownsRow W.heap.size 9 1 v' (namesF M (a + 1)).length ((namesF M (a + 1)).map Value.string) by rw [namesF_next]; exact own4); have B4 := hid (show Below W.heap.size W w4 from (BEL.out.alloc z _).trans b4); clear own4 b4)
         go_round
         case rel => exact ⟨_, a + 1, rfl, by go_num, by omega, O4.out, B4.out⟩
         case measure => simp [intOf]; omega
        ·obtain rfl : a = M.fns.n := by omega
         have bb := cell_on BEL.out BX.out.1
         clear la
         clear bb
         go_wp2_with fail
         go_ret
         exact ⟨v, rfl, OWN.out, BEL.out⟩

end Go.Proofs.YtolipafcoolpgaaGreat.Wf

/-
  wf: nameFault.
-/
namespace Go.Proofs.YtolipafcoolpgaaGreat.Wf
open Go.RowKit View Rd Num Opn Copy Srt Go.Proofs.YtolipafcoolpgaaGreat.Mod Chk
open Go.Maps (Keyed string_keyed)

set_option linter.unusedVariables false

theorem undSS : Tryz.prog.underlying 104 = some (.map 9 107) := by kernel_rfl
theorem zeroU (w : World) : (zeroValue 107).run Tryz.prog w = .ok (.agg #[]) w := by kernel_rfl

def SSet (w : World) (B n : Nat) (S : List (List UInt8)) : Prop :=
 ∃ D : DataW Unit, w.ownsMap Tryz.prog 9 unitElem B n D ∧ ∀ l : List UInt8, Maps.has D (.string l) = decide (l ∈ S)

theorem SSet.at_block {w w' : World} {B n : Nat} {S : List (List UInt8)} (h : SSet w B n S) (e : w'.heap[B]? = w.heap[B]?) : SSet w' B n S := by
 obtain ⟨D, ⟨es, clock, hb, hr⟩, hv⟩ := h
 exact ⟨D, ⟨es, clock, by rw [e]; exact hb, hr⟩, hv⟩
theorem SSet.lt {w : World} {B n : Nat} {S : List (List UInt8)} (h : SSet w B n S) : B < w.heap.size := by
 obtain ⟨D, ⟨es, clock, hb, hr⟩, hv⟩ := h
 exact (Array.getElem?_eq_some_iff.1 hb).1
theorem SSet.on {w w' : World} {B n : Nat} {S : List (List UInt8)} (hb : Below w.heap.size w w') (h : SSet w B n S) : SSet w' B n S := h.at_block (hb.block B h.lt)
theorem SSet.made (w : World) : SSet (w.alloc (.map #[] 0)) w.heap.size 0 [] :=
 ⟨.map [], World.ownsMap_made _ _ _ _, fun v => by simp; rfl⟩
theorem SSet.look {w : World} {B n : Nat} {S : List (List UInt8)} (h : SSet w B n S) {s : ByteArray} (hs : s.size ≤ 40) : (Instr.lookup 104 (.map (some B)) (.string s) true).run Tryz.prog w = .ok (.tuple #[.agg #[], .bool (decide (s.data.toList ∈ S))]) w := by
 obtain ⟨D, ho, hm⟩ := h
 obtain ⟨x, ps, hrun, hat⟩ := ho.look_ok law9 undSS (zeroU w) unitElem_mk (key9 hs)
 obtain ⟨rfl, _⟩ := unitElem_inv hat
 rw [hrun, hm]

theorem wpList_putSS {ops : Array Oper} {rest : List Oper} {o : Oper} {a : Act} {Q : Exit → Act → World → Prop} {w : World} (hg : o.guard = none) (mo x y : Operand) (hop : o.op = Op.mapUpdate 104 mo x y)
  (B n : Nat) (S : List (List UInt8)) (hm : a.eval mo = .map (some B)) (h : SSet w B n S) (hn : n ≤ 1000000) (s : ByteArray) (hx : a.eval x = .string s) (hy : a.eval y = .agg #[]) (hs : s.size ≤ 40)
  (hK : ∀ w', SSet w' B (n + 1) (S ++ [s.data.toList]) → w.grownBy w' (some B) → wpList Tryz.prog ops Q rest (a.put o.dst undef) w') :
  wpList Tryz.prog ops Q (o :: rest) a w := by
 obtain ⟨D, ho, hD⟩ := h
 refine wpList_mapUpdate_own w hg mo x y 104 hop 9 107 law9 undSS _ B n D hm ho (by unfold maxLen; omega) _ _ _ hx hy (key9 hs) _ [] unitElem_mk ?_
 intro w' hown hgr
 refine hK w' ⟨_, hown, fun z => ?_⟩ hgr
 have hmap : Maps.IsMap D := by obtain ⟨_, _, _, _, _, e⟩ := ho; exact ⟨_, e⟩
 by_cases e : z = s.data.toList
 ·subst e
  have hk : WideAt.IsKeyLit (.string s.data.toList) := by simp [WideAt.IsKeyLit]
  rw [Maps.has_put_same hmap hk _]
  simp
 ·have hne : (Lit.string z) ≠ .string s.data.toList := fun h => e (by simpa using h)
  rw [Maps.has_put_other hne, hD z]
  apply decide_eq_decide.2
  rw [List.mem_append, List.mem_singleton]
  exact ⟨fun h => .inl h, fun h => h.resolve_right e⟩

theorem sizeS : (Tryz.prog.info? 9).map (fun i => i.size) = some 1 := by kernel_rfl

theorem good_take {L : List ByteArray} (k : Nat) (h : Chk.Good L) : Chk.Good (L.take k) :=
 ⟨fun s hs => h.1 s (List.mem_of_mem_take hs), by rw [List.map_take]; exact h.2.sublist (List.take_sublist k _)⟩

theorem take_next {L : List ByteArray} {a : Nat} {s : ByteArray} (h : L[a]? = some s) : L.take (a + 1) = L.take a ++ [s] := by
 rw [List.take_add_one, h]; rfl

theorem grown_alloc {w w' : World} {r : Option Nat} (h : w.grownBy w' r) (o : Obj) : w.grownBy (w'.alloc o) r :=
 ⟨h.os, h.tape, h.output, by simp; have := h.size; omega, fun b hb hr => by rw [Below.heap_alloc _ _ _ (Nat.lt_of_lt_of_le hb h.size)]; exact h.block b hb hr⟩

theorem names_small {M : MV} (hs : SmallM M) : ∀ s ∈ namesF M M.fns.n, s.size ≤ 40 := by
 intro s h
 simp only [namesF, namesT, namesG, namesE, List.mem_append, List.mem_map, List.mem_range] at h
 rcases h with ((⟨i, hi, rfl⟩ | ⟨i, hi, rfl⟩) | ⟨i, hi, rfl⟩) | ⟨i, hi, rfl⟩
 ·exact (hs.extI i hi).1
 ·exact (hs.gloI i hi).1
 ·exact (hs.tabI i hi).1
 ·exact (hs.light i hi).name

set_option maxRecDepth 10000 in
set_option maxHeartbeats 4000000 in
theorem nameFault_any (M : MV) (w : World) (hM : InM w M) (hs : SmallM M) : Calls Tryz.prog 28 #[M.val] w fun e w' => Ans (fun r => r = true ↔ ¬ NameM M) w e w' := by
 have hmm := @run_makeMap Tryz.prog
 have hN : (namesF M M.fns.n).length ≤ 1000 := by
  have x1 := hs.ext; have x2 := hs.glo; have x3 := hs.tab; have x4 := hs.fns
  rw [lenF]; omega
 obtain ⟨L, hL⟩ : ∃ L, namesF M M.fns.n = L := ⟨_, rfl⟩
 have HSZ := hid (show ∀ s ∈ L, s.size ≤ 40 by rw [← hL]; exact names_small hs)
 have HG := hid (show NameM M ↔ Chk.Good L by rw [← hL]; exact Iff.rfl)
 have HM := hid hM
 have HS := hid hs
 have HLL := hid hL
 rw [hL] at hN
 clear hM hs hL
 go_enter Tryz.func28, Tryz.ntmps28
 go_wp2_with fail
 clear hmm
 obtain ⟨W0, hW0⟩ : ∃ W0, w.alloc (.cells (mcells M) 27) = W0 := ⟨_, rfl⟩
 have z0 : W0.heap.size = w.heap.size + 1 := by rw [← hW0]; simp
 obtain ⟨W, hW⟩ : ∃ W, W0.alloc (.map #[] 0) = W := ⟨_, rfl⟩
 have z1 : W.heap.size = w.heap.size + 2 := by rw [← hW]; simp [z0]
 obtain ⟨B, hB⟩ : ∃ B, w.heap.size + 1 = B := ⟨_, rfl⟩
 have HS0 := hid (show SSet W B 0 [] by rw [← hW, ← hB, ← z0]; exact SSet.made W0)
 have LW := hid (show Below w.heap.size w W by rw [← hW, ← hW0]; exact new (new (same w) _) _)
 have HB := hid (show w.heap.size + 1 = B ∧ B + 1 = W.heap.size by omega)
 have c1 := hid (namesOf_any M W (HM.out.on LW.out) HS.out)
 rw [HLL.out] at c1
 rw [hW0, hW, hB]
 clear hW hW0 hB z0
 refine c1.out.mono ?_
 rintro e w3 ⟨v, rfl, own, hb⟩
 have BEL := hid (show Below W.heap.size W w3 from ((Below.refl _ W).alloc (Nat.le_refl _) _).trans (hb.mono (by omega)))
 have hsl : ∃ sl : Sl, v = .slice sl.a sl.n sl.c ∧ sl.n = L.length ∧ ∀ i, i < L.length → ∃ g, sl.a = some ⟨g, 0, none⟩ ∧ W.heap.size < g + 1 ∧ g < w3.heap.size ∧ w3.cell? ⟨g, i, none⟩ = (L[i]?).map Value.string := by
  have hh := own
  rcases own.2 with ⟨rfl, e⟩ | ⟨g, cap, cur, rfl, q1, q2, q3, q4⟩
  ·exact ⟨⟨none, 0, 0⟩, rfl, e.symm, fun i hi => by omega⟩
  ·refine ⟨⟨some ⟨g, 0, none⟩, L.length, cap⟩, rfl, rfl, fun i hi => ⟨g, rfl, by omega, (Array.getElem?_eq_some_iff.1 q2).1, ?_⟩⟩
   have := hh.cellAt (g := g) i (by omega)
   rw [this, List.getElem?_map]
 obtain ⟨⟨va, vn, vc⟩, rfl, hvn, hcell⟩ := hsl
 obtain rfl : vn = L.length := hvn
 have CELL := hid hcell
 have S3 := hid (HS0.out.on BEL.out)
 have LW3 := hid (View.more LW.out BEL.out)
 clear own hb hcell z1 c1
 go_wp2_with fail
 go_loopw [12] (fun iv wr => ∃ a : Nat, iv = .int .i64 a ∧ a ≤ L.length ∧ SSet wr B a ((L.take a).map bytesOf) ∧ Chk.Good (L.take a) ∧ w3.grownBy wr (some B)) (fun iv _ => L.length - (intOf iv).toNat)
 case atStart => exact ⟨0, rfl, Nat.zero_le _, by simpa using S3.out, by simp [Chk.Good], World.grownBy.refl _ _⟩
 case round =>
  obtain ⟨a, rfl, ha, hset, hgood, hgr⟩ := hrel
  have ST := hid hset
  have GD := hid hgood
  have GR := hid hgr
  have BLW := hid (show Below w.heap.size w wr from LW3.out.grown hgr LW3.out.size (fun g hg => by cases hg; have := HB.out.1; omega))
  clear hset hgood hgr
  by_cases la : a < L.length
  ·obtain ⟨g, hga, hg1, hg2, hc⟩ := CELL.out a la
   replace hga : va = some ⟨g, 0, none⟩ := hga
   obtain ⟨s, hs⟩ : ∃ s, L[a]? = some s := ⟨L[a], List.getElem?_eq_getElem la⟩
   rw [hs] at hc
   have hc' : wr.cell? ⟨g, a, none⟩ = some (.string s) := by
    rw [World.cell?_of_block (w := w3) (GR.out.block g hg2 (fun e => by have := Option.some.inj e; have := HB.out.2; omega))]
    exact hc
   have hsz : s.size ≤ 40 := HSZ.out s (List.mem_of_getElem? hs)
   have TK := hid (take_next hs)
   have ix := index_row (s := ⟨va, L.length, vc⟩) hga underlyingSs sizeS (k := a) la
   rw [Nat.zero_add, Nat.mul_one] at ix
   have lk := ST.out.look hsz
   clear hc hs hga
   cases ht : decide (s.data.toList ∈ (L.take a).map bytesOf) with
   | true =>
    rw [ht] at lk
    have HR := hid (show ¬ NameM M from fun h => by
     have h2 := good_take (a + 1) (HG.out.1 h)
     rw [TK.out, good_snoc] at h2
     rw [List.count_eq_zero] at h2
     exact h2.2.2 (of_decide_eq_true ht))
    clear ht
    go_wp2_with fail
    go_ret
    exact ⟨true, rfl, by simp; exact HR.out, new BLW.out _⟩
   | false =>
    rw [ht] at lk
    have HT := hid (of_decide_eq_false ht)
    clear ht
    go_wp2_with fail
    refine (wname_any s _ (by omega)).mono ?_
    rintro e w4 ⟨r, rfl, hr, hw4⟩
    rw [hw4]
    cases r with
    | false =>
     have HR := hid (show ¬ NameM M from fun h => by
      have h2 := good_take (a + 1) (HG.out.1 h)
      rw [TK.out, good_snoc] at h2
      have := hr.2 h2.2.1
      cases this)
     clear hr hw4
     go_wp2_with fail
     go_ret
     exact ⟨true, rfl, by simp; exact HR.out, new BLW.out _⟩
    | true =>
     have hok := hid (hr.1 rfl)
     clear hr hw4
     have SA := hid (ST.out.on (new (same wr) (.cells #[] 107)))
     go_wp2_with (at_mapUpdate; refine wpList_putSS rfl (.tmp 28) (.tmp 29) (.tmp 30) rfl B a _ rfl SA.out (by omega) s rfl rfl hsz ?_; intro w5 hs5 hg5)
     have N1 := hid (show SSet w5 B (a + 1) ((L.take (a + 1)).map bytesOf) by rw [TK.out, List.map_append]; exact hs5)
     have N2 := hid (show Chk.Good (L.take (a + 1)) by rw [TK.out, good_snoc]; exact ⟨GD.out, hok.out, by rw [List.count_eq_zero]; exact HT.out⟩)
     have N3 := hid (show w3.grownBy w5 (some B) from (grown_alloc GR.out _).trans hg5)
     clear hs5 hg5
     go_wp2_with fail
     go_roundw
     case rel => exact ⟨a + 1, by go_num, by omega, N1.out, N2.out, N3.out⟩
     case measure => simp [intOf]; omega
  ·obtain rfl : a = L.length := by omega
   have HR := hid (show NameM M by rw [HG.out]; have := GD.out; rwa [List.take_length] at this)
   clear la
   go_wp2_with fail
   go_ret
   exact ⟨false, rfl, by simp; exact HR.out, BLW.out⟩

end Go.Proofs.YtolipafcoolpgaaGreat.Wf
