/-
  ChkN, ChkO, ChkQ, ChkAll, FloE, Wga: laid together.
-/
import Derived.Test.YtolipafcoolpgaaGreatChkL
import Derived.Maps.OwnSet
import Derived.Maps.OwnOps
import Derived.Test.YtolipafcoolpgaaGreatChkZ
import Derived.Test.YtolipafcoolpgaaGreatJ6
import Derived.Test.YtolipafcoolpgaaGreatChkS
import Derived.Deep.RegionHeld3
import Derived.Test.YtolipafcoolpgaaGreatJ2
import Derived.Test.YtolipafcoolpgaaGreatJ0
/-
  Names, by the document: plnref3.Name.
-/
namespace Go.Proofs.YtolipafcoolpgaaGreat.Chk
open Go.RowKit View Rd Num Opn Copy Go.Proofs.YtolipafcoolpgaaGreat.Mod

set_option linter.unusedVariables false

def byteAt (s : ByteArray) (i : Nat) : Int := if h : i < s.size then ((s[i]'h).toNat : Int) else 0

def chOk (c : Int) : Bool := (decide (97 ≤ c) && decide (c ≤ 122)) || (decide (48 ≤ c) && decide (c ≤ 57)) || decide (c = 95)

def NameOk (s : ByteArray) : Prop := 1 ≤ s.size ∧ s.size ≤ 12 ∧ 97 ≤ byteAt s 0 ∧ byteAt s 0 ≤ 122 ∧ ∀ i, i < s.size → chOk (byteAt s i) = true

theorem index_str (s : ByteArray) {i : Nat} (hi : i < s.size) : ∀ wx, (Instr.index 9 (.string s) (.int .i64 i)).run Tryz.prog wx = .ok (.int .u8 (byteAt s i)) wx := by
 intro wx
 rw [run_index_string wx 9 s .i64 i (by kernel_rfl), dif_pos ⟨by omega, by omega⟩]
 unfold byteAt
 rw [dif_pos hi]
 simp

def NameIs (s : ByteArray) (w : World) (e : Ending) (w' : World) : Prop := ∃ r : Bool, e = .returned (.bool r) ∧ (r = true ↔ NameOk s) ∧ w' = w

set_option maxRecDepth 10000 in
set_option maxHeartbeats 4000000 in
theorem name_any (s : ByteArray) (w : World) (hs : s.size ≤ 60) : Calls Tryz.prog 155 #[.string s] w fun e w' => NameIs s w e w' := by
 have HNO := hid (show ¬ NameOk s → NameIs s w (.returned (.bool false)) w from fun h => ⟨false, rfl, by simp [h], rfl⟩)
 by_cases h1 : (s.size : Int) < 1
 ·have t1 : decide ((s.size : Int) < 1) = true := by simpa using h1
  have HN := hid (show ¬ NameOk s from fun h => by have := h.1; omega)
  clear h1
  go_enter Tryz.func155, Tryz.ntmps155
  go_wp2_with fail
  go_ret
  exact HNO.out HN.out
 have t1 : decide ((s.size : Int) < 1) = false := by simpa using h1
 by_cases h2 : (12 : Int) < s.size
 ·have t2 : decide ((12 : Int) < s.size) = true := by simpa using h2
  have HN := hid (show ¬ NameOk s from fun h => by have := h.2.1; omega)
  clear h1 h2
  go_enter Tryz.func155, Tryz.ntmps155
  go_wp2_with fail
  go_ret
  exact HNO.out HN.out
 have t2 : decide ((12 : Int) < s.size) = false := by simpa using h2
 have l0 : 0 < s.size := by omega
 obtain ⟨c0, hc0⟩ : ∃ c0 : Int, ((s[0]'l0).toNat : Int) = c0 := ⟨_, rfl⟩
 have HB0 := hid (show byteAt s 0 = c0 by unfold byteAt; rw [dif_pos l0]; exact hc0)
 by_cases h3 : c0 < 97
 ·have t3 : decide (c0 < 97) = true := by simpa using h3
  have HN := hid (show ¬ NameOk s from fun h => by have := h.2.2.1; rw [HB0.out] at this; omega)
  clear h1 h2 h3
  go_enter Tryz.func155, Tryz.ntmps155
  go_wp2_with fail
  go_ret
  exact HNO.out HN.out
 have t3 : decide (c0 < 97) = false := by simpa using h3
 by_cases h4 : 122 < c0
 ·have t4 : decide (122 < c0) = true := by simpa using h4
  have HN := hid (show ¬ NameOk s from fun h => by have := h.2.2.2.1; rw [HB0.out] at this; omega)
  clear h1 h2 h3 h4
  go_enter Tryz.func155, Tryz.ntmps155
  go_wp2_with fail
  go_ret
  exact HNO.out HN.out
 have t4 : decide (122 < c0) = false := by simpa using h4
 have HH := hid (show 1 ≤ s.size ∧ s.size ≤ 12 ∧ 97 ≤ byteAt s 0 ∧ byteAt s 0 ≤ 122 by rw [HB0.out]; omega)
 clear h1 h2 h3 h4
 go_enter Tryz.func155, Tryz.ntmps155
 go_wp2_with fail
 clear t1 t2 t3 t4 hc0
 go_loop [3] (fun iv => ∃ k : Nat, k ≤ s.size ∧ iv = .int .i64 k ∧ ∀ i, i < k → chOk (byteAt s i) = true) (fun iv => s.size - (intOf iv).toNat)
 case atStart => exact ⟨0, Nat.zero_le _, rfl, fun i hi => by omega⟩
 case round =>
  obtain ⟨k, hk, rfl, hall⟩ := hrel
  have HA := hid hall
  clear hall
  by_cases lk : k < s.size
  ·obtain ⟨c, hc⟩ : ∃ c : Int, ((s[k]'lk).toNat : Int) = c := ⟨_, rfl⟩
   have HC := hid (show byteAt s k = c by unfold byteAt; rw [dif_pos lk]; exact hc)
   cases hok : chOk c with
   | true =>
    have HO := hid (show chOk (byteAt s k) = true by rw [HC.out]; exact hok)
    go_wp2
    all_goals first
     | (go_round; (case rel => exact ⟨k + 1, by omega, by go_num, upto2 HA.out HO.out⟩); (case measure => simp [intOf]; omega))
     | (exfalso; clear HA HO HC HH HNO; go_light; simp_all [chOk] <;> omega)
   | false =>
    have HN := hid (show ¬ NameOk s from fun h => by have := h.2.2.2.2 k lk; rw [HC.out, hok] at this; cases this)
    go_wp2
    all_goals first
     | (go_ret; exact HNO.out HN.out)
     | (exfalso; clear HA HN HC HH HNO; go_light; simp_all [chOk] <;> omega)
  ·obtain rfl : k = s.size := by omega
   go_wp2
   go_ret
   exact (⟨true, rfl, by simp; exact ⟨HH.out.1, HH.out.2.1, HH.out.2.2.1, HH.out.2.2.2, HA.out⟩, rfl⟩ : NameIs s w (.returned (.bool true)) w)

end Go.Proofs.YtolipafcoolpgaaGreat.Chk

/-
  Names that stand once, by the document: plnref3.one, names.
-/
namespace Go.Proofs.YtolipafcoolpgaaGreat.Chk
open Go.RowKit View Rd Num Opn Copy Go.Proofs.YtolipafcoolpgaaGreat.Mod
open Go.Maps (Keyed string_keyed)

set_option linter.unusedVariables false

theorem underlying9 : Tryz.prog.underlying 9 = some .string := by kernel_rfl
theorem underlying149 : Tryz.prog.underlying 149 = some (.map 9 3) := by kernel_rfl
theorem law9 : Keyed Tryz.prog 9 := string_keyed underlying9

def SMap (w : World) (B n : Nat) (m : List UInt8 → Nat) : Prop :=
 ∃ D : DataW Unit, w.ownsMap Tryz.prog 9 (plainElem Tryz.prog 3) B n D ∧ ∀ l, D.atKey (.string l) (.lit (.int .i64 0)) = .lit (.int .i64 (m l))

theorem SMap.lt {w : World} {B n : Nat} {m : List UInt8 → Nat} (h : SMap w B n m) : B < w.heap.size := by
 obtain ⟨D, ⟨es, clock, hb, hr⟩, hv⟩ := h
 exact (Array.getElem?_eq_some_iff.1 hb).1

theorem SMap.congr {w : World} {B n : Nat} {m m' : List UInt8 → Nat} (h : SMap w B n m) (e : ∀ l, m l = m' l) : SMap w B n m' := by
 obtain ⟨D, ho, hv⟩ := h
 exact ⟨D, ho, fun l => by rw [← e l]; exact hv l⟩

theorem SMap.made (w : World) : SMap (w.alloc (.map #[] 0)) w.heap.size 0 (fun _ => 0) := ⟨.map [], World.ownsMap_made _ _ _ _, fun l => rfl⟩

theorem key9 {s : ByteArray} (hs : s.size ≤ 40) : keyOf Tryz.prog 9 (.string s) = some (.string s.data.toList) := WideMaps.keyOf_string_mk underlying9 (by unfold maxLen; omega)

theorem SMap.look {w : World} {B n : Nat} {m : List UInt8 → Nat} (h : SMap w B n m) {s : ByteArray} (hs : s.size ≤ 40) : (Instr.lookup 149 (.map (some B)) (.string s) false).run Tryz.prog w = .ok (.int .i64 (m s.data.toList)) w := by
 obtain ⟨D, ho, hm⟩ := h
 obtain ⟨c, hrun, hat, _⟩ := ho.lookup_int law9 underlying149 underlying3 (zero3 w) (key9 hs)
 rw [hm] at hat
 simp at hat
 rw [hat]; exact hrun

theorem wpList_count {ops : Array Oper} {rest : List Oper} {o : Oper} {a : Act} {Q : Exit → Act → World → Prop} {w : World} (hg : o.guard = none) (mo x y : Operand) (hop : o.op = Op.mapUpdate 149 mo x y)
  (B n : Nat) (m : List UInt8 → Nat) (hm : a.eval mo = .map (some B)) (h : SMap w B n m) (hn : n ≤ 1000000) (s : ByteArray) (u : Nat) (ui : Int) (hui : ui = u) (hx : a.eval x = .string s) (hy : a.eval y = .int .i64 ui) (hs : s.size ≤ 40) (hu : u ≤ 1000000)
  (hK : ∀ w', SMap w' B (n + 1) (fun l => if l = s.data.toList then u else m l) → w.grownBy w' (some B) → wpList Tryz.prog ops Q rest (a.put o.dst undef) w') :
  wpList Tryz.prog ops Q (o :: rest) a w := by
 subst hui
 obtain ⟨D, ho, hD⟩ := h
 refine wpList_mapUpdate_own w hg mo x y 149 hop 9 3 law9 underlying149 _ B n D hm ho (by unfold maxLen; omega) _ _ _ hx hy (key9 hs) _ [] (plainElem_int underlying3 (wf64 ⟨by omega, by omega⟩)) ?_
 intro w' hown hgr
 refine hK w' ⟨_, hown, fun l => ?_⟩ hgr
 have hmap : Maps.IsMap D := by obtain ⟨_, _, _, _, _, e⟩ := ho; exact ⟨_, e⟩
 by_cases e : l = s.data.toList
 ·subst e
  dsimp only
  rw [if_pos rfl]
  have hk : WideAt.IsKeyLit (.string s.data.toList) := by simp [WideAt.IsKeyLit]
  exact Maps.atKey_put_same hmap hk _ _
 ·have hne : (Lit.string l) ≠ .string s.data.toList := fun h => e (by simpa using h)
  dsimp only
  rw [if_neg e, Maps.atKey_put_other hne]
  exact hD l

def OneIs (B n : Nat) (m : List UInt8 → Nat) (s : ByteArray) (w : World) (e : Ending) (w' : World) : Prop :=
 ∃ r : Nat, e = .returned (.int .i64 r) ∧ (r = 0 ∨ r = 1) ∧ (r = 0 ↔ NameOk s ∧ m s.data.toList = 0) ∧ SMap w' B (n + 1) (fun l => if l = s.data.toList then m l + 1 else m l) ∧ w.grownBy w' (some B)

set_option maxHeartbeats 1000000 in
theorem one_any (B n : Nat) (m : List UInt8 → Nat) (s : ByteArray) (w : World) (h : SMap w B n m) (hn : n ≤ 1000) (hm : m s.data.toList ≤ 1000) (hs : s.size ≤ 40) :
  Calls Tryz.prog 106 #[.map (some B), .string s] w fun e w' => OneIs B n m s w e w' := by
 have lk := h.look hs
 have H := hid h
 obtain ⟨c, hc⟩ : ∃ c, m s.data.toList = c := ⟨_, rfl⟩
 rw [hc] at lk hm
 have HC := hid hc
 clear h hc
 go_enter Tryz.func106, Tryz.ntmps106
 go_wp2_with (at_mapUpdate; refine wpList_count rfl (.tmp 5) (.tmp 6) (.tmp 8) rfl B n m rfl H.out (by omega) s (c + 1) ((c : Int) + 1) (by simp) rfl rfl hs (by omega) ?_; intro w1 hs1 hg1)
 have HS1 := hid (hs1.congr (m' := fun l => if l = s.data.toList then m l + 1 else m l) (fun l => by
  by_cases e : l = s.data.toList
  ·rw [if_pos e, if_pos e, e, HC.out]
  ·rw [if_neg e, if_neg e]))
 have HG1 := hid hg1
 have lk1 := hs1.look hs
 simp only [if_true] at lk1
 clear hs1 hg1 lk
 refine (name_any s _ (by omega)).mono ?_
 rintro e w2 ⟨r, rfl, hr, rfl⟩
 have HR := hid hr
 clear hr
 cases r with
 | false =>
  go_wp2_with fail
  go_ret
  exact ⟨1, rfl, .inr rfl, by have := HR.out; simp at this ⊢; exact fun h => absurd h this, HS1.out, HG1.out⟩
 | true =>
  have hok : NameOk s := HR.out.1 rfl
  have HK := hid hok
  clear hok
  by_cases h0 : c = 0
  ·have t1 : decide ((1 : Int) < ((c + 1 : Nat) : Int)) = false := by simp; omega
   have t1' : decide ((1 : Int) < (c : Int) + 1) = false := by simp; omega
   have H0 := hid h0
   clear h0
   go_wp2_with fail
   go_ret
   exact ⟨0, rfl, .inl rfl, by simp; exact ⟨HK.out, by rw [HC.out]; exact H0.out⟩, HS1.out, HG1.out⟩
  ·have t1 : decide ((1 : Int) < ((c + 1 : Nat) : Int)) = true := by simp; omega
   have t1' : decide ((1 : Int) < (c : Int) + 1) = true := by simp; omega
   have H0 := hid h0
   clear h0
   go_wp2_with fail
   go_ret
   exact ⟨1, rfl, .inr rfl, by simp; intro _; rw [HC.out]; exact H0.out, HS1.out, HG1.out⟩

end Go.Proofs.YtolipafcoolpgaaGreat.Chk

/-
  Names that stand once, by the document: plnref3.names.
-/
namespace Go.Proofs.YtolipafcoolpgaaGreat.Chk
open Go.RowKit View Rd Num Opn Copy Go.Proofs.YtolipafcoolpgaaGreat.Mod

set_option linter.unusedVariables false

abbrev bytesOf (s : ByteArray) : List UInt8 := s.data.toList

def Good (L : List ByteArray) : Prop := (∀ s ∈ L, NameOk s) ∧ (L.map bytesOf).Nodup

structure Nm (w : World) (B : Nat) (L : List ByteArray) (t : Nat) : Prop where
 map : SMap w B L.length (fun l => (L.map bytesOf).count l)
 le : t ≤ L.length
 good : t = 0 ↔ Good L

theorem good_snoc {L : List ByteArray} {s : ByteArray} : Good (L ++ [s]) ↔ Good L ∧ NameOk s ∧ (L.map bytesOf).count (bytesOf s) = 0 := by
 unfold Good
 rw [List.map_append, List.count_eq_zero]
 simp only [List.map_cons, List.map_nil, List.mem_append, List.mem_singleton]
 constructor
 ·rintro ⟨h1, h2⟩
  rw [List.nodup_append] at h2
  refine ⟨⟨fun x hx => h1 x (.inl hx), h2.1⟩, h1 s (.inr rfl), fun hm => ?_⟩
  exact h2.2.2 _ hm _ (by simp) rfl
 ·rintro ⟨⟨h1, h2⟩, h3, h4⟩
  refine ⟨fun x hx => ?_, ?_⟩
  ·rcases hx with hx | rfl
   ·exact h1 x hx
   ·exact h3
  ·rw [List.nodup_append]
   refine ⟨h2, by simp, fun a ha b hb e => ?_⟩
   simp at hb
   subst hb
   subst e
   exact h4 ha

theorem Nm.step {w w' : World} {B t : Nat} {L : List ByteArray} {s : ByteArray} (h : Nm w B L t) {r : Nat} (hr : r = 0 ∨ r = 1) (hz : r = 0 ↔ NameOk s ∧ (L.map bytesOf).count (bytesOf s) = 0) (hm : SMap w' B (L.length + 1) (fun l => if l = bytesOf s then (L.map bytesOf).count l + 1 else (L.map bytesOf).count l)) : Nm w' B (L ++ [s]) (t + r) := by
 refine ⟨?_, by simp; have := h.le; omega, ?_⟩
 ·rw [List.length_append, List.length_singleton]
  refine hm.congr fun l => ?_
  rw [List.map_append, List.count_append]
  by_cases e : l = bytesOf s
  ·rw [if_pos e, e]; simp
  ·rw [if_neg e]
   have : List.count l (List.map bytesOf [s]) = 0 := by
    rw [List.count_eq_zero]; simp; exact e
   rw [this]; rfl
 ·rw [good_snoc, ← hz, ← h.good]
  omega

def namesE (M : MV) (k : Nat) : List ByteArray := (List.range k).map (fun i => (M.E i).name)
def namesG (M : MV) (k : Nat) : List ByteArray := namesE M M.ext.n ++ (List.range k).map (fun i => (M.G i).name)
def namesT (M : MV) (k : Nat) : List ByteArray := namesG M M.glo.n ++ (List.range k).map (fun i => (M.T i).name)
def namesF (M : MV) (k : Nat) : List ByteArray := namesT M M.tab.n ++ (List.range k).map (fun i => (M.F i).name)

theorem namesE_next (M : MV) (k : Nat) : namesE M (k + 1) = namesE M k ++ [(M.E k).name] := by unfold namesE; rw [List.range_succ, List.map_append]; rfl
theorem namesG_next (M : MV) (k : Nat) : namesG M (k + 1) = namesG M k ++ [(M.G k).name] := by unfold namesG; rw [List.range_succ, List.map_append, ← List.append_assoc]; rfl
theorem namesT_next (M : MV) (k : Nat) : namesT M (k + 1) = namesT M k ++ [(M.T k).name] := by unfold namesT; rw [List.range_succ, List.map_append, ← List.append_assoc]; rfl
theorem namesF_next (M : MV) (k : Nat) : namesF M (k + 1) = namesF M k ++ [(M.F k).name] := by unfold namesF; rw [List.range_succ, List.map_append, ← List.append_assoc]; rfl
theorem lenE (M : MV) (k : Nat) : (namesE M k).length = k := by simp [namesE]
theorem lenG (M : MV) (k : Nat) : (namesG M k).length = M.ext.n + k := by simp [namesG, lenE]
theorem lenT (M : MV) (k : Nat) : (namesT M k).length = M.ext.n + M.glo.n + k := by simp [namesT, lenG]
theorem lenF (M : MV) (k : Nat) : (namesF M k).length = M.ext.n + M.glo.n + M.tab.n + k := by simp [namesF, lenT]

def NameM (M : MV) : Prop := Good (namesF M M.fns.n)

set_option maxRecDepth 10000 in
set_option maxHeartbeats 4000000 in
theorem names_any (M : MV) (w : World) (hM : InM w M) (hs : SmallM M) : Calls Tryz.prog 56 #[M.val] w fun e w' => Ans (fun r => r = true ↔ NameM M) w e w' := by
 have hmm := @run_makeMap Tryz.prog
 have x1 := hs.ext
 have x2 := hs.glo
 have x3 := hs.tab
 have x4 := hs.fns
 have HM := hid hM
 have HS := hid hs
 clear hM hs
 go_enter Tryz.func56, Tryz.ntmps56
 go_wp2_with fail
 clear hmm
 obtain ⟨W, hW⟩ : ∃ W, (w.alloc (.cells (mcells M) 27)).alloc (.map #[] 0) = W := ⟨_, rfl⟩
 obtain ⟨B, hB⟩ : ∃ B, w.heap.size + 1 = B := ⟨_, rfl⟩
 have BX := hid (show W.cell? ⟨w.heap.size, 0, none⟩ = some (.slice M.ext.a M.ext.n M.ext.c) ∧ W.cell? ⟨w.heap.size, 1, none⟩ = some (.slice M.glo.a M.glo.n M.glo.c) ∧ W.cell? ⟨w.heap.size, 2, none⟩ = some (.slice M.tab.a M.tab.n M.tab.c) ∧ W.cell? ⟨w.heap.size, 3, none⟩ = some (.slice M.fns.a M.fns.n M.fns.c) by
  rw [← hW]
  exact ⟨cell_on (new (same _) _) (by simp), cell_on (new (same _) _) (by simp), cell_on (new (same _) _) (by simp), cell_on (new (same _) _) (by simp)⟩)
 have ST := hid (show Nm W B (namesE M 0) 0 by
  refine ⟨?_, Nat.le_refl _, by simp [Good, namesE]⟩
  rw [← hW, ← hB]
  have := SMap.made (w.alloc (.cells (mcells M) 27))
  simp only [World.size_alloc] at this
  exact this.congr (fun l => by simp [namesE]))
 have LW := hid (show Below w.heap.size w W by rw [← hW]; exact new (new (same w) _) _)
 have HB := hid hB
 rw [hW, hB]
 clear hW hB
 go_loopw [4, 5] (fun l iv wr => ∃ a t : Nat, a ≤ M.ext.n ∧ iv = .int .i64 a ∧ l = .int .i64 t ∧ Nm wr B (namesE M a) t ∧ Below w.heap.size w wr ∧ wr.heap[w.heap.size]? = W.heap[w.heap.size]?) (fun _ iv _ => M.ext.n - (intOf iv).toNat)
 case atStart => exact ⟨0, 0, Nat.zero_le _, rfl, rfl, ST.out, LW.out, rfl⟩
 case round =>
  obtain ⟨a, t, ha, rfl, rfl, hnm, hb, he⟩ := hrel
  have bb : wr.cell? ⟨w.heap.size, 0, none⟩ = some (.slice M.ext.a M.ext.n M.ext.c) := by rw [World.cell?_of_block (w := W) he]; exact BX.out.1
  have HaA := hid (And.intro hnm (And.intro hb he))
  by_cases la : a < M.ext.n
  ·obtain ⟨rb, ro, hrx, r0, r1, r2⟩ := (HM.out.on hb).ext.at underlying22 size65 la
   have hsz : ((M.E a).name).size ≤ 40 := (HS.out.extI a la).1
   have hlen := lenE M a
   have htl := hnm.le
   have hcn : ((namesE M a).map bytesOf).count ((M.E a).name.data.toList) ≤ 1000 := by
    have := List.count_le_length (a := (M.E a).name.data.toList) (l := (namesE M a).map bytesOf)
    rw [List.length_map] at this
    omega
   have ONE := hid (one_any B (namesE M a).length _ (M.E a).name wr hnm.map (by omega) hcn hsz)
   rw [hlen] at htl
   clear hnm hb he hcn hlen
   go_wp2_with fail
   refine ONE.out.mono ?_
   rintro e w2 ⟨r, rfl, h01, hz, hm2, hg2⟩
   have HB1 := HB.out
   have FIN := hid (show Nm w2 B (namesE M (a + 1)) (t + r) ∧ Below w.heap.size w w2 ∧ w2.heap[w.heap.size]? = W.heap[w.heap.size]? from ⟨by rw [namesE_next]; exact HaA.out.1.step h01 hz hm2, HaA.out.2.1.grown hg2 HaA.out.2.1.size (fun g hg => by cases hg; omega), by rw [hg2.block _ (by have := HaA.out.1.map.lt; omega) (fun e => by have := Option.some.inj e; omega)]; exact HaA.out.2.2⟩)
   have hr1 : r ≤ 1 := by omega
   clear h01 hz hm2 hg2 ONE HB1
   go_wp2_with fail
   go_round
   case rel => exact ⟨a + 1, t + r, by omega, by go_num, by simp, FIN.out.1, FIN.out.2.1, FIN.out.2.2⟩
   case measure => simp [intOf]; omega
  ·obtain rfl : a = M.ext.n := by omega
   clear hnm hb he
   go_wp2_with fail
   clear bb
   go_loopw [4, 6] (fun l iv wr => ∃ b t : Nat, b ≤ M.glo.n ∧ iv = .int .i64 b ∧ l = .int .i64 t ∧ Nm wr B (namesG M b) t ∧ Below w.heap.size w wr ∧ wr.heap[w.heap.size]? = W.heap[w.heap.size]?) (fun _ iv _ => M.glo.n - (intOf iv).toNat)
   case atStart => exact ⟨0, t, Nat.zero_le _, rfl, rfl, by rw [show namesG M 0 = namesE M M.ext.n by simp [namesG]]; exact HaA.out.1, HaA.out.2.1, HaA.out.2.2⟩
   case round =>
    obtain ⟨b, t, hb, rfl, rfl, hnm, hb, he⟩ := hrel
    have bb : wr.cell? ⟨w.heap.size, 1, none⟩ = some (.slice M.glo.a M.glo.n M.glo.c) := by rw [World.cell?_of_block (w := W) he]; exact BX.out.2.1
    have HbA := hid (And.intro hnm (And.intro hb he))
    by_cases lb : b < M.glo.n
    ·obtain ⟨rb, ro, hrx, r0, r1⟩ := (HM.out.on hb).glo.at underlying23 size47 lb
     have hsz : ((M.G b).name).size ≤ 40 := (HS.out.gloI b lb).1
     have hlen := lenG M b
     have htl := hnm.le
     have hcn : ((namesG M b).map bytesOf).count ((M.G b).name.data.toList) ≤ 1000 := by
      have := List.count_le_length (a := (M.G b).name.data.toList) (l := (namesG M b).map bytesOf)
      rw [List.length_map] at this
      omega
     have ONE := hid (one_any B (namesG M b).length _ (M.G b).name wr hnm.map (by omega) hcn hsz)
     rw [hlen] at htl
     clear hnm hb he hcn hlen
     go_wp2_with fail
     refine ONE.out.mono ?_
     rintro e w2 ⟨r, rfl, h01, hz, hm2, hg2⟩
     have HB1 := HB.out
     have FIN := hid (show Nm w2 B (namesG M (b + 1)) (t + r) ∧ Below w.heap.size w w2 ∧ w2.heap[w.heap.size]? = W.heap[w.heap.size]? from ⟨by rw [namesG_next]; exact HbA.out.1.step h01 hz hm2, HbA.out.2.1.grown hg2 HbA.out.2.1.size (fun g hg => by cases hg; omega), by rw [hg2.block _ (by have := HbA.out.1.map.lt; omega) (fun e => by have := Option.some.inj e; omega)]; exact HbA.out.2.2⟩)
     have hr1 : r ≤ 1 := by omega
     clear h01 hz hm2 hg2 ONE HB1
     go_wp2_with fail
     go_round
     case rel => exact ⟨b + 1, t + r, by omega, by go_num, by simp, FIN.out.1, FIN.out.2.1, FIN.out.2.2⟩
     case measure => simp [intOf]; omega
    ·obtain rfl : b = M.glo.n := by omega
     clear hnm hb he
     go_wp2_with fail
     clear bb
     go_loopw [4, 7] (fun l iv wr => ∃ c t : Nat, c ≤ M.tab.n ∧ iv = .int .i64 c ∧ l = .int .i64 t ∧ Nm wr B (namesT M c) t ∧ Below w.heap.size w wr ∧ wr.heap[w.heap.size]? = W.heap[w.heap.size]?) (fun _ iv _ => M.tab.n - (intOf iv).toNat)
     case atStart => exact ⟨0, t, Nat.zero_le _, rfl, rfl, by rw [show namesT M 0 = namesG M M.glo.n by simp [namesT]]; exact HbA.out.1, HbA.out.2.1, HbA.out.2.2⟩
     case round =>
      obtain ⟨c, t, hc, rfl, rfl, hnm, hb, he⟩ := hrel
      have bb : wr.cell? ⟨w.heap.size, 2, none⟩ = some (.slice M.tab.a M.tab.n M.tab.c) := by rw [World.cell?_of_block (w := W) he]; exact BX.out.2.2.1
      have HcA := hid (And.intro hnm (And.intro hb he))
      by_cases lc : c < M.tab.n
      ·obtain ⟨rb, ro, hrx, r0, r1⟩ := (HM.out.on hb).tab.at underlying24 size49 lc
       have hsz : ((M.T c).name).size ≤ 40 := (HS.out.tabI c lc).1
       have hlen := lenT M c
       have htl := hnm.le
       have hcn : ((namesT M c).map bytesOf).count ((M.T c).name.data.toList) ≤ 1000 := by
        have := List.count_le_length (a := (M.T c).name.data.toList) (l := (namesT M c).map bytesOf)
        rw [List.length_map] at this
        omega
       have ONE := hid (one_any B (namesT M c).length _ (M.T c).name wr hnm.map (by omega) hcn hsz)
       rw [hlen] at htl
       clear hnm hb he hcn hlen
       go_wp2_with fail
       refine ONE.out.mono ?_
       rintro e w2 ⟨r, rfl, h01, hz, hm2, hg2⟩
       have HB1 := HB.out
       have FIN := hid (show Nm w2 B (namesT M (c + 1)) (t + r) ∧ Below w.heap.size w w2 ∧ w2.heap[w.heap.size]? = W.heap[w.heap.size]? from ⟨by rw [namesT_next]; exact HcA.out.1.step h01 hz hm2, HcA.out.2.1.grown hg2 HcA.out.2.1.size (fun g hg => by cases hg; omega), by rw [hg2.block _ (by have := HcA.out.1.map.lt; omega) (fun e => by have := Option.some.inj e; omega)]; exact HcA.out.2.2⟩)
       have hr1 : r ≤ 1 := by omega
       clear h01 hz hm2 hg2 ONE HB1
       go_wp2_with fail
       go_round
       case rel => exact ⟨c + 1, t + r, by omega, by go_num, by simp, FIN.out.1, FIN.out.2.1, FIN.out.2.2⟩
       case measure => simp [intOf]; omega
      ·obtain rfl : c = M.tab.n := by omega
       clear hnm hb he
       go_wp2_with fail
       clear bb
       go_loopw [4, 8] (fun l iv wr => ∃ d t : Nat, d ≤ M.fns.n ∧ iv = .int .i64 d ∧ l = .int .i64 t ∧ Nm wr B (namesF M d) t ∧ Below w.heap.size w wr ∧ wr.heap[w.heap.size]? = W.heap[w.heap.size]?) (fun _ iv _ => M.fns.n - (intOf iv).toNat)
       case atStart => exact ⟨0, t, Nat.zero_le _, rfl, rfl, by rw [show namesF M 0 = namesT M M.tab.n by simp [namesF]]; exact HcA.out.1, HcA.out.2.1, HcA.out.2.2⟩
       case round =>
        obtain ⟨d, t, hd, rfl, rfl, hnm, hb, he⟩ := hrel
        have bb : wr.cell? ⟨w.heap.size, 3, none⟩ = some (.slice M.fns.a M.fns.n M.fns.c) := by rw [World.cell?_of_block (w := W) he]; exact BX.out.2.2.2
        have HdA := hid (And.intro hnm (And.intro hb he))
        by_cases ld : d < M.fns.n
        ·obtain ⟨rb, ro, hrx, r0, r1, r2, r3, r4⟩ := (HM.out.on hb).fns.at underlying25 size36 ld
         have hsz : ((M.F d).name).size ≤ 40 := (HS.out.light d ld).name
         have hlen := lenF M d
         have htl := hnm.le
         have hcn : ((namesF M d).map bytesOf).count ((M.F d).name.data.toList) ≤ 1000 := by
          have := List.count_le_length (a := (M.F d).name.data.toList) (l := (namesF M d).map bytesOf)
          rw [List.length_map] at this
          omega
         have ONE := hid (one_any B (namesF M d).length _ (M.F d).name wr hnm.map (by omega) hcn hsz)
         rw [hlen] at htl
         clear hnm hb he hcn hlen
         go_wp2_with fail
         refine ONE.out.mono ?_
         rintro e w2 ⟨r, rfl, h01, hz, hm2, hg2⟩
         have HB1 := HB.out
         have FIN := hid (show Nm w2 B (namesF M (d + 1)) (t + r) ∧ Below w.heap.size w w2 ∧ w2.heap[w.heap.size]? = W.heap[w.heap.size]? from ⟨by rw [namesF_next]; exact HdA.out.1.step h01 hz hm2, HdA.out.2.1.grown hg2 HdA.out.2.1.size (fun g hg => by cases hg; omega), by rw [hg2.block _ (by have := HdA.out.1.map.lt; omega) (fun e => by have := Option.some.inj e; omega)]; exact HdA.out.2.2⟩)
         have hr1 : r ≤ 1 := by omega
         clear h01 hz hm2 hg2 ONE HB1
         go_wp2_with fail
         go_round
         case rel => exact ⟨d + 1, t + r, by omega, by go_num, by simp, FIN.out.1, FIN.out.2.1, FIN.out.2.2⟩
         case measure => simp [intOf]; omega
        ·obtain rfl : d = M.fns.n := by omega
         clear hnm hb he
         cases ht : decide ((t : Int) = 0) with
         | true =>
          have h0 : t = 0 := by simpa using ht
          have G := hid (HdA.out.1.good.1 h0)
          subst h0
          go_wp2_with fail
          go_ret
          exact ⟨true, rfl, by simp; exact G.out, HdA.out.2.1⟩
         | false =>
          have h0 : t ≠ 0 := by simpa using ht
          have G := hid (show ¬ NameM M from fun h => h0 (HdA.out.1.good.2 h))
          have q : ((t : Int) == 0) = false := by simp [h0]
          clear ht h0
          go_wp2_with fail
          go_ret
          exact ⟨false, rfl, by simp [G.out], HdA.out.2.1⟩

end Go.Proofs.YtolipafcoolpgaaGreat.Chk

/-
  Which modules may be, by the document: plnref3.Check; plnkeep.Fit.
-/
namespace Go.Proofs.YtolipafcoolpgaaGreat.Chk
open Go.RowKit View Rd Num Opn Copy Ty Srt Go.Proofs.YtolipafcoolpgaaGreat.Mod Flo

set_option linter.unusedVariables false

structure FitM (M : MV) : Prop where
 lim : LimM M
 form : FormM M
 name : NameM M
 sym : SymM M
 flow : ∀ i, i < M.fns.n → FlowF (M.F i)
 use : ∀ i, i < M.fns.n → UseF (M.F i)
 type : ∀ i, i < M.fns.n → TypeF M (M.F i)

theorem argsF_of {F : FV} (h : UseF F) : ArgsF F := fun j hj k hk i hi => by
 obtain ⟨h1, h2, _⟩ := h.2 j hj k hk i hi
 rw [typesL_length]
 unfold allV at h2
 omega

def FlowA (M : MV) : Prop := ∀ i, i < M.fns.n → FlowF (M.F i)

def UseA (M : MV) : Prop := ∀ i, i < M.fns.n → UseF (M.F i)

def TypeA (M : MV) : Prop := ∀ i, i < M.fns.n → TypeF M (M.F i)

open Classical in

noncomputable def errM (M : MV) : Int :=
 if ¬ LimM M then 2 else if ¬ FormM M then 1 else if ¬ NameM M then 3 else if ¬ SymM M then 4 else if ¬ FlowA M then 5 else if ¬ UseA M then 6 else if ¬ TypeA M then 7 else 0

theorem err_lim {M : MV} (h : ¬ LimM M) : errM M = 2 := by simp [errM, h]
theorem err_form {M : MV} (h1 : LimM M) (h : ¬ FormM M) : errM M = 1 := by simp [errM, h1, h]
theorem err_name {M : MV} (h1 : LimM M) (h2 : FormM M) (h : ¬ NameM M) : errM M = 3 := by simp [errM, h1, h2, h]
theorem err_sym {M : MV} (h1 : LimM M) (h2 : FormM M) (h3 : NameM M) (h : ¬ SymM M) : errM M = 4 := by simp [errM, h1, h2, h3, h]
theorem err_flow {M : MV} (h1 : LimM M) (h2 : FormM M) (h3 : NameM M) (h4 : SymM M) (h : ¬ FlowA M) : errM M = 5 := by simp [errM, h1, h2, h3, h4, h]
theorem err_use {M : MV} (h1 : LimM M) (h2 : FormM M) (h3 : NameM M) (h4 : SymM M) (h5 : FlowA M) (h : ¬ UseA M) : errM M = 6 := by simp [errM, h1, h2, h3, h4, h5, h]
theorem err_type {M : MV} (h1 : LimM M) (h2 : FormM M) (h3 : NameM M) (h4 : SymM M) (h5 : FlowA M) (h6 : UseA M) (h : ¬ TypeA M) : errM M = 7 := by simp [errM, h1, h2, h3, h4, h5, h6, h]
theorem err_ok {M : MV} (h : FitM M) : errM M = 0 := by
 have h1 := h.lim; have h2 := h.form; have h3 := h.name; have h4 := h.sym
 have h5 : FlowA M := h.flow; have h6 : UseA M := h.use; have h7 : TypeA M := h.type
 simp [errM, h1, h2, h3, h4, h5, h6, h7]

theorem fit_iff {M : MV} : errM M = 0 ↔ FitM M := by
 constructor
 ·intro h
  unfold errM at h
  by_cases h1 : LimM M
  ·by_cases h2 : FormM M
   ·by_cases h3 : NameM M
    ·by_cases h4 : SymM M
     ·by_cases h5 : FlowA M
      ·by_cases h6 : UseA M
       ·by_cases h7 : TypeA M
        ·exact ⟨h1, h2, h3, h4, h5, h6, h7⟩
        ·simp [h1, h2, h3, h4, h5, h6, h7] at h
       ·simp [h1, h2, h3, h4, h5, h6] at h
      ·simp [h1, h2, h3, h4, h5] at h
     ·simp [h1, h2, h3, h4] at h
    ·simp [h1, h2, h3] at h
   ·simp [h1, h2] at h
  ·simp [h1] at h
 ·exact err_ok

def ErrX (x : Int) (w : World) (e : Ending) (w' : World) : Prop := ∃ r : Int, e = .returned (.int .i64 r) ∧ r = x ∧ Below w.heap.size w w'

def Err (p : Prop) (w : World) (e : Ending) (w' : World) : Prop := ∃ r : Int, e = .returned (.int .i64 r) ∧ (r = 0 ↔ p) ∧ Below w.heap.size w w'

set_option maxRecDepth 10000 in
set_option maxHeartbeats 8000000 in
theorem check_exact (M : MV) (w : World) (hM : InM w M) (hs : SmallM M) : Calls Tryz.prog 23 #[M.val] w fun e w' => ErrX (errM M) w e w' := by
 have x4 := hs.fns
 obtain ⟨W, hW⟩ : ∃ W, w.alloc (.cells (mcells M) 27) = W := ⟨_, rfl⟩
 have LW := hid (show Below w.heap.size w W by rw [← hW]; exact new (same w) _)
 have MW := hid (show W.cell? ⟨w.heap.size, 0, none⟩ = some (.slice M.ext.a M.ext.n M.ext.c) ∧ W.cell? ⟨w.heap.size, 1, none⟩ = some (.slice M.glo.a M.glo.n M.glo.c) ∧ W.cell? ⟨w.heap.size, 2, none⟩ = some (.slice M.tab.a M.tab.n M.tab.c) ∧ W.cell? ⟨w.heap.size, 3, none⟩ = some (.slice M.fns.a M.fns.n M.fns.c) by
  rw [← hW]
  exact ⟨by simp, by simp, by simp, by simp⟩)
 have IM := hid (hM.on LW.out)
 have HS := hid hs
 have HWW := hid hW
 have S0 := hid (same W)
 clear hM hs hW
 go_enter Tryz.func23, Tryz.ntmps23
 go_wp2_with fail
 simp only [HWW.out]
 clear HWW
 obtain ⟨m0, m1, m2, m3⟩ := MW.out
 have m0 := cell_on S0.out m0
 have m1 := cell_on S0.out m1
 have m2 := cell_on S0.out m2
 have m3 := cell_on S0.out m3
 go_wp2_with fail
 refine (limits_any M _ (IM.out.on S0.out) HS.out).mono ?_
 rintro e w1 ⟨r1, rfl, hr1, hb1⟩
 have R1 := hid hr1
 have B1 := hid (View.more S0.out hb1)
 clear hr1 hb1 m0 m1 m2 m3
 cases r1 with
 | false =>
  have HN := hid (show errM M = 2 from err_lim (fun h => by have := R1.out.2 h; cases this))
  go_wp2_with fail
  go_ret
  exact ⟨_, rfl, HN.out.symm, View.more LW.out B1.out⟩
 | true =>
 have P1 := hid (R1.out.1 rfl)
 clear R1
 obtain ⟨m0, m1, m2, m3⟩ := MW.out
 have m0 := cell_on B1.out m0
 have m1 := cell_on B1.out m1
 have m2 := cell_on B1.out m2
 have m3 := cell_on B1.out m3
 go_wp2_with fail
 refine (forms_any M _ (IM.out.on B1.out) HS.out).mono ?_
 rintro e w2 ⟨r2, rfl, hr2, hb2⟩
 have R2 := hid hr2
 have B2 := hid (View.more B1.out hb2)
 clear hr2 hb2 m0 m1 m2 m3
 cases r2 with
 | false =>
  have HN := hid (show errM M = 1 from err_form P1.out (fun h => by have := R2.out.2 h; cases this))
  go_wp2_with fail
  go_ret
  exact ⟨_, rfl, HN.out.symm, View.more LW.out B2.out⟩
 | true =>
 have P2 := hid (R2.out.1 rfl)
 clear R2
 obtain ⟨m0, m1, m2, m3⟩ := MW.out
 have m0 := cell_on B2.out m0
 have m1 := cell_on B2.out m1
 have m2 := cell_on B2.out m2
 have m3 := cell_on B2.out m3
 go_wp2_with fail
 refine (names_any M _ (IM.out.on B2.out) HS.out).mono ?_
 rintro e w3 ⟨r3, rfl, hr3, hb3⟩
 have R3 := hid hr3
 have B3 := hid (View.more B2.out hb3)
 clear hr3 hb3 m0 m1 m2 m3
 cases r3 with
 | false =>
  have HN := hid (show errM M = 3 from err_name P1.out P2.out (fun h => by have := R3.out.2 h; cases this))
  go_wp2_with fail
  go_ret
  exact ⟨_, rfl, HN.out.symm, View.more LW.out B3.out⟩
 | true =>
 have P3 := hid (R3.out.1 rfl)
 clear R3
 obtain ⟨m0, m1, m2, m3⟩ := MW.out
 have m0 := cell_on B3.out m0
 have m1 := cell_on B3.out m1
 have m2 := cell_on B3.out m2
 have m3 := cell_on B3.out m3
 go_wp2_with fail
 refine (syms_any M _ (IM.out.on B3.out) HS.out).mono ?_
 rintro e w4 ⟨r4, rfl, hr4, hb4⟩
 have R4 := hid hr4
 have B4 := hid (View.more B3.out hb4)
 clear hr4 hb4 m0 m1 m2 m3
 cases r4 with
 | false =>
  have HN := hid (show errM M = 4 from err_sym P1.out P2.out P3.out (fun h => by have := R4.out.2 h; cases this))
  go_wp2_with fail
  go_ret
  exact ⟨_, rfl, HN.out.symm, View.more LW.out B4.out⟩
 | true =>
 have P4 := hid (R4.out.1 rfl)
 clear R4
 go_wp2_with fail
 go_loopw [3] (fun iv wr => ∃ i_ : Nat, i_ ≤ M.fns.n ∧ iv = .int .i64 i_ ∧ (∀ i, i < i_ → FlowF (M.F i)) ∧ Below W.heap.size W wr) (fun iv _ => M.fns.n - (intOf iv).toNat)
 case atStart => exact ⟨0, Nat.zero_le _, rfl, fun t ht => by omega, B4.out⟩
 case round =>
  obtain ⟨i, hi, rfl, hall, hb⟩ := hrel
  have HA := hid (And.intro hall hb)
  obtain ⟨m0, m1, m2, m3⟩ := MW.out
  have m0 := cell_on hb m0
  have m1 := cell_on hb m1
  have m2 := cell_on hb m2
  have m3 := cell_on hb m3
  by_cases li : i < M.fns.n
  ·obtain ⟨b, o, hix, c0, c1, c2, c3, c4⟩ := (IM.out.on hb).fns.at underlying25 size36 li
   have HZ := same wr
   have CL := hid (flows_any (M.F i) _ (((IM.out.on hb).fnI i li).on HZ) (HS.out.light i li) (P2.out.fns i li))
   clear hall hb
   go_wp2_with fail
   refine CL.out.mono ?_
   rintro e w9 ⟨r, rfl, hr, hb9⟩
   have HR := hid hr
   have B9 := hid (View.more HA.out.2 hb9)
   clear hr hb9 c0 c1 c2 c3 c4 m0 m1 m2 m3
   cases r with
   | false =>
    have HN := hid (show errM M = 5 from err_flow P1.out P2.out P3.out P4.out (fun h => by have := HR.out.2 (h i li); cases this))
    go_wp2_with fail
    go_ret
    exact ⟨_, rfl, HN.out.symm, View.more LW.out B9.out⟩
   | true =>
    have HP := hid (HR.out.1 rfl)
    go_wp2_with fail
    go_round
    case rel =>
     have f := upto1 HA.out.1 HP.out
     first
      | exact ⟨i + 1, by omega, by go_num, f, B9.out⟩
      | ((repeat apply Exists.intro); exact ⟨⟨i + 1, by omega, by go_num, f, B9.out⟩, rfl⟩)
    case measure => simp [intOf]; omega
  ·obtain rfl : i = M.fns.n := by omega
   have Q1 := hid hall
   have BQ1 := hid hb
   clear hall hb HA
   go_wp2_with fail
   clear m0 m1 m2 m3
   go_loopw [4] (fun iv wr => ∃ i_ : Nat, i_ ≤ M.fns.n ∧ iv = .int .i64 i_ ∧ (∀ i, i < i_ → UseF (M.F i)) ∧ Below W.heap.size W wr) (fun iv _ => M.fns.n - (intOf iv).toNat)
   case atStart => exact ⟨0, Nat.zero_le _, rfl, fun t ht => by omega, BQ1.out⟩
   case round =>
    obtain ⟨i, hi, rfl, hall, hb⟩ := hrel
    have HA := hid (And.intro hall hb)
    obtain ⟨m0, m1, m2, m3⟩ := MW.out
    have m0 := cell_on hb m0
    have m1 := cell_on hb m1
    have m2 := cell_on hb m2
    have m3 := cell_on hb m3
    by_cases li : i < M.fns.n
    ·obtain ⟨b, o, hix, c0, c1, c2, c3, c4⟩ := (IM.out.on hb).fns.at underlying25 size36 li
     have HZ := same wr
     have CL := hid (uses_any (M.F i) _ (((IM.out.on hb).fnI i li).on HZ) (HS.out.light i li) (P2.out.fns i li) (Q1.out i li))
     clear hall hb
     go_wp2_with fail
     refine CL.out.mono ?_
     rintro e w9 ⟨r, rfl, hr, hb9⟩
     have HR := hid hr
     have B9 := hid (View.more HA.out.2 hb9)
     clear hr hb9 c0 c1 c2 c3 c4 m0 m1 m2 m3
     cases r with
     | false =>
      have HN := hid (show errM M = 6 from err_use P1.out P2.out P3.out P4.out Q1.out (fun h => by have := HR.out.2 (h i li); cases this))
      go_wp2_with fail
      go_ret
      exact ⟨_, rfl, HN.out.symm, View.more LW.out B9.out⟩
     | true =>
      have HP := hid (HR.out.1 rfl)
      go_wp2_with fail
      go_round
      case rel =>
       have f := upto1 HA.out.1 HP.out
       first
        | exact ⟨i + 1, by omega, by go_num, f, B9.out⟩
        | ((repeat apply Exists.intro); exact ⟨⟨i + 1, by omega, by go_num, f, B9.out⟩, rfl⟩)
      case measure => simp [intOf]; omega
    ·obtain rfl : i = M.fns.n := by omega
     have Q2 := hid hall
     have BQ2 := hid hb
     clear hall hb HA
     go_wp2_with fail
     clear m0 m1 m2 m3
     go_loopw [5] (fun iv wr => ∃ i_ : Nat, i_ ≤ M.fns.n ∧ iv = .int .i64 i_ ∧ (∀ i, i < i_ → TypeF M (M.F i)) ∧ Below W.heap.size W wr) (fun iv _ => M.fns.n - (intOf iv).toNat)
     case atStart => exact ⟨0, Nat.zero_le _, rfl, fun t ht => by omega, BQ2.out⟩
     case round =>
      obtain ⟨i, hi, rfl, hall, hb⟩ := hrel
      have HA := hid (And.intro hall hb)
      by_cases li : i < M.fns.n
      ·obtain ⟨b, o, hix, fat⟩ := IM.out.fns.at underlying25 size36 li
       have cc : ∀ wx, Below W.heap.size W wx → (wx.cell? ⟨w.heap.size, 0, none⟩ = some (.slice M.ext.a M.ext.n M.ext.c) ∧ wx.cell? ⟨w.heap.size, 1, none⟩ = some (.slice M.glo.a M.glo.n M.glo.c) ∧ wx.cell? ⟨w.heap.size, 2, none⟩ = some (.slice M.tab.a M.tab.n M.tab.c) ∧ wx.cell? ⟨w.heap.size, 3, none⟩ = some (.slice M.fns.a M.fns.n M.fns.c)) := fun wx h => ⟨cell_on h MW.out.1, cell_on h MW.out.2.1, cell_on h MW.out.2.2.1, cell_on h MW.out.2.2.2⟩
       have k0 := fun wx h => (cc wx h).1
       have k1 := fun wx h => (cc wx h).2.1
       have k2 := fun wx h => (cc wx h).2.2.1
       have k3 := fun wx h => (cc wx h).2.2.2
       have k4 : ∀ wx, Below W.heap.size W wx → wx.cell? ⟨b, o, none⟩ = some (.string (M.F i).name) := fun wx h => (fat.on h).c0
       have k5 : ∀ wx, Below W.heap.size W wx → wx.cell? ⟨b, o + 1, none⟩ = some (.bool (M.F i).out) := fun wx h => (fat.on h).c1
       have k6 : ∀ wx, Below W.heap.size W wx → wx.cell? ⟨b, o + 2, none⟩ = some (.slice (M.F i).par.a (M.F i).par.n (M.F i).par.c) := fun wx h => (fat.on h).c2
       have k7 : ∀ wx, Below W.heap.size W wx → wx.cell? ⟨b, o + 3, none⟩ = some (.int .i64 (M.F i).res) := fun wx h => (fat.on h).c3
       have k8 : ∀ wx, Below W.heap.size W wx → wx.cell? ⟨b, o + 4, none⟩ = some (.slice (M.F i).blk.a (M.F i).blk.n (M.F i).blk.c) := fun wx h => (fat.on h).c4
       have m3 := k3 _ hb
       have st0 : Below W.heap.size W wr.drew := Below.drew hb
       clear hall hb cc fat
       go_wp2_with fail
       clear m3
       go_region_held3 (fun wx => Below W.heap.size W wx) (first | exact st0 | exact st1)
        (first
         | (go_at_call 60; refine (types_any M (M.F i) _ (IM.out.on (by assumption)) HS.out ((IM.out.on (by assumption)).fnI i li) (HS.out.light i li) (P2.out.fns i li) (fun j hj k hk => P4.out.ins i li j hj k hk) (argsF_of (Q2.out i li))).mono ?_; rintro e w9 ⟨r, rfl, hr, hb9⟩; have HR := hid hr; have st1 : Below W.heap.size W w9 := View.more (by assumption) hb9; clear hr hb9))
       have B9 := hid st1
       clear k0 k1 k2 k3 k4 k5 k6 k7 k8 st0 st1
       cases r with
       | false =>
        have HN := hid (show errM M = 7 from err_type P1.out P2.out P3.out P4.out Q1.out Q2.out (fun h => by have := HR.out.2 (h i li); cases this))
        go_wp2_with fail
        go_ret
        exact ⟨_, rfl, HN.out.symm, View.more LW.out B9.out⟩
       | true =>
        have HP := hid (HR.out.1 rfl)
        go_wp2_with fail
        go_round
        case rel =>
         have f := upto1 HA.out.1 HP.out
         first
          | exact ⟨i + 1, by omega, by go_num, f, B9.out⟩
          | ((repeat apply Exists.intro); exact ⟨⟨i + 1, by omega, by go_num, f, B9.out⟩, rfl⟩)
        case measure => simp [intOf]; omega
      ·obtain rfl : i = M.fns.n := by omega
       have Q3 := hid hall
       have BQ3 := hid hb
       have m3 := cell_on hb MW.out.2.2.2
       clear hall hb HA
       go_wp2_with fail
       go_ret
       exact ⟨_, rfl, (err_ok ⟨P1.out, P2.out, P3.out, P4.out, Q1.out, Q2.out, Q3.out⟩).symm, View.more LW.out BQ3.out⟩

theorem check_any (M : MV) (w : World) (hM : InM w M) (hs : SmallM M) : Calls Tryz.prog 23 #[M.val] w fun e w' => Err (FitM M) w e w' := by
 refine (check_exact M w hM hs).mono ?_
 rintro e w1 ⟨r, rfl, hr, hb⟩
 exact ⟨r, rfl, by rw [hr]; exact fit_iff, hb⟩

end Go.Proofs.YtolipafcoolpgaaGreat.Chk

/-
  The example of chapters 4 and 5: the function, as it lies in memory.
-/
namespace Go.Proofs.YtolipafcoolpgaaGreat.Flo
open Go.RowKit View Rd Copy Num Ty Srt

set_option linter.unusedVariables false

theorem lit1 (w : World) (x : Int) (f : Nat → Int) (hf : f 0 = x) (N : Nat) (hN : w.heap.size = N) : Ints (w.alloc (.cells #[.int .i64 x] 3)) ⟨some ⟨N, 0, none⟩, 1, 1⟩ f := by
 subst hN
 refine ⟨Nat.le_refl _, by show 1 ≤ _; omega, fun h => by simp at h, fun _ => ⟨w.heap.size, 0, rfl, fun i hi => ?_⟩⟩
 obtain rfl : i = 0 := by simp at hi; omega
 simp [hf]

theorem lit2 (w : World) (x y : Int) (f : Nat → Int) (hx : f 0 = x) (hy : f 1 = y) (N : Nat) (hN : w.heap.size = N) : Ints (w.alloc (.cells #[.int .i64 x, .int .i64 y] 3)) ⟨some ⟨N, 0, none⟩, 2, 2⟩ f := by
 subst hN
 refine ⟨Nat.le_refl _, by show 2 ≤ _; omega, fun h => by simp at h, fun _ => ⟨w.heap.size, 0, rfl, fun i hi => ?_⟩⟩
 have : i = 0 ∨ i = 1 := by simp at hi; omega
 rcases this with rfl | rfl <;> simp [hx, hy]

theorem litN (w : World) (f : Nat → Int) : Ints w ⟨none, 0, 0⟩ f := ⟨Nat.le_refl _, Nat.zero_le _, fun _ => rfl, fun h => absurd h (by simp)⟩

end Go.Proofs.YtolipafcoolpgaaGreat.Flo

/-
  wf: the modules of chapter 6's examples, plainly: the empty one, one function of one block of one Ins.
-/
namespace Go.Proofs.YtolipafcoolpgaaGreat.Wf
open Go.RowKit View Rd Num Opn Copy Srt Go.Proofs.YtolipafcoolpgaaGreat.Mod Chk Flo

set_option linter.unusedVariables false

abbrev oneF (b r : Nat) (v : IV) (J : Nat → Int) : FV where
 name := ⟨#[102]⟩
 out := false
 par := ⟨none, 0, 0⟩
 res := 0
 blk := ⟨some ⟨b, 0, none⟩, 1, 1⟩
 P := fun _ => 0
 B := fun _ => ⟨some ⟨r, 0, none⟩, 1, 1⟩
 I := fun _ _ => v
 A := fun _ _ _ => 0
 J := fun _ _ => J

abbrev oneM (m : Nat) (F : FV) : MV where
 ext := ⟨none, 0, 0⟩
 glo := ⟨none, 0, 0⟩
 tab := ⟨none, 0, 0⟩
 fns := ⟨some ⟨m, 0, none⟩, 1, 1⟩
 E := fun _ => default
 EP := fun _ _ => 0
 G := fun _ => default
 GC := fun _ _ => 0
 T := fun _ => default
 TF := fun _ _ => 0
 F := fun _ => F

abbrev noM : MV where
 ext := ⟨none, 0, 0⟩
 glo := ⟨none, 0, 0⟩
 tab := ⟨none, 0, 0⟩
 fns := ⟨none, 0, 0⟩
 E := fun _ => default
 EP := fun _ _ => 0
 G := fun _ => default
 GC := fun _ _ => 0
 T := fun _ => default
 TF := fun _ _ => 0
 F := fun _ => default

abbrev retI : IV := ⟨29, 0, 0, 0, 0, ⟨none, 0, 0⟩, ⟨none, 0, 0⟩⟩
abbrev jumpI (a : Nat) : IV := ⟨27, 0, 0, 0, 0, ⟨none, 0, 0⟩, ⟨some ⟨a, 0, none⟩, 1, 1⟩⟩

theorem light_one (b r : Nat) (v : IV) (J : Nat → Int) (h1 : v.args.n ≤ 20) (h2 : v.into.n ≤ 20) : Light (oneF b r v J) :=
 ⟨show 0 + 1 ≤ 400 by decide, show (1 : Nat) ≤ 40 by decide, show 0 ≤ 8 by decide, show 1 ≤ 48 by decide, fun j hj => show 1 ≤ 400 by decide, fun j hj k hk => h1, fun j hj k hk => h2⟩

theorem small_one (m b r : Nat) (v : IV) (J : Nat → Int) (h1 : v.args.n ≤ 20) (h2 : v.into.n ≤ 20) : SmallM (oneM m (oneF b r v J)) :=
 ⟨show 0 ≤ 14 by decide, show 0 ≤ 14 by decide, show 0 ≤ 8 by decide, show 1 ≤ 26 by decide, fun i hi => absurd (show i < 0 from hi) (by omega), fun i hi => absurd (show i < 0 from hi) (by omega), fun i hi => absurd (show i < 0 from hi) (by omega), fun k hk => light_one b r v J h1 h2, show 0 + (0 + 1) ≤ 400 by decide⟩

theorem small_no : SmallM noM :=
 ⟨show 0 ≤ 14 by decide, show 0 ≤ 14 by decide, show 0 ≤ 8 by decide, show 0 ≤ 26 by decide, fun i hi => absurd (show i < 0 from hi) (by omega), fun i hi => absurd (show i < 0 from hi) (by omega), fun i hi => absurd (show i < 0 from hi) (by omega), fun i hi => absurd (show i < 0 from hi) (by omega), show 0 ≤ 400 by decide⟩

theorem fit_no : FitM noM where
 lim := ⟨show 0 ≤ 24 by decide, show 0 ≤ 12 by decide, show 0 ≤ 12 by decide, show 0 ≤ 6 by decide, fun i hi => absurd (show i < 0 from hi) (by omega), fun i hi => absurd (show i < 0 from hi) (by omega), fun i hi => absurd (show i < 0 from hi) (by omega), fun i hi => absurd (show i < 0 from hi) (by omega)⟩
 form := ⟨fun i hi => absurd (show i < 0 from hi) (by omega), fun i hi => absurd (show i < 0 from hi) (by omega)⟩
 name := by
  have e : namesF noM noM.fns.n = [] := rfl
  unfold NameM Chk.Good
  rw [e]
  exact ⟨fun s h => by simp at h, by simp⟩
 sym := ⟨fun i hi => absurd (show i < 0 from hi) (by omega), fun i hi => absurd (show i < 0 from hi) (by omega)⟩
 flow := fun i hi => absurd (show i < 0 from hi) (by omega)
 use := fun i hi => absurd (show i < 0 from hi) (by omega)
 type := fun i hi => absurd (show i < 0 from hi) (by omega)

theorem lim_one (m b r : Nat) (v : IV) (J : Nat → Int) : LimM (oneM m (oneF b r v J)) :=
 ⟨show 1 ≤ 24 by decide, show 0 ≤ 12 by decide, show 0 ≤ 12 by decide, show 0 ≤ 6 by decide, fun i hi => absurd (show i < 0 from hi) (by omega), fun i hi => absurd (show i < 0 from hi) (by omega), fun i hi => absurd (show i < 0 from hi) (by omega), fun i hi => ⟨show 0 ≤ 5 by decide, show 1 ≤ 1 by decide, show 1 ≤ 40 by decide, show 0 + 1 ≤ 300 by decide⟩⟩

theorem form_one (m b r : Nat) (v : IV) (J : Nat → Int) (h : formB v = true) : FormM (oneM m (oneF b r v J)) :=
 ⟨fun i hi => absurd (show i < 0 from hi) (by omega), fun i hi => ⟨⟨show (0 : Int) ≤ 0 by decide, show (0 : Int) ≤ 4 by decide, show (0 : Int) ≠ 3 by decide, fun h => by cases h⟩, fun k hk => absurd (show k < 0 from hk) (by omega), fun j hj k hk => h⟩⟩

theorem name_f : NameOk ⟨#[102]⟩ := by
 refine ⟨by decide, by decide, by decide +kernel, by decide +kernel, fun i hi => ?_⟩
 have hi' : i < 1 := hi
 obtain rfl : i = 0 := by omega
 decide +kernel

theorem name_one (m b r : Nat) (v : IV) (J : Nat → Int) : NameM (oneM m (oneF b r v J)) := by
 have e : namesF (oneM m (oneF b r v J)) (oneM m (oneF b r v J)).fns.n = [⟨#[102]⟩] := rfl
 unfold NameM Chk.Good
 rw [e]
 refine ⟨fun s h => ?_, by simp⟩
 rw [List.mem_singleton.1 h]
 exact name_f

theorem sym_one (m b r : Nat) (v : IV) (J : Nat → Int) (h0 : v.sym = 0) (h : v.op = 27 ∨ v.op = 29) : SymM (oneM m (oneF b r v J)) :=
 ⟨fun i hi => absurd (show i < 0 from hi) (by omega), fun i hi j hj k hk => by
  show SymI _ v
  unfold SymI symN
  rcases h with h | h <;> rw [h, h0] <;> simp⟩

theorem fit_ret (m b r : Nat) (J : Nat → Int) : FitM (oneM m (oneF b r retI J)) where
 lim := lim_one _ _ _ _ _
 form := form_one _ _ _ _ _ (by decide)
 name := name_one _ _ _ _ _
 sym := sym_one _ _ _ _ _ rfl (.inr rfl)
 flow := fun i hi => by
  refine ⟨fun a ha => ⟨show 1 ≤ 1 by decide, fun k hk => ⟨?_, ?_⟩, fun i hi => absurd (show i < 0 from hi) (by omega), fun h => absurd (show (29 : Int) = 28 from h) (by decide)⟩, fun a ha => ⟨?_, fun k hk h => absurd (show (29 : Int) = 26 from h) (by decide)⟩⟩
  ·have hk' : k < 1 := hk
   obtain rfl : k = 0 := by omega
   show endB 29 = decide (0 = 1 - 1)
   simp [endB]
  ·rintro ⟨_, h, _⟩
   exact absurd (show (29 : Int) = 26 from h) (by decide)
  ·have ha' : a < 1 := ha
   obtain rfl : a = 0 := by omega
   exact .refl 0
 use := fun i hi => ⟨fun a ha k hk h => absurd (show (0 : Int) = 0 from rfl) h, fun a ha k hk i hi => absurd (show i < 0 from hi) (by omega)⟩
 type := fun i hi j hj k hk => by
  show FitI _ _ retI 0 _
  simp [FitI]

theorem err_jump (m b r a : Nat) : errM (oneM m (oneF b r (jumpI a) (fun _ => 0))) = 5 := by
 refine err_flow (lim_one _ _ _ _ _) (form_one _ _ _ _ _ (by simp [formB, mk, swB, endB])) (name_one _ _ _ _ _) (sym_one _ _ _ _ _ rfl (.inl rfl)) (fun h => ?_)
 have h1 := ((h 0 (show 0 < 1 by decide)).1 0 (show 0 < 1 by decide)).2.2.1 0 (show 0 < 1 by decide)
 exact absurd (show (1 : Int) ≤ 0 from h1.1) (by decide)

theorem jng_one {m b r : Nat} {v : IV} : ∀ i, i < (oneM m (oneF b r v (fun _ => 0))).fns.n → Jng ((oneM m (oneF b r v (fun _ => 0))).F i) :=
 fun i hi j hj k hk t ht => by show W64 0; constructor <;> decide

theorem in_one {w : World} {b r : Nat} {v : IV} {J : Nat → Int} (hb : Sls w ⟨some ⟨b, 0, none⟩, 1, 1⟩ (fun _ => ⟨some ⟨r, 0, none⟩, 1, 1⟩)) (hr : Inss w ⟨some ⟨r, 0, none⟩, 1, 1⟩ (fun _ => v)) (ha : Ints w v.args (fun _ => 0)) (hj : Ints w v.into J) : In w (oneF b r v J) :=
 ⟨litN _ _, hb, fun j hj => hr, fun j hj' k hk => ha, fun j hj' k hk => hj⟩

theorem row_no {α : Type} {z : Nat} {p : World → Nat → Nat → α → Prop} {w : World} {f : Nat → α} : Row z p w ⟨none, 0, 0⟩ f := ⟨Nat.le_refl _, Nat.zero_le _, fun _ => rfl, fun h => absurd h (by simp)⟩

theorem inM_one {w : World} {m : Nat} {F : FV} (hr : Row 5 FAt w ⟨some ⟨m, 0, none⟩, 1, 1⟩ (fun _ => F)) (hF : In w F) : InM w (oneM m F) :=
 ⟨row_no, fun i hi => absurd (show i < 0 from hi) (by omega), row_no, fun i hi => absurd (show i < 0 from hi) (by omega), row_no, fun i hi => absurd (show i < 0 from hi) (by omega), hr, fun k hk => hF⟩

theorem inM_no {w : World} : InM w noM :=
 ⟨row_no, fun i hi => absurd (show i < 0 from hi) (by omega), row_no, fun i hi => absurd (show i < 0 from hi) (by omega), row_no, fun i hi => absurd (show i < 0 from hi) (by omega), row_no, fun i hi => absurd (show i < 0 from hi) (by omega)⟩

theorem lit_ins (w : World) (v : IV) (N : Nat) (hN : w.heap.size = N) : Inss (w.alloc (.cells v.cells 43)) ⟨some ⟨N, 0, none⟩, 1, 1⟩ (fun _ => v) := by
 subst hN
 refine ⟨Nat.le_refl _, by show 1 ≤ _; omega, fun h => by simp at h, fun _ => ⟨w.heap.size, 0, rfl, fun i hi => ?_⟩⟩
 obtain rfl : i = 0 := by simp at hi; omega
 exact InsAt.alloc w v

theorem lit_blk (w : World) (s : Sl) (N : Nat) (hN : w.heap.size = N) : Sls (w.alloc (.cells #[.slice s.a s.n s.c] 40)) ⟨some ⟨N, 0, none⟩, 1, 1⟩ (fun _ => s) := by
 subst hN
 refine ⟨Nat.le_refl _, by show 1 ≤ _; omega, fun h => by simp at h, fun _ => ⟨w.heap.size, 0, rfl, fun i hi => ?_⟩⟩
 obtain rfl : i = 0 := by simp at hi; omega
 simp

theorem lit_fn (w : World) (F : FV) (N : Nat) (hN : w.heap.size = N) : Row 5 FAt (w.alloc (.cells (fcells F) 36)) ⟨some ⟨N, 0, none⟩, 1, 1⟩ (fun _ => F) := by
 subst hN
 refine ⟨Nat.le_refl _, by show 1 ≤ _; omega, fun h => by simp at h, fun _ => ⟨w.heap.size, 0, rfl, fun i hi => ?_⟩⟩
 obtain rfl : i = 0 := by simp at hi; omega
 exact ⟨by simp, by simp, by simp, by simp, by simp⟩

end Go.Proofs.YtolipafcoolpgaaGreat.Wf
