/-
  ChkO, ChkQ, ChkAll: laid together.
-/
import Derived.Test.YtclioagemjpnoaaJ5
import Derived.Maps.OwnSet
import Derived.Maps.OwnOps
import Derived.Test.YtclioagemjpnoaaChkZ
import Derived.Test.YtclioagemjpnoaaChkL
import Derived.Test.YtclioagemjpnoaaChkS
import Derived.Deep.RegionHeld3
/-
  Names that stand once, by the document: plnref3.one, names.
-/
namespace Go.Proofs.Ytclioagemjpnoaa.Chk
open Go.RowKit View Rd Num Opn Copy Go.Proofs.Ytclioagemjpnoaa.Mod
open Go.Maps (Keyed string_keyed)

set_option linter.unusedVariables false

theorem underlying9 : Try.prog.underlying 9 = some .string := by kernel_rfl
theorem underlying122 : Try.prog.underlying 122 = some (.map 9 3) := by kernel_rfl
theorem law9 : Keyed Try.prog 9 := string_keyed underlying9

/-- Block B is a map of at most n entries that counts: m. -/
def SMap (w : World) (B n : Nat) (m : List UInt8 → Nat) : Prop :=
  ∃ D : DataW Unit, w.ownsMap Try.prog 9 (plainElem Try.prog 3) B n D ∧ ∀ l, D.atKey (.string l) (.lit (.int .i64 0)) = .lit (.int .i64 (m l))

theorem SMap.at_block {w w' : World} {B n : Nat} {m : List UInt8 → Nat} (h : SMap w B n m) (e : w'.heap[B]? = w.heap[B]?) : SMap w' B n m := by
  obtain ⟨D, ⟨es, clock, hb, hr⟩, hv⟩ := h
  exact ⟨D, ⟨es, clock, by rw [e]; exact hb, hr⟩, hv⟩

theorem SMap.lt {w : World} {B n : Nat} {m : List UInt8 → Nat} (h : SMap w B n m) : B < w.heap.size := by
  obtain ⟨D, ⟨es, clock, hb, hr⟩, hv⟩ := h
  exact (Array.getElem?_eq_some_iff.1 hb).1

theorem SMap.on {w w' : World} {B n : Nat} {m : List UInt8 → Nat} (hb : Below w.heap.size w w') (h : SMap w B n m) : SMap w' B n m := h.at_block (hb.block B h.lt)

theorem SMap.congr {w : World} {B n : Nat} {m m' : List UInt8 → Nat} (h : SMap w B n m) (e : ∀ l, m l = m' l) : SMap w B n m' := by
  obtain ⟨D, ho, hv⟩ := h
  exact ⟨D, ho, fun l => by rw [← e l]; exact hv l⟩

theorem SMap.made (w : World) : SMap (w.alloc (.map #[] 0)) w.heap.size 0 (fun _ => 0) := ⟨.map [], World.ownsMap_made _ _ _ _, fun l => rfl⟩

theorem key9 {s : ByteArray} (hs : s.size ≤ 40) : keyOf Try.prog 9 (.string s) = some (.string s.data.toList) := WideMaps.keyOf_string_mk underlying9 (by unfold maxLen; omega)

theorem SMap.look {w : World} {B n : Nat} {m : List UInt8 → Nat} (h : SMap w B n m) {s : ByteArray} (hs : s.size ≤ 40) : (Instr.lookup 122 (.map (some B)) (.string s) false).run Try.prog w = .ok (.int .i64 (m s.data.toList)) w := by
  obtain ⟨D, ho, hm⟩ := h
  obtain ⟨c, hrun, hat, _⟩ := ho.lookup_int law9 underlying122 underlying3 (zero3 w) (key9 hs)
  rw [hm] at hat
  simp at hat
  rw [hat]; exact hrun

theorem wpList_count {ops : Array Oper} {rest : List Oper} {o : Oper} {a : Act} {Q : Exit → Act → World → Prop} {w : World} (hg : o.guard = none) (mo x y : Operand) (hop : o.op = Op.mapUpdate 122 mo x y)
    (B n : Nat) (m : List UInt8 → Nat) (hm : a.eval mo = .map (some B)) (h : SMap w B n m) (hn : n ≤ 1000000) (s : ByteArray) (u : Nat) (ui : Int) (hui : ui = u) (hx : a.eval x = .string s) (hy : a.eval y = .int .i64 ui) (hs : s.size ≤ 40) (hu : u ≤ 1000000)
    (hK : ∀ w', SMap w' B (n + 1) (fun l => if l = s.data.toList then u else m l) → w.grownBy w' (some B) → wpList Try.prog ops Q rest (a.put o.dst undef) w') :
    wpList Try.prog ops Q (o :: rest) a w := by
  subst hui
  obtain ⟨D, ho, hD⟩ := h
  refine wpList_mapUpdate_own w hg mo x y 122 hop 9 3 law9 underlying122 _ B n D hm ho (by unfold maxLen; omega) _ _ _ hx hy (key9 hs) _ [] (plainElem_int underlying3 (wf64 ⟨by omega, by omega⟩)) ?_
  intro w' hown hgr
  refine hK w' ⟨_, hown, fun l => ?_⟩ hgr
  have hmap : Maps.IsMap D := by obtain ⟨_, _, _, _, _, e⟩ := ho; exact ⟨_, e⟩
  by_cases e : l = s.data.toList
  · subst e
    dsimp only
    rw [if_pos rfl]
    have hk : WideAt.IsKeyLit (.string s.data.toList) := by simp [WideAt.IsKeyLit]
    exact Maps.atKey_put_same hmap hk _ _
  · have hne : (Lit.string l) ≠ .string s.data.toList := fun h => e (by simpa using h)
    dsimp only
    rw [if_neg e, Maps.atKey_put_other hne]
    exact hD l

/-- What one gives, and leaves. -/
def OneIs (B n : Nat) (m : List UInt8 → Nat) (s : ByteArray) (w : World) (e : Ending) (w' : World) : Prop :=
  ∃ r : Nat, e = .returned (.int .i64 r) ∧ (r = 0 ∨ r = 1) ∧ (r = 0 ↔ NameOk s ∧ m s.data.toList = 0) ∧ SMap w' B (n + 1) (fun l => if l = s.data.toList then m l + 1 else m l) ∧ w.grownBy w' (some B)

set_option maxHeartbeats 1000000 in
theorem one_any (B n : Nat) (m : List UInt8 → Nat) (s : ByteArray) (w : World) (h : SMap w B n m) (hn : n ≤ 1000) (hm : m s.data.toList ≤ 1000) (hs : s.size ≤ 40) :
    Calls Try.prog 99 #[.map (some B), .string s] w fun e w' => OneIs B n m s w e w' := by
  have lk := h.look hs
  have H := hid h
  obtain ⟨c, hc⟩ : ∃ c, m s.data.toList = c := ⟨_, rfl⟩
  rw [hc] at lk hm
  have HC := hid hc
  clear h hc
  go_enter Try.func99, Try.ntmps99
  go_wp2_with (at_mapUpdate; refine wpList_count rfl (.tmp 5) (.tmp 6) (.tmp 8) rfl B n m rfl H.out (by omega) s (c + 1) ((c : Int) + 1) (by simp) rfl rfl hs (by omega) ?_; intro w1 hs1 hg1)
  have HS1 := hid (hs1.congr (m' := fun l => if l = s.data.toList then m l + 1 else m l) (fun l => by
    by_cases e : l = s.data.toList
    · rw [if_pos e, if_pos e, e, HC.out]
    · rw [if_neg e, if_neg e]))
  have HG1 := hid hg1
  have lk1 := hs1.look hs
  simp only [if_true] at lk1
  clear hs1 hg1 lk
  refine (name_any s _ hs).mono ?_
  rintro e w2 ⟨r, rfl, hr, rfl⟩
  have HR := hid hr
  clear hr
  cases r with
  | false =>
    go_wp2_with fail
    go_ret
    exact ⟨1, rfl, .inr rfl, by have := HR.out; simp at this ⊢; exact fun h => absurd h this, HS1.out, HG1.out⟩
  | true =>
    have hok : NameOk s := HR.out.1 rfl
    have HK := hid hok
    clear hok
    by_cases h0 : c = 0
    · have t1 : decide ((1 : Int) < ((c + 1 : Nat) : Int)) = false := by simp; omega
      have t1' : decide ((1 : Int) < (c : Int) + 1) = false := by simp; omega
      have H0 := hid h0
      clear h0
      go_wp2_with fail
      go_ret
      exact ⟨0, rfl, .inl rfl, by simp; exact ⟨HK.out, by rw [HC.out]; exact H0.out⟩, HS1.out, HG1.out⟩
    · have t1 : decide ((1 : Int) < ((c + 1 : Nat) : Int)) = true := by simp; omega
      have t1' : decide ((1 : Int) < (c : Int) + 1) = true := by simp; omega
      have H0 := hid h0
      clear h0
      go_wp2_with fail
      go_ret
      exact ⟨1, rfl, .inr rfl, by simp; intro _; rw [HC.out]; exact H0.out, HS1.out, HG1.out⟩

end Go.Proofs.Ytclioagemjpnoaa.Chk

/-
  Names that stand once, by the document: plnref3.names.
-/
namespace Go.Proofs.Ytclioagemjpnoaa.Chk
open Go.RowKit View Rd Num Opn Copy Go.Proofs.Ytclioagemjpnoaa.Mod

set_option linter.unusedVariables false

abbrev bytesOf (s : ByteArray) : List UInt8 := s.data.toList

/-- Names that may be, none twice. -/
def Good (L : List ByteArray) : Prop := (∀ s ∈ L, NameOk s) ∧ (L.map bytesOf).Nodup

structure Nm (w : World) (B : Nat) (L : List ByteArray) (t : Nat) : Prop where
  map : SMap w B L.length (fun l => (L.map bytesOf).count l)
  le : t ≤ L.length
  good : t = 0 ↔ Good L

theorem good_snoc {L : List ByteArray} {s : ByteArray} : Good (L ++ [s]) ↔ Good L ∧ NameOk s ∧ (L.map bytesOf).count (bytesOf s) = 0 := by
  unfold Good
  rw [List.map_append, List.count_eq_zero]
  simp only [List.map_cons, List.map_nil, List.mem_append, List.mem_singleton]
  constructor
  · rintro ⟨h1, h2⟩
    rw [List.nodup_append] at h2
    refine ⟨⟨fun x hx => h1 x (.inl hx), h2.1⟩, h1 s (.inr rfl), fun hm => ?_⟩
    exact h2.2.2 _ hm _ (by simp) rfl
  · rintro ⟨⟨h1, h2⟩, h3, h4⟩
    refine ⟨fun x hx => ?_, ?_⟩
    · rcases hx with hx | rfl
      · exact h1 x hx
      · exact h3
    · rw [List.nodup_append]
      refine ⟨h2, by simp, fun a ha b hb e => ?_⟩
      simp at hb
      subst hb
      subst e
      exact h4 ha

theorem Nm.step {w w' : World} {B t : Nat} {L : List ByteArray} {s : ByteArray} (h : Nm w B L t) {r : Nat} (hr : r = 0 ∨ r = 1) (hz : r = 0 ↔ NameOk s ∧ (L.map bytesOf).count (bytesOf s) = 0) (hm : SMap w' B (L.length + 1) (fun l => if l = bytesOf s then (L.map bytesOf).count l + 1 else (L.map bytesOf).count l)) : Nm w' B (L ++ [s]) (t + r) := by
  refine ⟨?_, by simp; have := h.le; omega, ?_⟩
  · rw [List.length_append, List.length_singleton]
    refine hm.congr fun l => ?_
    rw [List.map_append, List.count_append]
    by_cases e : l = bytesOf s
    · rw [if_pos e, e]; simp
    · rw [if_neg e]
      have : List.count l (List.map bytesOf [s]) = 0 := by
        rw [List.count_eq_zero]; simp; exact e
      rw [this]; rfl
  · rw [good_snoc, ← hz, ← h.good]
    omega

def namesE (M : MV) (k : Nat) : List ByteArray := (List.range k).map (fun i => (M.E i).name)
def namesG (M : MV) (k : Nat) : List ByteArray := namesE M M.ext.n ++ (List.range k).map (fun i => (M.G i).name)
def namesT (M : MV) (k : Nat) : List ByteArray := namesG M M.glo.n ++ (List.range k).map (fun i => (M.T i).name)
def namesF (M : MV) (k : Nat) : List ByteArray := namesT M M.tab.n ++ (List.range k).map (fun i => (M.F i).name)

theorem namesE_next (M : MV) (k : Nat) : namesE M (k + 1) = namesE M k ++ [(M.E k).name] := by unfold namesE; rw [List.range_succ, List.map_append]; rfl
theorem namesG_next (M : MV) (k : Nat) : namesG M (k + 1) = namesG M k ++ [(M.G k).name] := by unfold namesG; rw [List.range_succ, List.map_append, ← List.append_assoc]; rfl
theorem namesT_next (M : MV) (k : Nat) : namesT M (k + 1) = namesT M k ++ [(M.T k).name] := by unfold namesT; rw [List.range_succ, List.map_append, ← List.append_assoc]; rfl
theorem namesF_next (M : MV) (k : Nat) : namesF M (k + 1) = namesF M k ++ [(M.F k).name] := by unfold namesF; rw [List.range_succ, List.map_append, ← List.append_assoc]; rfl
theorem lenE (M : MV) (k : Nat) : (namesE M k).length = k := by simp [namesE]
theorem lenG (M : MV) (k : Nat) : (namesG M k).length = M.ext.n + k := by simp [namesG, lenE]
theorem lenT (M : MV) (k : Nat) : (namesT M k).length = M.ext.n + M.glo.n + k := by simp [namesT, lenG]
theorem lenF (M : MV) (k : Nat) : (namesF M k).length = M.ext.n + M.glo.n + M.tab.n + k := by simp [namesF, lenT]

/-- All names of a module. -/
def NameM (M : MV) : Prop := Good (namesF M M.fns.n)

set_option maxRecDepth 10000 in
set_option maxHeartbeats 4000000 in
theorem names_any (M : MV) (w : World) (hM : InM w M) (hs : SmallM M) : Calls Try.prog 67 #[M.val] w fun e w' => Ans (fun r => r = true ↔ NameM M) w e w' := by
  have hmm := @run_makeMap Try.prog
  have x1 := hs.ext
  have x2 := hs.glo
  have x3 := hs.tab
  have x4 := hs.fns
  have HM := hid hM
  have HS := hid hs
  clear hM hs
  go_enter Try.func67, Try.ntmps67
  go_wp2_with fail
  clear hmm
  obtain ⟨W, hW⟩ : ∃ W, (w.alloc (.cells (mcells M) 27)).alloc (.map #[] 0) = W := ⟨_, rfl⟩
  obtain ⟨B, hB⟩ : ∃ B, w.heap.size + 1 = B := ⟨_, rfl⟩
  have BX := hid (show W.cell? ⟨w.heap.size, 0, none⟩ = some (.slice M.ext.a M.ext.n M.ext.c) ∧ W.cell? ⟨w.heap.size, 1, none⟩ = some (.slice M.glo.a M.glo.n M.glo.c) ∧ W.cell? ⟨w.heap.size, 2, none⟩ = some (.slice M.tab.a M.tab.n M.tab.c) ∧ W.cell? ⟨w.heap.size, 3, none⟩ = some (.slice M.fns.a M.fns.n M.fns.c) by
    rw [← hW]
    exact ⟨cell_on (new (same _) _) (by simp), cell_on (new (same _) _) (by simp), cell_on (new (same _) _) (by simp), cell_on (new (same _) _) (by simp)⟩)
  have ST := hid (show Nm W B (namesE M 0) 0 by
    refine ⟨?_, Nat.le_refl _, by simp [Good, namesE]⟩
    rw [← hW, ← hB]
    have := SMap.made (w.alloc (.cells (mcells M) 27))
    simp only [World.size_alloc] at this
    exact this.congr (fun l => by simp [namesE]))
  have LW := hid (show Below w.heap.size w W by rw [← hW]; exact new (new (same w) _) _)
  have HB := hid hB
  rw [hW, hB]
  clear hW hB
  go_loopw [4, 5] (fun l iv wr => ∃ a t : Nat, a ≤ M.ext.n ∧ iv = .int .i64 a ∧ l = .int .i64 t ∧ Nm wr B (namesE M a) t ∧ Below w.heap.size w wr ∧ wr.heap[w.heap.size]? = W.heap[w.heap.size]?) (fun _ iv _ => M.ext.n - (intOf iv).toNat)
  case atStart => exact ⟨0, 0, Nat.zero_le _, rfl, rfl, ST.out, LW.out, rfl⟩
  case round =>
    obtain ⟨a, t, ha, rfl, rfl, hnm, hb, he⟩ := hrel
    have bb : wr.cell? ⟨w.heap.size, 0, none⟩ = some (.slice M.ext.a M.ext.n M.ext.c) := by rw [World.cell?_of_block (w := W) he]; exact BX.out.1
    have HaA := hid (And.intro hnm (And.intro hb he))
    by_cases la : a < M.ext.n
    · obtain ⟨rb, ro, hrx, r0, r1, r2⟩ := (HM.out.on hb).ext.at underlying22 size68 la
      have hsz : ((M.E a).name).size ≤ 40 := (HS.out.extI a la).1
      have hlen := lenE M a
      have htl := hnm.le
      have hcn : ((namesE M a).map bytesOf).count ((M.E a).name.data.toList) ≤ 1000 := by
        have := List.count_le_length (a := (M.E a).name.data.toList) (l := (namesE M a).map bytesOf)
        rw [List.length_map] at this
        omega
      have ONE := hid (one_any B (namesE M a).length _ (M.E a).name wr hnm.map (by omega) hcn hsz)
      rw [hlen] at htl
      clear hnm hb he hcn hlen
      go_wp2_with fail
      refine ONE.out.mono ?_
      rintro e w2 ⟨r, rfl, h01, hz, hm2, hg2⟩
      have HB1 := HB.out
      have FIN := hid (show Nm w2 B (namesE M (a + 1)) (t + r) ∧ Below w.heap.size w w2 ∧ w2.heap[w.heap.size]? = W.heap[w.heap.size]? from ⟨by rw [namesE_next]; exact HaA.out.1.step h01 hz hm2, HaA.out.2.1.grown hg2 HaA.out.2.1.size (fun g hg => by cases hg; omega), by rw [hg2.block _ (by have := HaA.out.1.map.lt; omega) (fun e => by have := Option.some.inj e; omega)]; exact HaA.out.2.2⟩)
      have hr1 : r ≤ 1 := by omega
      clear h01 hz hm2 hg2 ONE HB1
      go_wp2_with fail
      go_round
      case rel => exact ⟨a + 1, t + r, by omega, by go_num, by simp, FIN.out.1, FIN.out.2.1, FIN.out.2.2⟩
      case measure => simp [intOf]; omega
    · obtain rfl : a = M.ext.n := by omega
      clear hnm hb he
      go_wp2_with fail
      clear bb
      go_loopw [4, 6] (fun l iv wr => ∃ b t : Nat, b ≤ M.glo.n ∧ iv = .int .i64 b ∧ l = .int .i64 t ∧ Nm wr B (namesG M b) t ∧ Below w.heap.size w wr ∧ wr.heap[w.heap.size]? = W.heap[w.heap.size]?) (fun _ iv _ => M.glo.n - (intOf iv).toNat)
      case atStart => exact ⟨0, t, Nat.zero_le _, rfl, rfl, by rw [show namesG M 0 = namesE M M.ext.n by simp [namesG]]; exact HaA.out.1, HaA.out.2.1, HaA.out.2.2⟩
      case round =>
        obtain ⟨b, t, hb, rfl, rfl, hnm, hb, he⟩ := hrel
        have bb : wr.cell? ⟨w.heap.size, 1, none⟩ = some (.slice M.glo.a M.glo.n M.glo.c) := by rw [World.cell?_of_block (w := W) he]; exact BX.out.2.1
        have HbA := hid (And.intro hnm (And.intro hb he))
        by_cases lb : b < M.glo.n
        · obtain ⟨rb, ro, hrx, r0, r1⟩ := (HM.out.on hb).glo.at underlying23 size71 lb
          have hsz : ((M.G b).name).size ≤ 40 := (HS.out.gloI b lb).1
          have hlen := lenG M b
          have htl := hnm.le
          have hcn : ((namesG M b).map bytesOf).count ((M.G b).name.data.toList) ≤ 1000 := by
            have := List.count_le_length (a := (M.G b).name.data.toList) (l := (namesG M b).map bytesOf)
            rw [List.length_map] at this
            omega
          have ONE := hid (one_any B (namesG M b).length _ (M.G b).name wr hnm.map (by omega) hcn hsz)
          rw [hlen] at htl
          clear hnm hb he hcn hlen
          go_wp2_with fail
          refine ONE.out.mono ?_
          rintro e w2 ⟨r, rfl, h01, hz, hm2, hg2⟩
          have HB1 := HB.out
          have FIN := hid (show Nm w2 B (namesG M (b + 1)) (t + r) ∧ Below w.heap.size w w2 ∧ w2.heap[w.heap.size]? = W.heap[w.heap.size]? from ⟨by rw [namesG_next]; exact HbA.out.1.step h01 hz hm2, HbA.out.2.1.grown hg2 HbA.out.2.1.size (fun g hg => by cases hg; omega), by rw [hg2.block _ (by have := HbA.out.1.map.lt; omega) (fun e => by have := Option.some.inj e; omega)]; exact HbA.out.2.2⟩)
          have hr1 : r ≤ 1 := by omega
          clear h01 hz hm2 hg2 ONE HB1
          go_wp2_with fail
          go_round
          case rel => exact ⟨b + 1, t + r, by omega, by go_num, by simp, FIN.out.1, FIN.out.2.1, FIN.out.2.2⟩
          case measure => simp [intOf]; omega
        · obtain rfl : b = M.glo.n := by omega
          clear hnm hb he
          go_wp2_with fail
          clear bb
          go_loopw [4, 7] (fun l iv wr => ∃ c t : Nat, c ≤ M.tab.n ∧ iv = .int .i64 c ∧ l = .int .i64 t ∧ Nm wr B (namesT M c) t ∧ Below w.heap.size w wr ∧ wr.heap[w.heap.size]? = W.heap[w.heap.size]?) (fun _ iv _ => M.tab.n - (intOf iv).toNat)
          case atStart => exact ⟨0, t, Nat.zero_le _, rfl, rfl, by rw [show namesT M 0 = namesG M M.glo.n by simp [namesT]]; exact HbA.out.1, HbA.out.2.1, HbA.out.2.2⟩
          case round =>
            obtain ⟨c, t, hc, rfl, rfl, hnm, hb, he⟩ := hrel
            have bb : wr.cell? ⟨w.heap.size, 2, none⟩ = some (.slice M.tab.a M.tab.n M.tab.c) := by rw [World.cell?_of_block (w := W) he]; exact BX.out.2.2.1
            have HcA := hid (And.intro hnm (And.intro hb he))
            by_cases lc : c < M.tab.n
            · obtain ⟨rb, ro, hrx, r0, r1⟩ := (HM.out.on hb).tab.at underlying24 size73 lc
              have hsz : ((M.T c).name).size ≤ 40 := (HS.out.tabI c lc).1
              have hlen := lenT M c
              have htl := hnm.le
              have hcn : ((namesT M c).map bytesOf).count ((M.T c).name.data.toList) ≤ 1000 := by
                have := List.count_le_length (a := (M.T c).name.data.toList) (l := (namesT M c).map bytesOf)
                rw [List.length_map] at this
                omega
              have ONE := hid (one_any B (namesT M c).length _ (M.T c).name wr hnm.map (by omega) hcn hsz)
              rw [hlen] at htl
              clear hnm hb he hcn hlen
              go_wp2_with fail
              refine ONE.out.mono ?_
              rintro e w2 ⟨r, rfl, h01, hz, hm2, hg2⟩
              have HB1 := HB.out
              have FIN := hid (show Nm w2 B (namesT M (c + 1)) (t + r) ∧ Below w.heap.size w w2 ∧ w2.heap[w.heap.size]? = W.heap[w.heap.size]? from ⟨by rw [namesT_next]; exact HcA.out.1.step h01 hz hm2, HcA.out.2.1.grown hg2 HcA.out.2.1.size (fun g hg => by cases hg; omega), by rw [hg2.block _ (by have := HcA.out.1.map.lt; omega) (fun e => by have := Option.some.inj e; omega)]; exact HcA.out.2.2⟩)
              have hr1 : r ≤ 1 := by omega
              clear h01 hz hm2 hg2 ONE HB1
              go_wp2_with fail
              go_round
              case rel => exact ⟨c + 1, t + r, by omega, by go_num, by simp, FIN.out.1, FIN.out.2.1, FIN.out.2.2⟩
              case measure => simp [intOf]; omega
            · obtain rfl : c = M.tab.n := by omega
              clear hnm hb he
              go_wp2_with fail
              clear bb
              go_loopw [4, 8] (fun l iv wr => ∃ d t : Nat, d ≤ M.fns.n ∧ iv = .int .i64 d ∧ l = .int .i64 t ∧ Nm wr B (namesF M d) t ∧ Below w.heap.size w wr ∧ wr.heap[w.heap.size]? = W.heap[w.heap.size]?) (fun _ iv _ => M.fns.n - (intOf iv).toNat)
              case atStart => exact ⟨0, t, Nat.zero_le _, rfl, rfl, by rw [show namesF M 0 = namesT M M.tab.n by simp [namesF]]; exact HcA.out.1, HcA.out.2.1, HcA.out.2.2⟩
              case round =>
                obtain ⟨d, t, hd, rfl, rfl, hnm, hb, he⟩ := hrel
                have bb : wr.cell? ⟨w.heap.size, 3, none⟩ = some (.slice M.fns.a M.fns.n M.fns.c) := by rw [World.cell?_of_block (w := W) he]; exact BX.out.2.2.2
                have HdA := hid (And.intro hnm (And.intro hb he))
                by_cases ld : d < M.fns.n
                · obtain ⟨rb, ro, hrx, r0, r1, r2, r3, r4⟩ := (HM.out.on hb).fns.at underlying25 size35 ld
                  have hsz : ((M.F d).name).size ≤ 40 := (HS.out.light d ld).name
                  have hlen := lenF M d
                  have htl := hnm.le
                  have hcn : ((namesF M d).map bytesOf).count ((M.F d).name.data.toList) ≤ 1000 := by
                    have := List.count_le_length (a := (M.F d).name.data.toList) (l := (namesF M d).map bytesOf)
                    rw [List.length_map] at this
                    omega
                  have ONE := hid (one_any B (namesF M d).length _ (M.F d).name wr hnm.map (by omega) hcn hsz)
                  rw [hlen] at htl
                  clear hnm hb he hcn hlen
                  go_wp2_with fail
                  refine ONE.out.mono ?_
                  rintro e w2 ⟨r, rfl, h01, hz, hm2, hg2⟩
                  have HB1 := HB.out
                  have FIN := hid (show Nm w2 B (namesF M (d + 1)) (t + r) ∧ Below w.heap.size w w2 ∧ w2.heap[w.heap.size]? = W.heap[w.heap.size]? from ⟨by rw [namesF_next]; exact HdA.out.1.step h01 hz hm2, HdA.out.2.1.grown hg2 HdA.out.2.1.size (fun g hg => by cases hg; omega), by rw [hg2.block _ (by have := HdA.out.1.map.lt; omega) (fun e => by have := Option.some.inj e; omega)]; exact HdA.out.2.2⟩)
                  have hr1 : r ≤ 1 := by omega
                  clear h01 hz hm2 hg2 ONE HB1
                  go_wp2_with fail
                  go_round
                  case rel => exact ⟨d + 1, t + r, by omega, by go_num, by simp, FIN.out.1, FIN.out.2.1, FIN.out.2.2⟩
                  case measure => simp [intOf]; omega
                · obtain rfl : d = M.fns.n := by omega
                  clear hnm hb he
                  cases ht : decide ((t : Int) = 0) with
                  | true =>
                    have h0 : t = 0 := by simpa using ht
                    have G := hid (HdA.out.1.good.1 h0)
                    subst h0
                    go_wp2_with fail
                    go_ret
                    exact ⟨true, rfl, by simp; exact G.out, HdA.out.2.1⟩
                  | false =>
                    have h0 : t ≠ 0 := by simpa using ht
                    have G := hid (show ¬ NameM M from fun h => h0 (HdA.out.1.good.2 h))
                    have q : ((t : Int) == 0) = false := by simp [h0]
                    clear ht h0
                    go_wp2_with fail
                    go_ret
                    exact ⟨false, rfl, by simp [G.out], HdA.out.2.1⟩

end Go.Proofs.Ytclioagemjpnoaa.Chk

/-
  Which modules may be, by the document: plnref3.Check; plnkeep.Fit.
-/
namespace Go.Proofs.Ytclioagemjpnoaa.Chk
open Go.RowKit View Rd Num Opn Copy Ty Srt Go.Proofs.Ytclioagemjpnoaa.Mod Go.Proofs.Ytclioagemjpnoaa.Flo

set_option linter.unusedVariables false

/-- A module that may be. -/
structure FitM (M : MV) : Prop where
  lim : LimM M
  form : FormM M
  name : NameM M
  sym : SymM M
  flow : ∀ i, i < M.fns.n → FlowF (M.F i)
  use : ∀ i, i < M.fns.n → UseF (M.F i)
  type : ∀ i, i < M.fns.n → TypeF M (M.F i)

theorem argsF_of {F : FV} (h : UseF F) : ArgsF F := fun j hj k hk i hi => by
  obtain ⟨h1, h2, _⟩ := h.2 j hj k hk i hi
  rw [typesL_length]
  unfold allV at h2
  omega

/-- An answer: 0 where p holds. -/
def Err (p : Prop) (w : World) (e : Ending) (w' : World) : Prop := ∃ r : Int, e = .returned (.int .i64 r) ∧ (r = 0 ↔ p) ∧ Below w.heap.size w w'

set_option maxRecDepth 10000 in
set_option maxHeartbeats 8000000 in
theorem check_any (M : MV) (w : World) (hM : InM w M) (hs : SmallM M) : Calls Try.prog 21 #[M.val] w fun e w' => Err (FitM M) w e w' := by
  have x4 := hs.fns
  obtain ⟨W, hW⟩ : ∃ W, w.alloc (.cells (mcells M) 27) = W := ⟨_, rfl⟩
  have LW := hid (show Below w.heap.size w W by rw [← hW]; exact new (same w) _)
  have MW := hid (show W.cell? ⟨w.heap.size, 0, none⟩ = some (.slice M.ext.a M.ext.n M.ext.c) ∧ W.cell? ⟨w.heap.size, 1, none⟩ = some (.slice M.glo.a M.glo.n M.glo.c) ∧ W.cell? ⟨w.heap.size, 2, none⟩ = some (.slice M.tab.a M.tab.n M.tab.c) ∧ W.cell? ⟨w.heap.size, 3, none⟩ = some (.slice M.fns.a M.fns.n M.fns.c) by
    rw [← hW]
    exact ⟨by simp, by simp, by simp, by simp⟩)
  have IM := hid (hM.on LW.out)
  have HS := hid hs
  have HWW := hid hW
  have S0 := hid (same W)
  clear hM hs hW
  go_enter Try.func21, Try.ntmps21
  go_wp2_with fail
  simp only [HWW.out]
  clear HWW
  obtain ⟨m0, m1, m2, m3⟩ := MW.out
  have m0 := cell_on S0.out m0
  have m1 := cell_on S0.out m1
  have m2 := cell_on S0.out m2
  have m3 := cell_on S0.out m3
  go_wp2_with fail
  refine (limits_any M _ (IM.out.on S0.out) HS.out).mono ?_
  rintro e w1 ⟨r1, rfl, hr1, hb1⟩
  have R1 := hid hr1
  have B1 := hid (View.more S0.out hb1)
  clear hr1 hb1 m0 m1 m2 m3
  cases r1 with
  | false =>
    have HN := hid (show ¬ FitM M from fun h => by have := R1.out.2 h.lim; cases this)
    go_wp2_with fail
    go_ret
    exact ⟨_, rfl, by simp [HN.out], View.more LW.out B1.out⟩
  | true =>
  have P1 := hid (R1.out.1 rfl)
  clear R1
  obtain ⟨m0, m1, m2, m3⟩ := MW.out
  have m0 := cell_on B1.out m0
  have m1 := cell_on B1.out m1
  have m2 := cell_on B1.out m2
  have m3 := cell_on B1.out m3
  go_wp2_with fail
  refine (forms_any M _ (IM.out.on B1.out) HS.out).mono ?_
  rintro e w2 ⟨r2, rfl, hr2, hb2⟩
  have R2 := hid hr2
  have B2 := hid (View.more B1.out hb2)
  clear hr2 hb2 m0 m1 m2 m3
  cases r2 with
  | false =>
    have HN := hid (show ¬ FitM M from fun h => by have := R2.out.2 h.form; cases this)
    go_wp2_with fail
    go_ret
    exact ⟨_, rfl, by simp [HN.out], View.more LW.out B2.out⟩
  | true =>
  have P2 := hid (R2.out.1 rfl)
  clear R2
  obtain ⟨m0, m1, m2, m3⟩ := MW.out
  have m0 := cell_on B2.out m0
  have m1 := cell_on B2.out m1
  have m2 := cell_on B2.out m2
  have m3 := cell_on B2.out m3
  go_wp2_with fail
  refine (names_any M _ (IM.out.on B2.out) HS.out).mono ?_
  rintro e w3 ⟨r3, rfl, hr3, hb3⟩
  have R3 := hid hr3
  have B3 := hid (View.more B2.out hb3)
  clear hr3 hb3 m0 m1 m2 m3
  cases r3 with
  | false =>
    have HN := hid (show ¬ FitM M from fun h => by have := R3.out.2 h.name; cases this)
    go_wp2_with fail
    go_ret
    exact ⟨_, rfl, by simp [HN.out], View.more LW.out B3.out⟩
  | true =>
  have P3 := hid (R3.out.1 rfl)
  clear R3
  obtain ⟨m0, m1, m2, m3⟩ := MW.out
  have m0 := cell_on B3.out m0
  have m1 := cell_on B3.out m1
  have m2 := cell_on B3.out m2
  have m3 := cell_on B3.out m3
  go_wp2_with fail
  refine (syms_any M _ (IM.out.on B3.out) HS.out).mono ?_
  rintro e w4 ⟨r4, rfl, hr4, hb4⟩
  have R4 := hid hr4
  have B4 := hid (View.more B3.out hb4)
  clear hr4 hb4 m0 m1 m2 m3
  cases r4 with
  | false =>
    have HN := hid (show ¬ FitM M from fun h => by have := R4.out.2 h.sym; cases this)
    go_wp2_with fail
    go_ret
    exact ⟨_, rfl, by simp [HN.out], View.more LW.out B4.out⟩
  | true =>
  have P4 := hid (R4.out.1 rfl)
  clear R4
  go_wp2_with fail
  go_loopw [3] (fun iv wr => ∃ i_ : Nat, i_ ≤ M.fns.n ∧ iv = .int .i64 i_ ∧ (∀ i, i < i_ → FlowF (M.F i)) ∧ Below W.heap.size W wr) (fun iv _ => M.fns.n - (intOf iv).toNat)
  case atStart => exact ⟨0, Nat.zero_le _, rfl, fun t ht => by omega, B4.out⟩
  case round =>
    obtain ⟨i, hi, rfl, hall, hb⟩ := hrel
    have HA := hid (And.intro hall hb)
    obtain ⟨m0, m1, m2, m3⟩ := MW.out
    have m0 := cell_on hb m0
    have m1 := cell_on hb m1
    have m2 := cell_on hb m2
    have m3 := cell_on hb m3
    by_cases li : i < M.fns.n
    · obtain ⟨b, o, hix, c0, c1, c2, c3, c4⟩ := (IM.out.on hb).fns.at underlying25 size35 li
      have HZ := same wr
      have CL := hid (flows_any (M.F i) _ (((IM.out.on hb).fnI i li).on HZ) (HS.out.light i li) (P2.out.fns i li))
      clear hall hb
      go_wp2_with fail
      refine CL.out.mono ?_
      rintro e w9 ⟨r, rfl, hr, hb9⟩
      have HR := hid hr
      have B9 := hid (View.more HA.out.2 hb9)
      clear hr hb9 c0 c1 c2 c3 c4 m0 m1 m2 m3
      cases r with
      | false =>
        have HN := hid (show ¬ FitM M from fun h => by have := HR.out.2 (h.flow i li); cases this)
        go_wp2_with fail
        go_ret
        exact ⟨_, rfl, by simp [HN.out], View.more LW.out B9.out⟩
      | true =>
        have HP := hid (HR.out.1 rfl)
        go_wp2_with fail
        go_round
        case rel =>
          have f := upto1 HA.out.1 HP.out
          first
            | exact ⟨i + 1, by omega, by go_num, f, B9.out⟩
            | ((repeat apply Exists.intro); exact ⟨⟨i + 1, by omega, by go_num, f, B9.out⟩, rfl⟩)
        case measure => simp [intOf]; omega
    · obtain rfl : i = M.fns.n := by omega
      have Q1 := hid hall
      have BQ1 := hid hb
      clear hall hb HA
      go_wp2_with fail
      clear m0 m1 m2 m3
      go_loopw [4] (fun iv wr => ∃ i_ : Nat, i_ ≤ M.fns.n ∧ iv = .int .i64 i_ ∧ (∀ i, i < i_ → UseF (M.F i)) ∧ Below W.heap.size W wr) (fun iv _ => M.fns.n - (intOf iv).toNat)
      case atStart => exact ⟨0, Nat.zero_le _, rfl, fun t ht => by omega, BQ1.out⟩
      case round =>
        obtain ⟨i, hi, rfl, hall, hb⟩ := hrel
        have HA := hid (And.intro hall hb)
        obtain ⟨m0, m1, m2, m3⟩ := MW.out
        have m0 := cell_on hb m0
        have m1 := cell_on hb m1
        have m2 := cell_on hb m2
        have m3 := cell_on hb m3
        by_cases li : i < M.fns.n
        · obtain ⟨b, o, hix, c0, c1, c2, c3, c4⟩ := (IM.out.on hb).fns.at underlying25 size35 li
          have HZ := same wr
          have CL := hid (uses_any (M.F i) _ (((IM.out.on hb).fnI i li).on HZ) (HS.out.light i li) (P2.out.fns i li) (Q1.out i li))
          clear hall hb
          go_wp2_with fail
          refine CL.out.mono ?_
          rintro e w9 ⟨r, rfl, hr, hb9⟩
          have HR := hid hr
          have B9 := hid (View.more HA.out.2 hb9)
          clear hr hb9 c0 c1 c2 c3 c4 m0 m1 m2 m3
          cases r with
          | false =>
            have HN := hid (show ¬ FitM M from fun h => by have := HR.out.2 (h.use i li); cases this)
            go_wp2_with fail
            go_ret
            exact ⟨_, rfl, by simp [HN.out], View.more LW.out B9.out⟩
          | true =>
            have HP := hid (HR.out.1 rfl)
            go_wp2_with fail
            go_round
            case rel =>
              have f := upto1 HA.out.1 HP.out
              first
                | exact ⟨i + 1, by omega, by go_num, f, B9.out⟩
                | ((repeat apply Exists.intro); exact ⟨⟨i + 1, by omega, by go_num, f, B9.out⟩, rfl⟩)
            case measure => simp [intOf]; omega
        · obtain rfl : i = M.fns.n := by omega
          have Q2 := hid hall
          have BQ2 := hid hb
          clear hall hb HA
          go_wp2_with fail
          clear m0 m1 m2 m3
          go_loopw [5] (fun iv wr => ∃ i_ : Nat, i_ ≤ M.fns.n ∧ iv = .int .i64 i_ ∧ (∀ i, i < i_ → TypeF M (M.F i)) ∧ Below W.heap.size W wr) (fun iv _ => M.fns.n - (intOf iv).toNat)
          case atStart => exact ⟨0, Nat.zero_le _, rfl, fun t ht => by omega, BQ2.out⟩
          case round =>
            obtain ⟨i, hi, rfl, hall, hb⟩ := hrel
            have HA := hid (And.intro hall hb)
            by_cases li : i < M.fns.n
            · obtain ⟨b, o, hix, fat⟩ := IM.out.fns.at underlying25 size35 li
              have cc : ∀ wx, Below W.heap.size W wx → (wx.cell? ⟨w.heap.size, 0, none⟩ = some (.slice M.ext.a M.ext.n M.ext.c) ∧ wx.cell? ⟨w.heap.size, 1, none⟩ = some (.slice M.glo.a M.glo.n M.glo.c) ∧ wx.cell? ⟨w.heap.size, 2, none⟩ = some (.slice M.tab.a M.tab.n M.tab.c) ∧ wx.cell? ⟨w.heap.size, 3, none⟩ = some (.slice M.fns.a M.fns.n M.fns.c)) := fun wx h => ⟨cell_on h MW.out.1, cell_on h MW.out.2.1, cell_on h MW.out.2.2.1, cell_on h MW.out.2.2.2⟩
              have k0 := fun wx h => (cc wx h).1
              have k1 := fun wx h => (cc wx h).2.1
              have k2 := fun wx h => (cc wx h).2.2.1
              have k3 := fun wx h => (cc wx h).2.2.2
              have k4 : ∀ wx, Below W.heap.size W wx → wx.cell? ⟨b, o, none⟩ = some (.string (M.F i).name) := fun wx h => (fat.on h).c0
              have k5 : ∀ wx, Below W.heap.size W wx → wx.cell? ⟨b, o + 1, none⟩ = some (.bool (M.F i).out) := fun wx h => (fat.on h).c1
              have k6 : ∀ wx, Below W.heap.size W wx → wx.cell? ⟨b, o + 2, none⟩ = some (.slice (M.F i).par.a (M.F i).par.n (M.F i).par.c) := fun wx h => (fat.on h).c2
              have k7 : ∀ wx, Below W.heap.size W wx → wx.cell? ⟨b, o + 3, none⟩ = some (.int .i64 (M.F i).res) := fun wx h => (fat.on h).c3
              have k8 : ∀ wx, Below W.heap.size W wx → wx.cell? ⟨b, o + 4, none⟩ = some (.slice (M.F i).blk.a (M.F i).blk.n (M.F i).blk.c) := fun wx h => (fat.on h).c4
              have m3 := k3 _ hb
              have st0 : Below W.heap.size W wr.drew := Below.drew hb
              clear hall hb cc fat
              go_wp2_with fail
              clear m3
              go_region_held3 (fun wx => Below W.heap.size W wx) (first | exact st0 | exact st1)
                (first
                  | (go_at_call 71; refine (types_any M (M.F i) _ (IM.out.on (by assumption)) HS.out ((IM.out.on (by assumption)).fnI i li) (HS.out.light i li) (P2.out.fns i li) (fun j hj k hk => P4.out.ins i li j hj k hk) (argsF_of (Q2.out i li))).mono ?_; rintro e w9 ⟨r, rfl, hr, hb9⟩; have HR := hid hr; have st1 : Below W.heap.size W w9 := View.more (by assumption) hb9; clear hr hb9))
              have B9 := hid st1
              clear k0 k1 k2 k3 k4 k5 k6 k7 k8 st0 st1
              cases r with
              | false =>
                have HN := hid (show ¬ FitM M from fun h => by have := HR.out.2 (h.type i li); cases this)
                go_wp2_with fail
                go_ret
                exact ⟨_, rfl, by simp [HN.out], View.more LW.out B9.out⟩
              | true =>
                have HP := hid (HR.out.1 rfl)
                go_wp2_with fail
                go_round
                case rel =>
                  have f := upto1 HA.out.1 HP.out
                  first
                    | exact ⟨i + 1, by omega, by go_num, f, B9.out⟩
                    | ((repeat apply Exists.intro); exact ⟨⟨i + 1, by omega, by go_num, f, B9.out⟩, rfl⟩)
                case measure => simp [intOf]; omega
            · obtain rfl : i = M.fns.n := by omega
              have Q3 := hid hall
              have BQ3 := hid hb
              have m3 := cell_on hb MW.out.2.2.2
              clear hall hb HA
              go_wp2_with fail
              go_ret
              exact ⟨_, rfl, by simp; exact ⟨P1.out, P2.out, P3.out, P4.out, Q1.out, Q2.out, Q3.out⟩, View.more LW.out BQ3.out⟩

set_option maxHeartbeats 1000000 in
theorem fit_any (M : MV) (w : World) (hM : InM w M) : Calls Try.prog 11 #[M.val] w fun e w' => Ans (fun r => r = true → SmallM M ∧ FitM M) w e w' := by
  have HM := hid hM
  clear hM
  go_enter Try.func11, Try.ntmps11
  go_wp2_with fail
  refine (small_any M _ (HM.out.on (new (same w) _))).mono ?_
  rintro e w1 ⟨r, rfl, hr, hb⟩
  have HR := hid (show r = true → SmallM M from hr)
  have B1 := hid (View.more (new (same w) _) hb)
  have m0 := cell_on hb (show (w.alloc (.cells (mcells M) 27)).cell? ⟨w.heap.size, 0, none⟩ = some (.slice M.ext.a M.ext.n M.ext.c) by simp)
  have m1 := cell_on hb (show (w.alloc (.cells (mcells M) 27)).cell? ⟨w.heap.size, 1, none⟩ = some (.slice M.glo.a M.glo.n M.glo.c) by simp)
  have m2 := cell_on hb (show (w.alloc (.cells (mcells M) 27)).cell? ⟨w.heap.size, 2, none⟩ = some (.slice M.tab.a M.tab.n M.tab.c) by simp)
  have m3 := cell_on hb (show (w.alloc (.cells (mcells M) 27)).cell? ⟨w.heap.size, 3, none⟩ = some (.slice M.fns.a M.fns.n M.fns.c) by simp)
  clear hr hb
  cases r with
  | false =>
    go_wp2_with fail
    go_ret
    exact ⟨false, rfl, (fun h => by cases h), B1.out⟩
  | true =>
    have HSm := hid (HR.out rfl)
    clear HR
    go_wp2_with fail
    refine (check_any M _ (HM.out.on B1.out) HSm.out).mono ?_
    rintro e w2 ⟨r, rfl, hr, hb⟩
    have HR2 := hid hr
    have B2 := hid (View.more B1.out hb)
    clear hr hb m0 m1 m2 m3
    go_wp2_with fail
    go_ret
    exact ⟨_, rfl, (fun h => ⟨HSm.out, HR2.out.1 (by simpa using h)⟩), B2.out⟩

end Go.Proofs.Ytclioagemjpnoaa.Chk
