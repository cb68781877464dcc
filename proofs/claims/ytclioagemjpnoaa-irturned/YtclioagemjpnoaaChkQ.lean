/-
  Names that stand once, by the document: plnref3.names.
-/
import Derived.Test.YtclioagemjpnoaaChkO
namespace Go.Proofs.Ytclioagemjpnoaa.Chk
open Go.RowKit View Rd Num Opn Copy Go.Proofs.Ytclioagemjpnoaa.Mod

set_option linter.unusedVariables false

abbrev bytesOf (s : ByteArray) : List UInt8 := s.data.toList

/-- Names that may be, none twice. -/
def Good (L : List ByteArray) : Prop := (∀ s ∈ L, NameOk s) ∧ (L.map bytesOf).Nodup

structure Nm (w : World) (B : Nat) (L : List ByteArray) (t : Nat) : Prop where
  map : SMap w B L.length (fun l => (L.map bytesOf).count l)
  le : t ≤ L.length
  good : t = 0 ↔ Good L

theorem good_snoc {L : List ByteArray} {s : ByteArray} : Good (L ++ [s]) ↔ Good L ∧ NameOk s ∧ (L.map bytesOf).count (bytesOf s) = 0 := by
  unfold Good
  rw [List.map_append, List.count_eq_zero]
  simp only [List.map_cons, List.map_nil, List.mem_append, List.mem_singleton]
  constructor
  · rintro ⟨h1, h2⟩
    rw [List.nodup_append] at h2
    refine ⟨⟨fun x hx => h1 x (.inl hx), h2.1⟩, h1 s (.inr rfl), fun hm => ?_⟩
    exact h2.2.2 _ hm _ (by simp) rfl
  · rintro ⟨⟨h1, h2⟩, h3, h4⟩
    refine ⟨fun x hx => ?_, ?_⟩
    · rcases hx with hx | rfl
      · exact h1 x hx
      · exact h3
    · rw [List.nodup_append]
      refine ⟨h2, by simp, fun a ha b hb e => ?_⟩
      simp at hb
      subst hb
      subst e
      exact h4 ha

theorem Nm.step {w w' : World} {B t : Nat} {L : List ByteArray} {s : ByteArray} (h : Nm w B L t) {r : Nat} (hr : r = 0 ∨ r = 1) (hz : r = 0 ↔ NameOk s ∧ (L.map bytesOf).count (bytesOf s) = 0) (hm : SMap w' B (L.length + 1) (fun l => if l = bytesOf s then (L.map bytesOf).count l + 1 else (L.map bytesOf).count l)) : Nm w' B (L ++ [s]) (t + r) := by
  refine ⟨?_, by simp; have := h.le; omega, ?_⟩
  · rw [List.length_append, List.length_singleton]
    refine hm.congr fun l => ?_
    rw [List.map_append, List.count_append]
    by_cases e : l = bytesOf s
    · rw [if_pos e, e]; simp
    · rw [if_neg e]
      have : List.count l (List.map bytesOf [s]) = 0 := by
        rw [List.count_eq_zero]; simp; exact e
      rw [this]; rfl
  · rw [good_snoc, ← hz, ← h.good]
    omega

def namesE (M : MV) (k : Nat) : List ByteArray := (List.range k).map (fun i => (M.E i).name)
def namesG (M : MV) (k : Nat) : List ByteArray := namesE M M.ext.n ++ (List.range k).map (fun i => (M.G i).name)
def namesT (M : MV) (k : Nat) : List ByteArray := namesG M M.glo.n ++ (List.range k).map (fun i => (M.T i).name)
def namesF (M : MV) (k : Nat) : List ByteArray := namesT M M.tab.n ++ (List.range k).map (fun i => (M.F i).name)

theorem namesE_next (M : MV) (k : Nat) : namesE M (k + 1) = namesE M k ++ [(M.E k).name] := by unfold namesE; rw [List.range_succ, List.map_append]; rfl
theorem namesG_next (M : MV) (k : Nat) : namesG M (k + 1) = namesG M k ++ [(M.G k).name] := by unfold namesG; rw [List.range_succ, List.map_append, ← List.append_assoc]; rfl
theorem namesT_next (M : MV) (k : Nat) : namesT M (k + 1) = namesT M k ++ [(M.T k).name] := by unfold namesT; rw [List.range_succ, List.map_append, ← List.append_assoc]; rfl
theorem namesF_next (M : MV) (k : Nat) : namesF M (k + 1) = namesF M k ++ [(M.F k).name] := by unfold namesF; rw [List.range_succ, List.map_append, ← List.append_assoc]; rfl
theorem lenE (M : MV) (k : Nat) : (namesE M k).length = k := by simp [namesE]
theorem lenG (M : MV) (k : Nat) : (namesG M k).length = M.ext.n + k := by simp [namesG, lenE]
theorem lenT (M : MV) (k : Nat) : (namesT M k).length = M.ext.n + M.glo.n + k := by simp [namesT, lenG]
theorem lenF (M : MV) (k : Nat) : (namesF M k).length = M.ext.n + M.glo.n + M.tab.n + k := by simp [namesF, lenT]

/-- All names of a module. -/
def NameM (M : MV) : Prop := Good (namesF M M.fns.n)

set_option maxRecDepth 10000 in
set_option maxHeartbeats 4000000 in
theorem names_any (M : MV) (w : World) (hM : InM w M) (hs : SmallM M) : Calls Try.prog 67 #[M.val] w fun e w' => Ans (fun r => r = true ↔ NameM M) w e w' := by
  have hmm := @run_makeMap Try.prog
  have x1 := hs.ext
  have x2 := hs.glo
  have x3 := hs.tab
  have x4 := hs.fns
  have HM := hid hM
  have HS := hid hs
  clear hM hs
  go_enter Try.func67, Try.ntmps67
  go_wp2_with fail
  clear hmm
  obtain ⟨W, hW⟩ : ∃ W, (w.alloc (.cells (mcells M) 27)).alloc (.map #[] 0) = W := ⟨_, rfl⟩
  obtain ⟨B, hB⟩ : ∃ B, w.heap.size + 1 = B := ⟨_, rfl⟩
  have BX := hid (show W.cell? ⟨w.heap.size, 0, none⟩ = some (.slice M.ext.a M.ext.n M.ext.c) ∧ W.cell? ⟨w.heap.size, 1, none⟩ = some (.slice M.glo.a M.glo.n M.glo.c) ∧ W.cell? ⟨w.heap.size, 2, none⟩ = some (.slice M.tab.a M.tab.n M.tab.c) ∧ W.cell? ⟨w.heap.size, 3, none⟩ = some (.slice M.fns.a M.fns.n M.fns.c) by
    rw [← hW]
    exact ⟨cell_on (new (same _) _) (by simp), cell_on (new (same _) _) (by simp), cell_on (new (same _) _) (by simp), cell_on (new (same _) _) (by simp)⟩)
  have ST := hid (show Nm W B (namesE M 0) 0 by
    refine ⟨?_, Nat.le_refl _, by simp [Good, namesE]⟩
    rw [← hW, ← hB]
    have := SMap.made (w.alloc (.cells (mcells M) 27))
    simp only [World.size_alloc] at this
    exact this.congr (fun l => by simp [namesE]))
  have LW := hid (show Below w.heap.size w W by rw [← hW]; exact new (new (same w) _) _)
  have HB := hid hB
  rw [hW, hB]
  clear hW hB
  go_loopw [4, 5] (fun l iv wr => ∃ a t : Nat, a ≤ M.ext.n ∧ iv = .int .i64 a ∧ l = .int .i64 t ∧ Nm wr B (namesE M a) t ∧ Below w.heap.size w wr ∧ wr.heap[w.heap.size]? = W.heap[w.heap.size]?) (fun _ iv _ => M.ext.n - (intOf iv).toNat)
  case atStart => exact ⟨0, 0, Nat.zero_le _, rfl, rfl, ST.out, LW.out, rfl⟩
  case round =>
    obtain ⟨a, t, ha, rfl, rfl, hnm, hb, he⟩ := hrel
    have bb : wr.cell? ⟨w.heap.size, 0, none⟩ = some (.slice M.ext.a M.ext.n M.ext.c) := by rw [World.cell?_of_block (w := W) he]; exact BX.out.1
    have HaA := hid (And.intro hnm (And.intro hb he))
    by_cases la : a < M.ext.n
    · obtain ⟨rb, ro, hrx, r0, r1, r2⟩ := (HM.out.on hb).ext.at underlying22 size68 la
      have hsz : ((M.E a).name).size ≤ 40 := (HS.out.extI a la).1
      have hlen := lenE M a
      have htl := hnm.le
      have hcn : ((namesE M a).map bytesOf).count ((M.E a).name.data.toList) ≤ 1000 := by
        have := List.count_le_length (a := (M.E a).name.data.toList) (l := (namesE M a).map bytesOf)
        rw [List.length_map] at this
        omega
      have ONE := hid (one_any B (namesE M a).length _ (M.E a).name wr hnm.map (by omega) hcn hsz)
      rw [hlen] at htl
      clear hnm hb he hcn hlen
      go_wp2_with fail
      refine ONE.out.mono ?_
      rintro e w2 ⟨r, rfl, h01, hz, hm2, hg2⟩
      have HB1 := HB.out
      have FIN := hid (show Nm w2 B (namesE M (a + 1)) (t + r) ∧ Below w.heap.size w w2 ∧ w2.heap[w.heap.size]? = W.heap[w.heap.size]? from ⟨by rw [namesE_next]; exact HaA.out.1.step h01 hz hm2, HaA.out.2.1.grown hg2 HaA.out.2.1.size (fun g hg => by cases hg; omega), by rw [hg2.block _ (by have := HaA.out.1.map.lt; omega) (fun e => by have := Option.some.inj e; omega)]; exact HaA.out.2.2⟩)
      have hr1 : r ≤ 1 := by omega
      clear h01 hz hm2 hg2 ONE HB1
      go_wp2_with fail
      go_round
      case rel => exact ⟨a + 1, t + r, by omega, by go_num, by simp, FIN.out.1, FIN.out.2.1, FIN.out.2.2⟩
      case measure => simp [intOf]; omega
    · obtain rfl : a = M.ext.n := by omega
      clear hnm hb he
      go_wp2_with fail
      clear bb
      go_loopw [4, 6] (fun l iv wr => ∃ b t : Nat, b ≤ M.glo.n ∧ iv = .int .i64 b ∧ l = .int .i64 t ∧ Nm wr B (namesG M b) t ∧ Below w.heap.size w wr ∧ wr.heap[w.heap.size]? = W.heap[w.heap.size]?) (fun _ iv _ => M.glo.n - (intOf iv).toNat)
      case atStart => exact ⟨0, t, Nat.zero_le _, rfl, rfl, by rw [show namesG M 0 = namesE M M.ext.n by simp [namesG]]; exact HaA.out.1, HaA.out.2.1, HaA.out.2.2⟩
      case round =>
        obtain ⟨b, t, hb, rfl, rfl, hnm, hb, he⟩ := hrel
        have bb : wr.cell? ⟨w.heap.size, 1, none⟩ = some (.slice M.glo.a M.glo.n M.glo.c) := by rw [World.cell?_of_block (w := W) he]; exact BX.out.2.1
        have HbA := hid (And.intro hnm (And.intro hb he))
        by_cases lb : b < M.glo.n
        · obtain ⟨rb, ro, hrx, r0, r1⟩ := (HM.out.on hb).glo.at underlying23 size71 lb
          have hsz : ((M.G b).name).size ≤ 40 := (HS.out.gloI b lb).1
          have hlen := lenG M b
          have htl := hnm.le
          have hcn : ((namesG M b).map bytesOf).count ((M.G b).name.data.toList) ≤ 1000 := by
            have := List.count_le_length (a := (M.G b).name.data.toList) (l := (namesG M b).map bytesOf)
            rw [List.length_map] at this
            omega
          have ONE := hid (one_any B (namesG M b).length _ (M.G b).name wr hnm.map (by omega) hcn hsz)
          rw [hlen] at htl
          clear hnm hb he hcn hlen
          go_wp2_with fail
          refine ONE.out.mono ?_
          rintro e w2 ⟨r, rfl, h01, hz, hm2, hg2⟩
          have HB1 := HB.out
          have FIN := hid (show Nm w2 B (namesG M (b + 1)) (t + r) ∧ Below w.heap.size w w2 ∧ w2.heap[w.heap.size]? = W.heap[w.heap.size]? from ⟨by rw [namesG_next]; exact HbA.out.1.step h01 hz hm2, HbA.out.2.1.grown hg2 HbA.out.2.1.size (fun g hg => by cases hg; omega), by rw [hg2.block _ (by have := HbA.out.1.map.lt; omega) (fun e => by have := Option.some.inj e; omega)]; exact HbA.out.2.2⟩)
          have hr1 : r ≤ 1 := by omega
          clear h01 hz hm2 hg2 ONE HB1
          go_wp2_with fail
          go_round
          case rel => exact ⟨b + 1, t + r, by omega, by go_num, by simp, FIN.out.1, FIN.out.2.1, FIN.out.2.2⟩
          case measure => simp [intOf]; omega
        · obtain rfl : b = M.glo.n := by omega
          clear hnm hb he
          go_wp2_with fail
          clear bb
          go_loopw [4, 7] (fun l iv wr => ∃ c t : Nat, c ≤ M.tab.n ∧ iv = .int .i64 c ∧ l = .int .i64 t ∧ Nm wr B (namesT M c) t ∧ Below w.heap.size w wr ∧ wr.heap[w.heap.size]? = W.heap[w.heap.size]?) (fun _ iv _ => M.tab.n - (intOf iv).toNat)
          case atStart => exact ⟨0, t, Nat.zero_le _, rfl, rfl, by rw [show namesT M 0 = namesG M M.glo.n by simp [namesT]]; exact HbA.out.1, HbA.out.2.1, HbA.out.2.2⟩
          case round =>
            obtain ⟨c, t, hc, rfl, rfl, hnm, hb, he⟩ := hrel
            have bb : wr.cell? ⟨w.heap.size, 2, none⟩ = some (.slice M.tab.a M.tab.n M.tab.c) := by rw [World.cell?_of_block (w := W) he]; exact BX.out.2.2.1
            have HcA := hid (And.intro hnm (And.intro hb he))
            by_cases lc : c < M.tab.n
            · obtain ⟨rb, ro, hrx, r0, r1⟩ := (HM.out.on hb).tab.at underlying24 size73 lc
              have hsz : ((M.T c).name).size ≤ 40 := (HS.out.tabI c lc).1
              have hlen := lenT M c
              have htl := hnm.le
              have hcn : ((namesT M c).map bytesOf).count ((M.T c).name.data.toList) ≤ 1000 := by
                have := List.count_le_length (a := (M.T c).name.data.toList) (l := (namesT M c).map bytesOf)
                rw [List.length_map] at this
                omega
              have ONE := hid (one_any B (namesT M c).length _ (M.T c).name wr hnm.map (by omega) hcn hsz)
              rw [hlen] at htl
              clear hnm hb he hcn hlen
              go_wp2_with fail
              refine ONE.out.mono ?_
              rintro e w2 ⟨r, rfl, h01, hz, hm2, hg2⟩
              have HB1 := HB.out
              have FIN := hid (show Nm w2 B (namesT M (c + 1)) (t + r) ∧ Below w.heap.size w w2 ∧ w2.heap[w.heap.size]? = W.heap[w.heap.size]? from ⟨by rw [namesT_next]; exact HcA.out.1.step h01 hz hm2, HcA.out.2.1.grown hg2 HcA.out.2.1.size (fun g hg => by cases hg; omega), by rw [hg2.block _ (by have := HcA.out.1.map.lt; omega) (fun e => by have := Option.some.inj e; omega)]; exact HcA.out.2.2⟩)
              have hr1 : r ≤ 1 := by omega
              clear h01 hz hm2 hg2 ONE HB1
              go_wp2_with fail
              go_round
              case rel => exact ⟨c + 1, t + r, by omega, by go_num, by simp, FIN.out.1, FIN.out.2.1, FIN.out.2.2⟩
              case measure => simp [intOf]; omega
            · obtain rfl : c = M.tab.n := by omega
              clear hnm hb he
              go_wp2_with fail
              clear bb
              go_loopw [4, 8] (fun l iv wr => ∃ d t : Nat, d ≤ M.fns.n ∧ iv = .int .i64 d ∧ l = .int .i64 t ∧ Nm wr B (namesF M d) t ∧ Below w.heap.size w wr ∧ wr.heap[w.heap.size]? = W.heap[w.heap.size]?) (fun _ iv _ => M.fns.n - (intOf iv).toNat)
              case atStart => exact ⟨0, t, Nat.zero_le _, rfl, rfl, by rw [show namesF M 0 = namesT M M.tab.n by simp [namesF]]; exact HcA.out.1, HcA.out.2.1, HcA.out.2.2⟩
              case round =>
                obtain ⟨d, t, hd, rfl, rfl, hnm, hb, he⟩ := hrel
                have bb : wr.cell? ⟨w.heap.size, 3, none⟩ = some (.slice M.fns.a M.fns.n M.fns.c) := by rw [World.cell?_of_block (w := W) he]; exact BX.out.2.2.2
                have HdA := hid (And.intro hnm (And.intro hb he))
                by_cases ld : d < M.fns.n
                · obtain ⟨rb, ro, hrx, r0, r1, r2, r3, r4⟩ := (HM.out.on hb).fns.at underlying25 size35 ld
                  have hsz : ((M.F d).name).size ≤ 40 := (HS.out.light d ld).name
                  have hlen := lenF M d
                  have htl := hnm.le
                  have hcn : ((namesF M d).map bytesOf).count ((M.F d).name.data.toList) ≤ 1000 := by
                    have := List.count_le_length (a := (M.F d).name.data.toList) (l := (namesF M d).map bytesOf)
                    rw [List.length_map] at this
                    omega
                  have ONE := hid (one_any B (namesF M d).length _ (M.F d).name wr hnm.map (by omega) hcn hsz)
                  rw [hlen] at htl
                  clear hnm hb he hcn hlen
                  go_wp2_with fail
                  refine ONE.out.mono ?_
                  rintro e w2 ⟨r, rfl, h01, hz, hm2, hg2⟩
                  have HB1 := HB.out
                  have FIN := hid (show Nm w2 B (namesF M (d + 1)) (t + r) ∧ Below w.heap.size w w2 ∧ w2.heap[w.heap.size]? = W.heap[w.heap.size]? from ⟨by rw [namesF_next]; exact HdA.out.1.step h01 hz hm2, HdA.out.2.1.grown hg2 HdA.out.2.1.size (fun g hg => by cases hg; omega), by rw [hg2.block _ (by have := HdA.out.1.map.lt; omega) (fun e => by have := Option.some.inj e; omega)]; exact HdA.out.2.2⟩)
                  have hr1 : r ≤ 1 := by omega
                  clear h01 hz hm2 hg2 ONE HB1
                  go_wp2_with fail
                  go_round
                  case rel => exact ⟨d + 1, t + r, by omega, by go_num, by simp, FIN.out.1, FIN.out.2.1, FIN.out.2.2⟩
                  case measure => simp [intOf]; omega
                · obtain rfl : d = M.fns.n := by omega
                  clear hnm hb he
                  cases ht : decide ((t : Int) = 0) with
                  | true =>
                    have h0 : t = 0 := by simpa using ht
                    have G := hid (HdA.out.1.good.1 h0)
                    subst h0
                    go_wp2_with fail
                    go_ret
                    exact ⟨true, rfl, by simp; exact G.out, HdA.out.2.1⟩
                  | false =>
                    have h0 : t ≠ 0 := by simpa using ht
                    have G := hid (show ¬ NameM M from fun h => h0 (HdA.out.1.good.2 h))
                    have q : ((t : Int) == 0) = false := by simp [h0]
                    clear ht h0
                    go_wp2_with fail
                    go_ret
                    exact ⟨false, rfl, by simp [G.out], HdA.out.2.1⟩

end Go.Proofs.Ytclioagemjpnoaa.Chk
