/-
  What the document's own Show answers (plnref1).
-/
import Derived.Test.YtlakhndnoaoheaaDoorLxK
import Derived.Laws.AppendOwnNone
namespace Go.Proofs.YtlakhndnoaoheaaDoor.Lx
open Go.RowKit

set_option linter.unusedVariables false

/-- Bytes as they lie. -/
structure InB (w : World) (ao : Option Addr) (k c : Nat) (xs : List Int) : Prop where
  len : xs.length = k
  cap : k ≤ c
  nul : ao = none → k = 0 ∧ c = 0
  cell : 0 < k → ∃ b off, ao = some ⟨b, off, none⟩ ∧ ∀ i, i < k → w.cell? ⟨b, off + i, none⟩ = some (.int .u8 (xs.getD i 0))

theorem InB.on {w w' : World} {ao : Option Addr} {k c : Nat} {xs : List Int} (hb : Below w.heap.size w w') (h : InB w ao k c xs) : InB w' ao k c xs :=
  ⟨h.len, h.cap, h.nul, fun h0 => by
    obtain ⟨b, off, ha, hc⟩ := h.cell h0
    exact ⟨b, off, ha, fun i hi => cell_on hb (hc i hi)⟩⟩

theorem InB.nil (w : World) : InB w none 0 0 [] := ⟨rfl, Nat.le_refl _, fun _ => ⟨rfl, rfl⟩, fun h => absurd h (by omega)⟩

theorem InB.cells {w : World} {ad : Addr} {m c : Nat} {ys : List Int} (h : InB w (some ad) m c ys) : ∀ j u, (ys.map (Value.int .u8))[j]? = some u → w.cell? (ad.add j) = some u := by
  intro j u hu
  have hl := h.len
  have hj : j < m := by have := (List.getElem?_eq_some_iff.1 hu).1; simp at this; omega
  obtain ⟨b, off, hab, hcell⟩ := h.cell (by omega)
  obtain rfl := Option.some.inj hab
  rw [Addr.add_lit, hcell j hj, ← hu]
  simp [hl, hj]

theorem infoByte : (Tryd.prog.info? 5).map (fun i => (i.zero, i.size, i.bytes)) = some (some (.int .u8 0), 1, 1) := by kernel_rfl

theorem append_lies {ops : Array Oper} {rest : List Oper} {o : Oper} {a : Act} {Q : Exit → Act → World → Prop} {w : World} (hgd : o.guard = none) (s x : Operand)
    (ho : o.op = .call { callee := .builtin .append, args := #[s, x], argTypes := #[43, 43] })
    (base : Nat) (v : Value) (n : Nat) (xs : List Int) (hs : a.eval s = v) (hown : w.ownsRow base 5 1 v n (xs.map (Value.int .u8)))
    (ao : Option Addr) (m c : Nat) (ys : List Int) (hx : a.eval x = .slice ao m c) (hin : InB w ao m c ys)
    (hbytes : n + m ≤ 1000) (hbase : base ≤ w.heap.size) (hpos : 0 < n + m)
    (h : ∀ ao' cap w', InB w' ao' (n + m) cap (xs ++ ys) → Below base w w' → wpList Tryd.prog ops Q rest (a.put o.dst (.slice ao' (n + m) cap)) w') : wpList Tryd.prog ops Q (o :: rest) a w := by
  obtain ⟨i0, hi, hz0, hz1, hz2⟩ := info_parts infoByte
  have key : ∀ v' w', w'.ownsRow base 5 1 v' (n + m) ((xs ++ ys).map (Value.int .u8)) → w.grownBy w' v.ownBlock → wpList Tryd.prog ops Q rest (a.put o.dst v') w' := fun v' w' h1 h2 => by
    have hh := h1
    rcases h1.2 with ⟨rfl, e⟩ | ⟨g, cap, cur, rfl, hb, hg, hnc, hm, hsz, ht⟩
    · omega
    · have hl := h1.1
      simp only [List.length_map, Nat.mul_one] at hl
      refine h (some ⟨g, 0, none⟩) cap w' ⟨hl, hnc, (fun e => by cases e), fun _ => ⟨g, 0, rfl, fun i hi => ?_⟩⟩ ((Below.refl base w).grown h2 hbase (fun k hk => (hown.lt k hk).1))
      have := hh.cellAt (g := g) i (by omega)
      rw [Nat.zero_add, this]
      have hi' : i < (xs ++ ys).length := by omega
      rw [List.getElem?_map, List.getElem?_eq_getElem hi', List.getD, List.getElem?_eq_getElem hi']
      rfl
  cases ao with
  | some ad =>
    refine wpList_append_own w hgd s x 43 ho base 5 i0 (.int .u8 0) 1 1 Tryd.underlying43 hi hz0 hz1 hz2 rfl (by decide) v n _ hs hown ad m c (ys.map (Value.int .u8)) hx (by simp [hin.len]) (InB.cells hin) (ints_oneCell _ _) (by unfold maxLen; omega) (by omega) hbase ?_
    intro v' w' h1 h2 _
    exact key v' w' (by rw [List.map_append]; exact h1) h2
  | none =>
    obtain ⟨rfl, rfl⟩ := hin.nul rfl
    have hy : ys = [] := List.eq_nil_of_length_eq_zero hin.len
    subst hy
    exact wpList_append_own_none hgd s x 43 ho base 5 i0 1 Tryd.underlying43 hi v n _ hs hown hx (key v w (by simpa using hown) (World.grownBy.refl _ _))

theorem own_one (w : World) (d : Int) : (w.alloc (.cells #[.int .u8 d] 5)).ownsRow w.heap.size 5 1 (.slice (some ⟨w.heap.size, 0, none⟩) 1 1) 1 (([d] : List Int).map (Value.int .u8)) :=
  ⟨rfl, .inr ⟨w.heap.size, 1, #[.int .u8 d], rfl, Nat.le_refl _, heap_alloc_new w _, Nat.le_refl _, by decide, rfl, rfl⟩⟩

theorem InB.conv {wx : World} {ao : Option Addr} {k c : Nat} {xs : List Int} (h : InB wx ao k c xs) : (convert 43 9 (.slice ao k c)).run Tryd.prog wx = .ok (.string (str xs)) wx :=
  run_conv wx ao k c xs h.len h.cell

def byt (xs : List Int) : List UInt8 := xs.map fun n => UInt8.ofNat n.toNat

def digitsS (u : Nat) : ByteArray := ⟨(Lib.decDigits u).toArray⟩

theorem digitsS_list (u : Nat) : (digitsS u).data.toList = Lib.decDigits u := by simp [digitsS]

theorem digs_step {u0 U : Nat} {xs : List Int} (h : Lib.decDigits u0 = Lib.decDigits U ++ byt xs) (hU : 9 < U) : Lib.decDigits u0 = Lib.decDigits (U / 10) ++ byt ((48 + (U : Int) % 10) :: xs) := by
  rw [h, dec_big (by omega), List.append_assoc]
  have e : (48 + (U : Int) % 10).toNat = 48 + U % 10 := by omega
  simp [byt, e]

theorem digs_last {u0 U : Nat} {xs : List Int} (h : Lib.decDigits u0 = Lib.decDigits U ++ byt xs) (hU : ¬ 9 < U) : str ((48 + (U : Int)) :: xs) = digitsS u0 := by
  apply ba_ext
  rw [str_list, digitsS_list, h, Lib.decDigits_one (by omega)]
  have e : (48 + (U : Int)).toNat = 48 + U := by omega
  simp [byt, e]

theorem digs_len {u0 U : Nat} {xs : List Int} (h : Lib.decDigits u0 = Lib.decDigits U ++ byt xs) (h0 : u0 < 18446744073709551616) : xs.length ≤ 20 := by
  have e := congrArg List.length h
  rw [Lib.decDigits_length, List.length_append] at e
  have := Lib.nDigits_le20 u0 h0
  simp [byt] at e
  omega

set_option maxHeartbeats 2000000 in
theorem digits_any (u0 : Nat) (w : World) (h0 : u0 ≤ 9223372036854775808) : Calls Tryd.prog 19 #[.int .u64 u0] w fun e w' => e = .returned (.string (digitsS u0)) ∧ Below w.heap.size w w' := by
  have H0 := hid (show u0 < 18446744073709551616 by omega)
  obtain ⟨a0, ha0⟩ : ∃ a : Int, a = (u0 : Int) := ⟨_, rfl⟩
  rw [← ha0]
  have HA := hid ha0
  clear ha0 h0
  go_enter Tryd.func19, Tryd.ntmps19
  go_wp2_with fail
  go_loopg [0, 3] u0 (fun g x y wr => ∃ (U k c : Nat) (a : Int) (ao : Option Addr) (xs : List Int), g = U ∧ x = .int .u64 a ∧ Hid (a = (U : Int)) ∧ 0 ≤ a ∧ a ≤ 18446744073709551615 ∧ y = .slice ao k c ∧ InB wr ao k c xs ∧ Hid (Lib.decDigits u0 = Lib.decDigits U ++ byt xs) ∧ Below w.heap.size w wr)
  case atStart => exact ⟨u0, 0, 0, a0, none, [], rfl, rfl, HA, by have := HA.out; omega, by have := HA.out; have := H0.out; omega, rfl, InB.nil _, hid (by simp [byt]), Below.refl _ _⟩
  case round =>
    obtain ⟨U, k, c, a, ao, xs, hg, rfl, EA, b0, b1, rfl, hin, EQ, hb⟩ := hrel
    have HIN := hid hin
    have HB := hid hb
    have z := hb.size
    have hk : k ≤ 20 := by rw [← hin.len]; exact digs_len EQ.out H0.out
    clear hin hb
    by_cases h9 : 9 < a
    · have t1 : decide (9 < a) = true := by simpa using h9
      have HN := hid (digs_step EQ.out (by have := EA.out; omega))
      have HE := hid (show a / 10 = ((U / 10 : Nat) : Int) by have := EA.out; omega)
      have HD := hid (show (48 + (U : Int) % 10) = 48 + a % 10 by have := EA.out; omega)
      have d0 : 0 ≤ a % 10 := by omega
      have d1 : a % 10 ≤ 9 := by omega
      have hu : U ≠ 0 := by have := EA.out; omega
      have ha3 : 0 ≤ a / 10 := by omega
      have ha4 : a / 10 ≤ 18446744073709551615 := by omega
      go_wp2_with (at_builtin; refine append_lies rfl (.tmp 10) (.tmp 11) rfl wr.heap.size _ 1 [48 + a % 10] rfl (by exact own_one wr _) ao k c xs rfl (by exact HIN.out.on (new (same wr) _)) (by omega) (by simp) (by omega) ?_; intro ao' cap w1 hin1 hb1)
      have H1 := hid hin1
      have HB1 := hid (show Below w.heap.size w w1 from (HB.out.alloc z _).trans (hb1.mono z))
      clear hin1 hb1
      go_roundg (U / 10)
      case measure => omega
      case rel => exact ⟨U / 10, _, _, a / 10, ao', _, rfl, rfl, HE, ha3, ha4, rfl, H1.out, hid (by rw [HN.out, HD.out]; rfl), HB1.out⟩
    · have t1 : decide (9 < a) = false := by simpa using h9
      have HL := hid (digs_last EQ.out (by have := EA.out; omega))
      have HD := hid (show (48 + (U : Int)) = 48 + a by have := EA.out; omega)
      have ha5 : a ≤ 9 := by omega
      go_wp2_with (at_builtin; refine append_lies rfl (.tmp 18) (.tmp 19) rfl wr.heap.size _ 1 [48 + a] rfl (by exact own_one wr _) ao k c xs rfl (by exact HIN.out.on (new (same wr) _)) (by omega) (by simp) (by omega) ?_; intro ao' cap w1 hin1 hb1; have hcv := hin1.conv; have HB1 := hid (show Below w.heap.size w w1 from (HB.out.alloc z _).trans (hb1.mono z)); clear hin1 hb1)
      go_ret
      exact ⟨by rw [← HL.out, HD.out]; rfl, HB1.out⟩

theorem show_nonneg (u : Nat) : digitsS u = shown (u : Int) := by
  apply ba_ext
  rw [digitsS_list, shown_list, Lib.itoa_nonneg]

theorem show_minus (u : Nat) (h : 1 ≤ u) : (ByteArray.mk #[45]) ++ digitsS u = shown (-(u : Int)) := by
  apply ba_ext
  rw [ba_app, digitsS_list, shown_list, Lib.itoa_neg u h]
  rfl

theorem digitsS_size {u : Nat} (h : u < 18446744073709551616) : (digitsS u).size ≤ 20 := by
  rw [ba_size, digitsS_list, Lib.decDigits_length]; exact Lib.nDigits_le20 u h

set_option maxHeartbeats 2000000 in
theorem rshow_any (n : Int) (w : World) (hn : W64 n) : Calls Tryd.prog 13 #[.int .i64 n] w fun e w' => e = .returned (.string (shown n)) ∧ Below w.heap.size w w' := by
  obtain ⟨h0, h1⟩ := hn
  by_cases hp : 0 ≤ n
  · obtain ⟨u, hu⟩ : ∃ u : Nat, n = u := ⟨n.toNat, by omega⟩
    have t1 : decide (0 ≤ n) = true := by simpa using hp
    have HU := hid hu
    have c1 : Hid (∀ w1, Calls Tryd.prog 19 #[.int .u64 n] w1 fun e w' => e = .returned (.string (shown n)) ∧ Below w1.heap.size w1 w') := by
      intro w1
      rw [hu, ← show_nonneg]
      exact digits_any u w1 (by omega)
    clear hu
    go_enter Tryd.func13, Tryd.ntmps13
    go_wp2_with (go_at_call 19; refine (c1.out _).mono ?_; rintro e w' ⟨rfl, hb⟩; have HB := hid hb; clear hb)
    go_ret
    exact ⟨rfl, HB.out⟩
  · obtain ⟨u, hu⟩ : ∃ u : Nat, n = -(u : Int) := ⟨n.natAbs, by omega⟩
    have hu1 : 1 ≤ u := by omega
    have hu2 : u ≤ 9223372036854775808 := by omega
    have t1 : decide (0 ≤ n) = false := by simpa using hp
    obtain ⟨d, hd⟩ : ∃ d, digitsS u = d := ⟨_, rfl⟩
    have hds : d.size ≤ 20 := by rw [← hd]; exact digitsS_size (by omega)
    have HS := hid (show (ByteArray.mk #[45]) ++ d = shown n by rw [← hd, hu]; exact show_minus u hu1)
    have c1 : Hid (∀ w1 (m : Int), m = -n → Calls Tryd.prog 19 #[.int .u64 m] w1 fun e w' => e = .returned (.string d) ∧ Below w1.heap.size w1 w') := by
      intro w1 m e
      rw [e, hu, Int.neg_neg, ← hd]
      exact digits_any u w1 hu2
    have hn1 : n < 0 := by omega
    have hn2 : 0 ≤ -1 - n := by omega
    have hn3 : -1 - n ≤ 9223372036854775807 := by omega
    clear hu hd hp hu1 hu2
    go_enter Tryd.func13, Tryd.ntmps13
    go_wp2_with (go_at_call 19; refine (c1.out _ _ ?_).mono ?_; rotate_left; rintro e w' ⟨rfl, hb⟩; have HB := hid hb; clear hb)
    · go_ret
      exact ⟨by rw [← HS.out]; rfl, HB.out⟩
    · omega

end Go.Proofs.YtlakhndnoaoheaaDoor.Lx
