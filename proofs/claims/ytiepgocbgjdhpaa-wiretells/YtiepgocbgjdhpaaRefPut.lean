/-
  What the document's own Put and PutText answer (plnref1), as contracts of the translated code: the same bytes as wire's.
-/
import Derived.Test.YtiepgocbgjdhpaaApp
import Derived.Laws.BitsAllLaws
import Derived.WalkKit
import Derived.ProofKit
import Derived.WalkSpells
import Derived.Deep.Light
namespace Go.Proofs.Ytiepgocbgjdhpaa.RefPut
open Go.RowKit Plain Get Cv Put GetText First Law Math App

set_option linter.unusedVariables false

theorem own_empty (w : World) : (w.alloc (.cells #[] 5)).ownsRow w.heap.size 5 1 (.slice (some ⟨w.heap.size, 0, none⟩) 0 0) 0 (([] : List Int).map (Value.int .u8)) :=
  ⟨rfl, .inr ⟨w.heap.size, 0, #[], rfl, Nat.le_refl _, heap_alloc_new w _, Nat.le_refl _, Nat.zero_le _, rfl, rfl⟩⟩

theorem own_mono {B B' : Nat} {w : World} {v : Value} {n : Nat} {xs : List Value} (h : w.ownsRow B 5 1 v n xs) (hB : B' ≤ B) : w.ownsRow B' 5 1 v n xs := by
  refine ⟨h.1, ?_⟩
  rcases h.2 with h2 | ⟨g, cap, cur, h3, h4, h5⟩
  · exact .inl h2
  · exact .inr ⟨g, cap, cur, h3, Nat.le_trans hB h4, h5⟩

theorem own_one (w : World) (d : Int) : (w.alloc (.cells #[.int .u8 d] 5)).ownsRow w.heap.size 5 1 (.slice (some ⟨w.heap.size, 0, none⟩) 1 1) 1 (([d] : List Int).map (Value.int .u8)) :=
  ⟨rfl, .inr ⟨w.heap.size, 1, #[.int .u8 d], rfl, Nat.le_refl _, heap_alloc_new w _, Nat.le_refl _, by decide, rfl, rfl⟩⟩

theorem below_alloc (w : World) (o : Obj) : Below w.heap.size w (w.alloc o) := (Below.refl _ _).alloc (Nat.le_refl _) o

theorem own_is {base : Nat} {w : World} {g n cap : Nat} {xs : List Int} (h : w.ownsRow base 5 1 (.slice (some ⟨g, 0, none⟩) n cap) n (xs.map (Value.int .u8))) (hn : 0 < n) : Own base w g n cap xs := by
  obtain ⟨g', c', he, ho⟩ := own_of h hn
  simp at he
  obtain ⟨rfl, rfl⟩ := he
  exact ho

theorem Own.whole {base : Nat} {w : World} {g n cap : Nat} {xs : List Int} (h : Own base w g n cap xs) (hb : ∀ x ∈ xs, 0 ≤ x ∧ x ≤ 255) : In w (some ⟨g, 0, none⟩) n cap xs :=
  ⟨h.hlen, h.reads hb, fun h => by cases h⟩

theorem ediv_bd {x : Int} {k : Nat} (h0 : 0 ≤ x) (h1 : x ≤ 9223372036854775807) : 0 ≤ x / 2 ^ (8 * k) ∧ x / 2 ^ (8 * k) ≤ 9223372036854775807 := by
  have hp := pow_pos8 (8 * k)
  exact ⟨Int.ediv_nonneg h0 (Int.le_of_lt hp), Int.le_trans (Int.ediv_le_self _ h0) h1⟩

theorem low_of {x : Int} {k : Nat} (h0 : 0 ≤ x) (h : 0 < x / 2 ^ (8 * k)) : 2 ^ (8 * k) ≤ x := by
  have hp := pow_pos8 (8 * k)
  have := (Int.le_ediv_iff_mul_le hp (a := 1) (b := x)).1 (by omega)
  omega

theorem small_k {x : Int} {k : Nat} (h0 : 0 ≤ x) (h1 : x ≤ 9223372036854775807) (h : 0 < x / 2 ^ (8 * k)) : k + 1 ≤ 8 := by
  have hl := low_of h0 h
  rcases Nat.lt_or_ge k 8 with hk | hk
  · omega
  · exfalso
    have h3 : (2 : Nat) ^ 64 ≤ 2 ^ (8 * k) := Nat.pow_le_pow_right (by decide) (by omega)
    have h4 : ((2 ^ (8 * k) : Nat) : Int) = (2 : Int) ^ (8 * k) := by simp
    have h5 : (2 : Nat) ^ 64 = 18446744073709551616 := by decide
    omega

theorem next_of (x : Int) (k : Nat) : x / 2 ^ (8 * k) / 256 = x / 2 ^ (8 * (k + 1)) := by
  rw [pow_succ8, Int.ediv_ediv_of_nonneg (Int.le_of_lt (pow_pos8 _))]

theorem many_of (x : Int) (k : Nat) (h0 : 0 ≤ x) (h1 : x ≤ 9223372036854775807) (hk : k ≤ 8) (hl : 0 < k → 2 ^ (8 * (k - 1)) ≤ x) (hz : x / 2 ^ (8 * k) = 0) : many x = k := by
  have hp := pow_pos8 (8 * k)
  have hlt : x < 2 ^ (8 * k) := by
    have := Int.lt_mul_of_ediv_lt hp (show x / 2 ^ (8 * k) < 1 by omega)
    omega
  rcases Nat.eq_zero_or_pos k with rfl | hk0
  · simp at hlt
    have : x = 0 := by omega
    subst this; exact many_zero
  · obtain ⟨j, rfl⟩ : ∃ j, k = j + 1 := ⟨k - 1, by omega⟩
    exact many_eq x j (by omega) (by simpa using hl hk0) hlt

theorem and255 (u : Int) (h0 : 0 ≤ u) (h1 : u ≤ 9223372036854775807) : bits .and .u64 u 255 = u % 256 := by
  rw [u64_and u 255 (by omega) (by omega) (by omega) (by omega)]
  have : u.toNat &&& (255 : Int).toNat = u.toNat % 256 := Nat.and_two_pow_sub_one_eq_mod u.toNat 8
  rw [this]
  omega

set_option maxHeartbeats 2000000 in
theorem rput_pos (a : Option Addr) (len cap : Nat) (xs : List Int) (n : Int) (w : World) (h0 : 0 ≤ n) (h1 : n ≤ 9223372036854775807)
    (hin : In w a len cap xs) (hlen : len ≤ 100000000000) :
    Calls Try.prog 13 #[.slice a len cap, .int .i64 n] w fun e w' => ∃ g c, e = .returned (.slice (some ⟨g, 0, none⟩) (len + 1 + many (n)) c) ∧ w'.ownsRow w.heap.size 5 1 (.slice (some ⟨g, 0, none⟩) (len + 1 + many (n)) c) (len + 1 + many (n)) ((xs ++ [(0 : Int) + (many (n) : Int)] ++ digs (n) (many (n))).map (Value.int .u8)) ∧ Below w.heap.size w w' := by
  obtain ⟨i0, hi, hz0, hz1, hz2⟩ := info_parts info5
  have HI := hide hin
  clear hin
  have hS0 : 0 ≤ n := by omega
  have hS1 : n ≤ 9223372036854775807 := by omega
  go_enter Try.func13, Try.ntmps13
  go_wp2_with fail
  go_loopw [5, 7] (fun u l wr => ∃ (k c : Nat) (ao : Option Addr), u = .int .u64 ((n) / 2 ^ (8 * k)) ∧ l = .slice ao k c ∧ In wr ao k c (digs (n) k) ∧ k ≤ 8 ∧ (0 < k → 2 ^ (8 * (k - 1)) ≤ n) ∧ Below w.heap.size w wr) (fun u _ _ => (intOf u).toNat)
  case atStart => exact ⟨0, 0, none, by simp, rfl, in_nil _, by omega, fun h => absurd h (by omega), Below.refl _ _⟩
  case round =>
    obtain ⟨k, c, ao, rfl, rfl, hI, hk8, hlow, hbel⟩ := hrel
    have hsz := hbel.size
    have hu0 := ediv_bd (k := k) hS0 hS1
    by_cases hz : (n) / 2 ^ (8 * k) = 0
    · have hm : Hid (many (n) = k) := many_of (n) k hS0 hS1 hk8 hlow hz
      have HU := hide hz
      have hIk := hI
      have HL := hide hI
      have hzz : ¬ 0 < (n) / 2 ^ (8 * k) := by omega
      generalize (n) / 2 ^ (8 * k) = U at *
      have hU : U = 0 := HU.out
      subst hU
      clear hI hlow hIk
      go_wp2_with (first
        | (at_builtin; refine append_in rfl (.tmp 26) (.tmp 27) rfl wr.heap.size _ 0 [] rfl (own_empty wr) _ len cap xs rfl (by exact In.carry (In.carry HI.out hbel) (below_alloc wr _)) (by omega) (by simp) ?_; intro v1 w1 hown1 hgrow1; simp only [Nat.zero_add, List.nil_append] at hown1; have hsz1 := hgrow1.size; simp at hsz1)
        | (at_builtin; refine wpList_append_own _ rfl (.tmp 29) (.tmp 35) 22 rfl wr.heap.size 5 i0 (.int .u8 0) 1 1 Try.underlying22 hi hz0 hz1 hz2 rfl (by decide) _ _ _ rfl (hown1.alloc _) ⟨_, 0, none⟩ 1 1 [.int .u8 ((k : Int))] rfl rfl (cell_one_new _ _ _) (by intro u hu; simp at hu; subst hu; rfl) (by unfold maxLen; omega) (by omega) (by simp; omega) ?_; intro v2 w2 hown2 hgrow2 _; have hb1 : Below wr.heap.size wr w1 := (below_alloc wr _).grown hgrow1 (by simp) (fun k hk => by cases hk; exact Nat.le_refl _); have hb2 : Below wr.heap.size wr w2 := (hb1.alloc (by omega) _).grown hgrow2 (by simp; omega) (fun k hk => (hown1.lt k hk).1); have HO2 : Hid (w2.ownsRow wr.heap.size 5 1 v2 (len + 1) ((xs ++ [(k : Int)]).map (Value.int .u8))) := (by simpa using hown2 : w2.ownsRow wr.heap.size 5 1 v2 (len + 1) ((xs ++ [(k : Int)]).map (Value.int .u8))); have hsz2 := hb2.size; clear hown1 hown2 hgrow1 hgrow2)
        | (at_builtin; refine append_lies rfl (.tmp 37) (.tmp 38) rfl wr.heap.size _ (len + 1) (xs ++ [(k : Int)]) rfl HO2.out _ k c (digs (n) k) rfl (by exact In.carry HL.out hb2) (by omega) (by omega) (by omega) ?_; intro g3 c3 w3 hown3 hb3))
      go_ret
      rw [List.append_assoc] at hown3
      have ho := own_mono hown3 hsz
      rw [hm.out]
      refine ⟨g3, c3, rfl, ?_, (hbel.trans (hb2.mono hsz)).trans (hb3.mono hsz)⟩
      simpa using ho
    · have hpos : 0 < (n) / 2 ^ (8 * k) := by omega
      have hHI := hide hI
      have hk7 : k + 1 ≤ 8 := small_k hS0 hS1 hpos
      have hlow' : Hid (2 ^ (8 * k) ≤ n) := low_of hS0 hpos
      have hand := and255 _ hu0.1 hu0.2
      have hnext : Hid ((n) / 2 ^ (8 * k) / 256 = (n) / 2 ^ (8 * (k + 1))) := next_of _ _
      have hdig : Hid (digs (n) (k + 1) = [(n) / 2 ^ (8 * k) % 256] ++ digs (n) k) := rfl
      generalize (n) / 2 ^ (8 * k) = U at *
      clear hI hlow
      go_wp2_with (at_builtin; refine append_lies rfl (.tmp 21) (.tmp 22) rfl wr.heap.size _ 1 [U % 256] rfl (by exact own_one wr _) _ k c (digs (n) k) rfl (by exact In.carry hHI.out (below_alloc wr _)) (by omega) (by simp) (by omega) ?_; intro g1 c1 w1 hown1 hb1)
      have ho := own_is hown1 (by omega)
      have hbn : Below w.heap.size w w1 := hbel.trans (((below_alloc wr _).trans hb1).mono hsz)
      have HN : Hid (In w1 (some ⟨g1, 0, none⟩) (k + 1) c1 (digs (n) (k + 1))) := by
        rw [hdig.out, Nat.add_comm k 1]
        exact Own.whole ho (by rw [← hdig.out]; exact digs_bytes _ _)
      clear hown1 hb1 ho
      go_wp2_with fail
      go_roundw
      case rel => exact ⟨k + 1, c1, some ⟨g1, 0, none⟩, by rw [← hnext.out], by rw [Nat.add_comm k 1], HN.out, hk7, fun _ => hlow'.out, hbn⟩
      case measure => simp [intOf]; omega

set_option maxHeartbeats 2000000 in
theorem rput_neg (a : Option Addr) (len cap : Nat) (xs : List Int) (n : Int) (w : World) (h0 : n < 0) (h1 : -9223372036854775808 ≤ n)
    (hin : In w a len cap xs) (hlen : len ≤ 100000000000) :
    Calls Try.prog 13 #[.slice a len cap, .int .i64 n] w fun e w' => ∃ g c, e = .returned (.slice (some ⟨g, 0, none⟩) (len + 1 + many (-1 - n)) c) ∧ w'.ownsRow w.heap.size 5 1 (.slice (some ⟨g, 0, none⟩) (len + 1 + many (-1 - n)) c) (len + 1 + many (-1 - n)) ((xs ++ [16 + (many (-1 - n) : Int)] ++ digs (-1 - n) (many (-1 - n))).map (Value.int .u8)) ∧ Below w.heap.size w w' := by
  obtain ⟨i0, hi, hz0, hz1, hz2⟩ := info_parts info5
  have HI := hide hin
  clear hin
  have hS0 : 0 ≤ -1 - n := by omega
  have hS1 : -1 - n ≤ 9223372036854775807 := by omega
  go_enter Try.func13, Try.ntmps13
  go_wp2_with fail
  go_loopw [5, 7] (fun u l wr => ∃ (k c : Nat) (ao : Option Addr), u = .int .u64 ((-1 - n) / 2 ^ (8 * k)) ∧ l = .slice ao k c ∧ In wr ao k c (digs (-1 - n) k) ∧ k ≤ 8 ∧ (0 < k → 2 ^ (8 * (k - 1)) ≤ -1 - n) ∧ Below w.heap.size w wr) (fun u _ _ => (intOf u).toNat)
  case atStart => exact ⟨0, 0, none, by simp, rfl, in_nil _, by omega, fun h => absurd h (by omega), Below.refl _ _⟩
  case round =>
    obtain ⟨k, c, ao, rfl, rfl, hI, hk8, hlow, hbel⟩ := hrel
    have hsz := hbel.size
    have hu0 := ediv_bd (k := k) hS0 hS1
    by_cases hz : (-1 - n) / 2 ^ (8 * k) = 0
    · have hm : Hid (many (-1 - n) = k) := many_of (-1 - n) k hS0 hS1 hk8 hlow hz
      have HU := hide hz
      have hIk := hI
      have HL := hide hI
      have hzz : ¬ 0 < (-1 - n) / 2 ^ (8 * k) := by omega
      generalize (-1 - n) / 2 ^ (8 * k) = U at *
      have hU : U = 0 := HU.out
      subst hU
      clear hI hlow hIk
      go_wp2_with (first
        | (at_builtin; refine append_in rfl (.tmp 26) (.tmp 27) rfl wr.heap.size _ 0 [] rfl (own_empty wr) _ len cap xs rfl (by exact In.carry (In.carry HI.out hbel) (below_alloc wr _)) (by omega) (by simp) ?_; intro v1 w1 hown1 hgrow1; simp only [Nat.zero_add, List.nil_append] at hown1; have hsz1 := hgrow1.size; simp at hsz1)
        | (at_builtin; refine wpList_append_own _ rfl (.tmp 29) (.tmp 35) 22 rfl wr.heap.size 5 i0 (.int .u8 0) 1 1 Try.underlying22 hi hz0 hz1 hz2 rfl (by decide) _ _ _ rfl (hown1.alloc _) ⟨_, 0, none⟩ 1 1 [.int .u8 (16 + (k : Int))] rfl rfl (cell_one_new _ _ _) (by intro u hu; simp at hu; subst hu; rfl) (by unfold maxLen; omega) (by omega) (by simp; omega) ?_; intro v2 w2 hown2 hgrow2 _; have hb1 : Below wr.heap.size wr w1 := (below_alloc wr _).grown hgrow1 (by simp) (fun k hk => by cases hk; exact Nat.le_refl _); have hb2 : Below wr.heap.size wr w2 := (hb1.alloc (by omega) _).grown hgrow2 (by simp; omega) (fun k hk => (hown1.lt k hk).1); have HO2 : Hid (w2.ownsRow wr.heap.size 5 1 v2 (len + 1) ((xs ++ [16 + (k : Int)]).map (Value.int .u8))) := (by simpa using hown2 : w2.ownsRow wr.heap.size 5 1 v2 (len + 1) ((xs ++ [16 + (k : Int)]).map (Value.int .u8))); have hsz2 := hb2.size; clear hown1 hown2 hgrow1 hgrow2)
        | (at_builtin; refine append_lies rfl (.tmp 37) (.tmp 38) rfl wr.heap.size _ (len + 1) (xs ++ [16 + (k : Int)]) rfl HO2.out _ k c (digs (-1 - n) k) rfl (by exact In.carry HL.out hb2) (by omega) (by omega) (by omega) ?_; intro g3 c3 w3 hown3 hb3))
      go_ret
      rw [List.append_assoc] at hown3
      have ho := own_mono hown3 hsz
      rw [hm.out]
      refine ⟨g3, c3, rfl, ?_, (hbel.trans (hb2.mono hsz)).trans (hb3.mono hsz)⟩
      simpa using ho
    · have hpos : 0 < (-1 - n) / 2 ^ (8 * k) := by omega
      have hHI := hide hI
      have hk7 : k + 1 ≤ 8 := small_k hS0 hS1 hpos
      have hlow' : Hid (2 ^ (8 * k) ≤ -1 - n) := low_of hS0 hpos
      have hand := and255 _ hu0.1 hu0.2
      have hnext : Hid ((-1 - n) / 2 ^ (8 * k) / 256 = (-1 - n) / 2 ^ (8 * (k + 1))) := next_of _ _
      have hdig : Hid (digs (-1 - n) (k + 1) = [(-1 - n) / 2 ^ (8 * k) % 256] ++ digs (-1 - n) k) := rfl
      generalize (-1 - n) / 2 ^ (8 * k) = U at *
      clear hI hlow
      go_wp2_with (at_builtin; refine append_lies rfl (.tmp 21) (.tmp 22) rfl wr.heap.size _ 1 [U % 256] rfl (by exact own_one wr _) _ k c (digs (-1 - n) k) rfl (by exact In.carry hHI.out (below_alloc wr _)) (by omega) (by simp) (by omega) ?_; intro g1 c1 w1 hown1 hb1)
      have ho := own_is hown1 (by omega)
      have hbn : Below w.heap.size w w1 := hbel.trans (((below_alloc wr _).trans hb1).mono hsz)
      have HN : Hid (In w1 (some ⟨g1, 0, none⟩) (k + 1) c1 (digs (-1 - n) (k + 1))) := by
        rw [hdig.out, Nat.add_comm k 1]
        exact Own.whole ho (by rw [← hdig.out]; exact digs_bytes _ _)
      clear hown1 hb1 ho
      go_wp2_with fail
      go_roundw
      case rel => exact ⟨k + 1, c1, some ⟨g1, 0, none⟩, by rw [← hnext.out], by rw [Nat.add_comm k 1], HN.out, hk7, fun _ => hlow'.out, hbn⟩
      case measure => simp [intOf]; omega

theorem rput_own (a : Option Addr) (len cap : Nat) (xs : List Int) (n : Int) (w : World) (h0 : -9223372036854775808 ≤ n) (h1 : n ≤ 9223372036854775807)
    (hin : In w a len cap xs) (hlen : len ≤ 100000000000) :
    Calls Try.prog 13 #[.slice a len cap, .int .i64 n] w fun e w' => ∃ g c, e = .returned (.slice (some ⟨g, 0, none⟩) (len + (num n).length) c) ∧ w'.ownsRow w.heap.size 5 1 (.slice (some ⟨g, 0, none⟩) (len + (num n).length) c) (len + (num n).length) ((xs ++ num n).map (Value.int .u8)) ∧ Below w.heap.size w w' := by
  have e1 : len + (num n).length = len + 1 + many (bare n) := by rw [num_length]; omega
  rw [e1]
  by_cases hn : n < 0
  · have e : bare n = -1 - n := if_pos hn
    have e2 : xs ++ num n = xs ++ [16 + (many (bare n) : Int)] ++ digs (bare n) (many (bare n)) := by simp [num, hn]
    rw [e2, e]
    exact rput_neg a len cap xs n w hn h0 hin hlen
  · have e : bare n = n := if_neg hn
    have e2 : xs ++ num n = xs ++ [0 + (many (bare n) : Int)] ++ digs (bare n) (many (bare n)) := by simp [num, hn]
    rw [e2, e]
    exact rput_pos a len cap xs n w (by omega) h1 hin hlen

theorem rput_any (a : Option Addr) (len cap : Nat) (xs : List Int) (n : Int) (w : World) (h0 : -9223372036854775808 ≤ n) (h1 : n ≤ 9223372036854775807)
    (hin : In w a len cap xs) (hlen : len ≤ 100000000000) :
    Calls Try.prog 13 #[.slice a len cap, .int .i64 n] w fun e w' => ∃ g c, e = .returned (.slice (some ⟨g, 0, none⟩) (len + (num n).length) c) ∧ Own w.heap.size w' g (len + (num n).length) c (xs ++ num n) ∧ Below w.heap.size w w' :=
  (rput_own a len cap xs n w h0 h1 hin hlen).mono fun e w' ⟨g, c, he, ho, hb⟩ => ⟨g, c, he, own_is ho (by have := num_pos n; omega), hb⟩

set_option maxHeartbeats 400000 in
theorem rputText_any (a : Option Addr) (len cap : Nat) (xs : List Int) (s : ByteArray) (w : World)
    (hin : In w a len cap xs) (hlen : len ≤ 100000000000) (hs : s.size ≤ 100000000000) :
    Calls Try.prog 15 #[.slice a len cap, .string s] w fun e w' => ∃ g c, e = .returned (.slice (some ⟨g, 0, none⟩) (len + (num s.size).length + s.size) c) ∧ Own w.heap.size w' g (len + (num s.size).length + s.size) c (xs ++ num s.size ++ sb s) ∧ Below w.heap.size w w' := by
  obtain ⟨i0, hi, hz0, hz1, hz2⟩ := info_parts info5
  have hnl := num_le (n := s.size) (by omega) (by omega)
  have hnp := num_pos s.size
  have HI := hide hin
  clear hin
  go_enter Try.func15, Try.ntmps15
  go_wp2_with fail
  refine (rput_own a len cap xs _ w (by omega) (by omega) HI.out (by omega)).mono ?_
  rintro e w1 ⟨g1, c1, rfl, hown1, hb1⟩
  have hs1 := hb1.size
  go_wp2_with (at_builtin; refine Lib.wpList_append_own_string _ rfl (.tmp 8) (.tmp 9) 22 9 rfl w.heap.size 5 i0 Try.underlying22 Try.underlying9 hi hz0 hz1 hz2 _ _ _ rfl hown1 _ rfl ?c3 ?c4 ?c5 ?_)
  case c3 => unfold maxLen; omega
  case c4 => omega
  case c5 => omega
  intro v3 w3 hown3 hgrow3 _
  go_wp2_with fail
  go_ret
  have hown4 : w3.ownsRow w.heap.size 5 1 v3 (len + (num s.size).length + s.size) ((xs ++ num s.size ++ sb s).map (Value.int .u8)) := by
    rw [strCells_sb] at hown3
    rw [List.append_assoc, List.map_append, List.map_append]
    exact hown3
  obtain ⟨g, c, hv, ho⟩ := own_of hown4 (by omega)
  exact ⟨g, c, congrArg Ending.returned hv, ho, hb1.grown hgrow3 (by omega) (fun k hk => (hown1.lt k hk).1)⟩

end Go.Proofs.Ytiepgocbgjdhpaa.RefPut
