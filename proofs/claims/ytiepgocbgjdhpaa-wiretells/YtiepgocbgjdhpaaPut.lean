/-
  What wire.copyWithRoom, wire.appendNumber and wire.Put answer, as contracts of the translated code.
-/
import Derived.Test.YtiepgocbgjdhpaaProg
import Derived.Test.YtiepgocbgjdhpaaPlain
import Derived.Test.YtiepgocbgjdhpaaLen
import Derived.Test.YtiepgocbgjdhpaaGet
import Derived.WalkKit
import Derived.ProofKit
import Derived.WalkSpells
import Derived.Deep.Light
import Derived.Deep.AppendLies
import Derived.Lib.AppendStr
namespace Go.Proofs.Ytiepgocbgjdhpaa.Put
open Go.RowKit Plain Get

set_option linter.unusedVariables false

theorem info5 : (Try.prog.info? 5).map (fun i => (i.zero, i.size, i.bytes)) = some (some (.int .u8 0), 1, 1) := by kernel_rfl

theorem len64B (x : Int) (B : Nat) (w : World) (h0 : 0 ≤ x) (h1 : x ≤ 18446744073709551615) (hB : Lib.bitLen x.toNat = B) :
    Calls Try.prog 19 #[.int .u64 x] w fun e w' => e = .returned (.int .i64 (B : Int)) ∧ w' = w := by
  subst hB; exact Len.len64 x w h0 h1

set_option maxHeartbeats 1000000 in
theorem append_pos (base : Nat) (v : Value) (m : Nat) (xs : List Int) (n : Int) (w : World) (h0 : 0 ≤ n) (h1 : n ≤ 9223372036854775807)
    (hown : w.ownsRow base 5 1 v m (xs.map (Value.int .u8))) (hm : m ≤ 1000000000000) (hbase : base ≤ w.heap.size) (B K : Nat) (hB : Lib.bitLen (n).toNat = B) (hB64 : B ≤ 64) (hK : ((B : Int) + 7) / 8 = K) (hK8 : K ≤ 8) :
    Calls Try.prog 17 #[v, .int .i64 n] w fun e w' => ∃ v', e = .returned v' ∧ w'.ownsRow base 5 1 v' (m + 1 + K) ((xs ++ [(K : Int)] ++ digs (n) K).map (Value.int .u8)) ∧ Below base w w' := by
  obtain ⟨i0, hi, hz0, hz1, hz2⟩ := info_parts info5
  have HB := hide hB
  clear hB
  go_enter Try.func17, Try.ntmps17
  go_wp2_with (first
    | (go_at_call 19; refine (len64B _ B _ (by omega) (by omega) HB.out).mono ?_; rintro e w' ⟨rfl, rfl⟩)
    | (at_builtin; refine wpList_append_own _ rfl (.tmp 19) (.tmp 24) 22 rfl base 5 i0 (.int .u8 0) 1 1 Try.underlying22 hi hz0 hz1 hz2 rfl (by decide) _ _ _ rfl (hown.alloc _) ⟨_, 0, none⟩ 1 1 [.int .u8 ((K : Int))] rfl rfl ?c1 ?c2 ?c3 ?c4 ?c5 ?_))
  case c1 => exact cell_one_new _ _ _
  case c2 => intro u hu; simp at hu; subst hu; rfl
  case c3 => unfold maxLen; omega
  case c4 => omega
  case c5 => simp; omega
  intro v1 w1 hown1 hgrow1 _
  have hb1 : Below base w' w1 := ((Below.refl base w').alloc hbase _).grown hgrow1 (by simp; omega) (fun k hk => (hown.lt k hk).1)
  have hown1' : w1.ownsRow base 5 1 v1 (m + 1) ((xs ++ [(K : Int)]).map (Value.int .u8)) := by simpa using hown1
  have HO := hide hown1'
  clear hown1 hown1' hgrow1 hown
  go_wp2_with fail
  go_loopw [0, 8] (fun v l wr => ∃ (k j : Nat) (q : Int), k + j = K ∧ q + 1 = k ∧ l = .int .i64 q ∧ wr.ownsRow base 5 1 v (m + 1 + j) ((xs ++ [(K : Int)] ++ top (n) k j).map (Value.int .u8)) ∧ Below base w' wr) (fun _ l _ => (intOf l + 1).toNat)
  case atStart => exact ⟨K, 0, _, rfl, by omega, rfl, by simpa [top] using HO.out, hb1⟩
  case round =>
    clear HO hb1
    obtain ⟨k, j, q, hkj, hq, rfl, hown, hbel⟩ := hrel
    by_cases hk : k = 0
    · obtain rfl : q = -1 := by omega
      subst hk
      obtain rfl : j = K := by omega
      go_wp2_with fail
      go_ret
      refine ⟨_, rfl, ?_, hbel⟩
      rw [digs_is_top]; exact hown
    · obtain ⟨k', rfl⟩ : ∃ k', k = k' + 1 := ⟨k - 1, by omega⟩
      obtain rfl : q = (k' : Int) := by omega
      have hsz := hbel.size
      clear hq hk
      go_wp2_with (at_builtin; refine wpList_append_own _ rfl (.tmp 32) (.tmp 39) 22 rfl base 5 i0 (.int .u8 0) 1 1 Try.underlying22 hi hz0 hz1 hz2 rfl (by decide) _ _ _ rfl (hown.alloc _) ⟨_, 0, none⟩ 1 1 [.int .u8 ((n) / 2 ^ (8 * k') % 256)] rfl rfl ?d1 ?d2 ?d3 ?d4 ?d5 ?_)
      case d1 => exact cell_one_new _ _ _
      case d2 => intro u hu; simp at hu; subst hu; rfl
      case d3 => unfold maxLen; omega
      case d4 => omega
      case d5 => simp; omega
      intro v2 w2 hown2 hgrow2 _
      have hb2 : Below base w' w2 := (hbel.alloc (by omega) _).grown hgrow2 (by simp; omega) (fun k hk => (hown.lt k hk).1)
      have hown2' : w2.ownsRow base 5 1 v2 (m + 1 + (j + 1)) ((xs ++ [(K : Int)] ++ top (n) k' (j + 1)).map (Value.int .u8)) := by
        simpa [top, Nat.add_assoc] using hown2
      have HO := hide hown2'
      clear hown2 hown2' hgrow2 hown
      go_wp2_with fail
      go_roundw
      case rel => exact ⟨k', j + 1, _, by omega, by omega, rfl, HO.out, hb2⟩
      case measure => simp [intOf]

set_option maxHeartbeats 1000000 in
theorem append_neg (base : Nat) (v : Value) (m : Nat) (xs : List Int) (n : Int) (w : World) (h0 : n < 0) (h1 : -9223372036854775808 ≤ n)
    (hown : w.ownsRow base 5 1 v m (xs.map (Value.int .u8))) (hm : m ≤ 1000000000000) (hbase : base ≤ w.heap.size) (B K : Nat) (hB : Lib.bitLen (-1 - n).toNat = B) (hB64 : B ≤ 64) (hK : ((B : Int) + 7) / 8 = K) (hK8 : K ≤ 8) :
    Calls Try.prog 17 #[v, .int .i64 n] w fun e w' => ∃ v', e = .returned v' ∧ w'.ownsRow base 5 1 v' (m + 1 + K) ((xs ++ [16 + (K : Int)] ++ digs (-1 - n) K).map (Value.int .u8)) ∧ Below base w w' := by
  obtain ⟨i0, hi, hz0, hz1, hz2⟩ := info_parts info5
  have HB := hide hB
  clear hB
  go_enter Try.func17, Try.ntmps17
  go_wp2_with (first
    | (go_at_call 19; refine (len64B _ B _ (by omega) (by omega) HB.out).mono ?_; rintro e w' ⟨rfl, rfl⟩)
    | (at_builtin; refine wpList_append_own _ rfl (.tmp 19) (.tmp 24) 22 rfl base 5 i0 (.int .u8 0) 1 1 Try.underlying22 hi hz0 hz1 hz2 rfl (by decide) _ _ _ rfl (hown.alloc _) ⟨_, 0, none⟩ 1 1 [.int .u8 (16 + (K : Int))] rfl rfl ?c1 ?c2 ?c3 ?c4 ?c5 ?_))
  case c1 => exact cell_one_new _ _ _
  case c2 => intro u hu; simp at hu; subst hu; rfl
  case c3 => unfold maxLen; omega
  case c4 => omega
  case c5 => simp; omega
  intro v1 w1 hown1 hgrow1 _
  have hb1 : Below base w' w1 := ((Below.refl base w').alloc hbase _).grown hgrow1 (by simp; omega) (fun k hk => (hown.lt k hk).1)
  have hown1' : w1.ownsRow base 5 1 v1 (m + 1) ((xs ++ [16 + (K : Int)]).map (Value.int .u8)) := by simpa using hown1
  have HO := hide hown1'
  clear hown1 hown1' hgrow1 hown
  go_wp2_with fail
  go_loopw [0, 8] (fun v l wr => ∃ (k j : Nat) (q : Int), k + j = K ∧ q + 1 = k ∧ l = .int .i64 q ∧ wr.ownsRow base 5 1 v (m + 1 + j) ((xs ++ [16 + (K : Int)] ++ top (-1 - n) k j).map (Value.int .u8)) ∧ Below base w' wr) (fun _ l _ => (intOf l + 1).toNat)
  case atStart => exact ⟨K, 0, _, rfl, by omega, rfl, by simpa [top] using HO.out, hb1⟩
  case round =>
    clear HO hb1
    obtain ⟨k, j, q, hkj, hq, rfl, hown, hbel⟩ := hrel
    by_cases hk : k = 0
    · obtain rfl : q = -1 := by omega
      subst hk
      obtain rfl : j = K := by omega
      go_wp2_with fail
      go_ret
      refine ⟨_, rfl, ?_, hbel⟩
      rw [digs_is_top]; exact hown
    · obtain ⟨k', rfl⟩ : ∃ k', k = k' + 1 := ⟨k - 1, by omega⟩
      obtain rfl : q = (k' : Int) := by omega
      have hsz := hbel.size
      clear hq hk
      go_wp2_with (at_builtin; refine wpList_append_own _ rfl (.tmp 32) (.tmp 39) 22 rfl base 5 i0 (.int .u8 0) 1 1 Try.underlying22 hi hz0 hz1 hz2 rfl (by decide) _ _ _ rfl (hown.alloc _) ⟨_, 0, none⟩ 1 1 [.int .u8 ((-1 - n) / 2 ^ (8 * k') % 256)] rfl rfl ?d1 ?d2 ?d3 ?d4 ?d5 ?_)
      case d1 => exact cell_one_new _ _ _
      case d2 => intro u hu; simp at hu; subst hu; rfl
      case d3 => unfold maxLen; omega
      case d4 => omega
      case d5 => simp; omega
      intro v2 w2 hown2 hgrow2 _
      have hb2 : Below base w' w2 := (hbel.alloc (by omega) _).grown hgrow2 (by simp; omega) (fun k hk => (hown.lt k hk).1)
      have hown2' : w2.ownsRow base 5 1 v2 (m + 1 + (j + 1)) ((xs ++ [16 + (K : Int)] ++ top (-1 - n) k' (j + 1)).map (Value.int .u8)) := by
        simpa [top, Nat.add_assoc] using hown2
      have HO := hide hown2'
      clear hown2 hown2' hgrow2 hown
      go_wp2_with fail
      go_roundw
      case rel => exact ⟨k', j + 1, _, by omega, by omega, rfl, HO.out, hb2⟩
      case measure => simp [intOf]

set_option maxHeartbeats 1000000 in
theorem copy_any (a : Option Addr) (len cap : Nat) (xs : List Int) (r : Int) (w : World) (hx : xs.length = len) (hr : Reads w a len cap (fun i => xs.getD i 0)) (ha : a = none → len = 0 ∧ cap = 0) (hlen : len ≤ 1000000000000) (hr0 : 0 ≤ r) (hr1 : r ≤ 1000000000000) :
    Calls Try.prog 18 #[.slice a len cap, .int .i64 r] w fun e w' => ∃ v', e = .returned v' ∧ w'.ownsRow w.heap.size 5 1 v' len (xs.map (Value.int .u8)) ∧ Below w.heap.size w w' := by
  obtain ⟨i0, hi, hz0, hz1, hz2⟩ := info_parts info5
  obtain ⟨r, rfl⟩ := Int.eq_ofNat_of_zero_le hr0
  obtain ⟨hnc, hm, hby, hc⟩ := hr
  unfold maxLen at hm
  have HC : Hid (∀ w1 : World, w.grownBy w1 none → ∀ ad, a = some ad → ∀ j u, (xs.map (Value.int .u8))[j]? = some u → w1.cell? (ad.add j) = some u) := by
    intro w1 hg ad had j u hu
    have hj : j < len := by have := (List.getElem?_eq_some_iff.1 hu).1; simpa [hx] using this
    obtain ⟨b, off, hab, hcell⟩ := hc (by omega)
    rw [hab] at had
    obtain rfl := Option.some.inj had
    rw [Addr.add_lit]
    refine hg.cell ?_ (by simp)
    rw [hcell j hj, ← hu]
    simp [hx, hj]
  clear hc hby
  go_enter Try.func18, Try.ntmps18
  go_wp2_with (first
    | (at_make; refine wpList_make_own _ rfl _ _ 22 rfl w.heap.size 5 i0 (.int .u8 0) 1 Try.underlying22 hi hz0 hz1 _ _ _ (len + r) rfl rfl (by omega) (by rw [hz2]; omega) (by unfold maxLen; omega) (Nat.le_refl _) ?_; intro w1 hown1 hgrow1)
    | (at_builtin; refine wpList_append_fits_any _ rfl (.tmp 9) (.tmp 10) 22 rfl w.heap.size 5 i0 1 Try.underlying22 hi hz1 w.heap.size 0 (len + r) [] rfl hown1 _ len cap (xs.map (Value.int .u8)) rfl (by simp [hx]) ha (HC.out _ hgrow1) (ints_oneCell _ _) (by omega) ?_; intro w2 hown2 hgrow2))
  go_ret
  refine ⟨_, rfl, by simpa using hown2, ?_⟩
  exact ((Below.refl _ _).grown hgrow1 (Nat.le_refl _) (by simp)).grown hgrow2 hgrow1.size (fun k hk => by simp at hk; omega)

theorem append_any (base : Nat) (v : Value) (m : Nat) (xs : List Int) (n : Int) (w : World) (h0 : -9223372036854775808 ≤ n) (h1 : n ≤ 9223372036854775807)
    (hown : w.ownsRow base 5 1 v m (xs.map (Value.int .u8))) (hm : m ≤ 1000000000000) (hbase : base ≤ w.heap.size) :
    Calls Try.prog 17 #[v, .int .i64 n] w fun e w' => ∃ v', e = .returned v' ∧ w'.ownsRow base 5 1 v' (m + (num n).length) ((xs ++ num n).map (Value.int .u8)) ∧ Below base w w' := by
  have hb := bare_bd h0 h1
  have hB := bitLen_bd hb.2
  have hK := many_le hb.2
  have e1 : m + (num n).length = m + 1 + many (bare n) := by rw [num_length]; omega
  rw [e1]
  have eK : ((Lib.bitLen (bare n).toNat : Int) + 7) / 8 = (many (bare n) : Int) := by unfold many; omega
  by_cases hn : n < 0
  · have e : bare n = -1 - n := if_pos hn
    have e2 : xs ++ num n = xs ++ [16 + (many (bare n) : Int)] ++ digs (bare n) (many (bare n)) := by simp [num, hn]
    rw [e2]
    rw [e] at hB hK eK ⊢
    exact append_neg base v m xs n w hn h0 hown hm hbase _ _ rfl (by omega) eK hK
  · have e : bare n = n := if_neg hn
    have e2 : xs ++ num n = xs ++ [(many (bare n) : Int)] ++ digs (bare n) (many (bare n)) := by simp [num, hn]
    rw [e2]
    rw [e] at hB hK eK ⊢
    exact append_pos base v m xs n w (by omega) h1 hown hm hbase _ _ rfl (by omega) eK hK

/-- What a slice of bytes that is handed in is known by. -/
def In (w : World) (a : Option Addr) (len cap : Nat) (xs : List Int) : Prop :=
  xs.length = len ∧ Reads w a len cap (fun i => xs.getD i 0) ∧ (a = none → len = 0 ∧ cap = 0)

set_option maxHeartbeats 400000 in
theorem put_any (a : Option Addr) (len cap : Nat) (xs : List Int) (n : Int) (w : World) (h0 : -9223372036854775808 ≤ n) (h1 : n ≤ 9223372036854775807)
    (hin : In w a len cap xs) (hlen : len ≤ 100000000000) :
    Calls Try.prog 12 #[.slice a len cap, .int .i64 n] w fun e w' => ∃ v', e = .returned v' ∧ w'.ownsRow w.heap.size 5 1 v' (len + (num n).length) ((xs ++ num n).map (Value.int .u8)) ∧ Below w.heap.size w w' := by
  obtain ⟨hx, hr, ha⟩ := hin
  have HR := hide hr
  have HA := hide ha
  clear hr ha
  go_enter Try.func12, Try.ntmps12
  go_wp2_with fail
  refine (copy_any a len cap xs 9 w hx HR.out HA.out (by omega) (by omega) (by omega)).mono ?_
  rintro e w1 ⟨v1, rfl, hown1, hb1⟩
  have hs1 := hb1.size
  go_wp2_with fail
  refine (append_any w.heap.size v1 len xs n w1 h0 h1 hown1 (by omega) hs1).mono ?_
  rintro e w2 ⟨v2, rfl, hown2, hb2⟩
  go_wp2_with fail
  go_ret
  exact ⟨_, rfl, hown2, hb1.trans hb2⟩

theorem strCells_sb (s : ByteArray) : Lib.strCells s = (sb s).map (Value.int .u8) := by simp [Lib.strCells, sb]

set_option maxHeartbeats 400000 in
theorem putText_any (a : Option Addr) (len cap : Nat) (xs : List Int) (s : ByteArray) (w : World)
    (hin : In w a len cap xs) (hlen : len ≤ 100000000000) (hs : s.size ≤ 100000000000) :
    Calls Try.prog 14 #[.slice a len cap, .string s] w fun e w' => ∃ v', e = .returned v' ∧ w'.ownsRow w.heap.size 5 1 v' (len + (num s.size).length + s.size) ((xs ++ num s.size ++ sb s).map (Value.int .u8)) ∧ Below w.heap.size w w' := by
  obtain ⟨hx, hr, ha⟩ := hin
  obtain ⟨i0, hi, hz0, hz1, hz2⟩ := info_parts info5
  have hnl := num_le (n := s.size) (by omega) (by omega)
  have HR := hide hr
  have HA := hide ha
  clear hr ha
  go_enter Try.func14, Try.ntmps14
  go_wp2_with fail
  refine (copy_any a len cap xs _ w hx HR.out HA.out (by omega) (by omega) (by omega)).mono ?_
  rintro e w1 ⟨v1, rfl, hown1, hb1⟩
  have hs1 := hb1.size
  go_wp2_with fail
  refine (append_any w.heap.size v1 len xs _ w1 (by omega) (by omega) hown1 (by omega) hs1).mono ?_
  rintro e w2 ⟨v2, rfl, hown2, hb2⟩
  have hs2 := hb2.size
  go_wp2_with (at_builtin; refine Lib.wpList_append_own_string _ rfl (.tmp 14) (.tmp 15) 22 9 rfl w.heap.size 5 i0 Try.underlying22 Try.underlying9 hi hz0 hz1 hz2 _ _ _ rfl hown2 _ rfl ?c3 ?c4 ?c5 ?_)
  case c3 => unfold maxLen; omega
  case c4 => omega
  case c5 => omega
  intro v3 w3 hown3 hgrow3 _
  go_wp2_with fail
  go_ret
  have hown4 : w3.ownsRow w.heap.size 5 1 v3 (len + (num s.size).length + s.size) ((xs ++ num s.size ++ sb s).map (Value.int .u8)) := by
    rw [strCells_sb] at hown3
    rw [List.append_assoc, List.map_append, List.map_append]
    exact hown3
  exact ⟨_, rfl, hown4, (hb1.trans hb2).grown hgrow3 (by omega) (fun k hk => (hown2.lt k hk).1)⟩

end Go.Proofs.Ytiepgocbgjdhpaa.Put
