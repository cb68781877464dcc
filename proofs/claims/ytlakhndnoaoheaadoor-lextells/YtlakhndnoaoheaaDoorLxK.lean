/-
  LexBack, walked.
-/
import Derived.Test.YtlakhndnoaoheaaDoorLxH
import Derived.Laws.BytesString
namespace Go.Proofs.YtlakhndnoaoheaaDoor.Lx
open Go.RowKit

set_option linter.unusedVariables false

/-- The text of the bytes. -/
def str (xs : List Int) : ByteArray := xs.foldl (fun r n => r.push (UInt8.ofNat n.toNat)) ByteArray.empty

theorem toList_fold (xs : List Int) : ∀ r : ByteArray, (xs.foldl (fun r n => r.push (UInt8.ofNat n.toNat)) r).data.toList = r.data.toList ++ xs.map (fun n => UInt8.ofNat n.toNat) := by
  induction xs with
  | nil => intro r; simp
  | cons x xs ih => intro r; rw [List.foldl_cons, ih]; simp [ByteArray.push]

theorem str_list (xs : List Int) : (str xs).data.toList = xs.map (fun n => UInt8.ofNat n.toNat) := by
  rw [str, toList_fold]; simp

theorem run_conv (wx : World) (a : Option Addr) (l c : Nat) (xs : List Int) (hx : xs.length = l)
    (h : 0 < l → ∃ b off, a = some ⟨b, off, none⟩ ∧ ∀ i, i < l → wx.cell? ⟨b, off + i, none⟩ = some (.int .u8 (xs.getD i 0))) :
    (convert 43 9 (.slice a l c)).run Tryd.prog wx = .ok (.string (str xs)) wx := by
  rw [run_convert_bytes_string wx 43 9 5 a l c Tryd.underlying43 Tryd.underlying5 Tryd.underlying9]
  subst hx
  cases a with
  | none =>
    have h0 : xs = [] := by
      cases xs with
      | nil => rfl
      | cons x xs => obtain ⟨b, off, hb, _⟩ := h (by simp); cases hb
    subst h0
    rfl
  | some ad =>
    refine run_bytesToString wx ad xs.length c xs ?_
    have := run_loadCells_list (P := Tryd.prog) wx ad (xs.map (Value.int .u8)) ?_
    · simpa using this
    · intro j v hj
      have hlt : j < xs.length := by have := (List.getElem?_eq_some_iff.1 hj).1; simpa using this
      obtain ⟨b, off, hb, hc⟩ := h (by omega)
      obtain rfl := Option.some.inj hb
      rw [Addr.add_lit, hc j hlt, ← hj]
      simp [hlt]

theorem ba_app (a b : ByteArray) : (a ++ b).data.toList = a.data.toList ++ b.data.toList := by simp [ByteArray.data_append]

theorem ba_size (s : ByteArray) : s.size = s.data.toList.length := by rw [Array.length_toList]; rfl

theorem wrap_toInt (x : BitVec 64) : IntKind.i64.wrap (x.toNat : Int) = x.toInt := by
  rw [IntKind.wrap_i64, BitVec.toInt_eq_toNat_cond]
  have := x.isLt
  split <;> omega

theorem low13 (n : Int) : bits .and .i64 n 8191 = n % 8192 := by
  have hb : bits .and .i64 n 8191 = (BitVec.ofInt 64 n &&& BitVec.ofInt 64 8191).toInt := wrap_toInt _
  rw [hb, ← wrap_toInt, IntKind.wrap_i64, BitVec.toNat_and]
  have e : (BitVec.ofInt 64 8191).toNat = 2 ^ 13 - 1 := rfl
  have t : ((BitVec.ofInt 64 n).toNat : Int) = n % 18446744073709551616 := by
    rw [BitVec.toNat_ofInt]
    omega
  rw [e, Nat.and_two_pow_sub_one_eq_mod]
  omega

theorem one_cell (wx : World) (c : Int) (i : Nat) (hi : i < 1) : (wx.alloc (.cells #[.int .u8 c] 5)).cell? ⟨wx.heap.size, 0 + i, none⟩ = some (.int .u8 ([c].getD i 0)) := by
  obtain rfl : i = 0 := by omega
  simp

theorem itoa_ne (n : Int) : Lib.itoa n ≠ [] := by
  unfold Lib.itoa
  split
  · simp
  · exact dec_ne _

theorem back1 {n : Int} (h : W64 n) : numV (Lib.itoa n) = (n, true) := numV_yes ⟨h, rfl⟩

theorem back2 {n : Int} (h : W64 n) (c : UInt8) : (numV (Lib.itoa n ++ [c])).2 = true → (numV (Lib.itoa n ++ [c])).1 ≠ n := by
  rcases numV_cases (Lib.itoa n ++ [c]) with ⟨v, hv, e⟩ | ⟨_, e⟩
  · rw [e]
    intro _ hn
    simp only at hn
    subst hn
    have := congrArg List.length hv.2
    simp at this
  · rw [e]
    intro h; cases h

theorem back3 (n : Int) : numV (48 :: Lib.itoa n) = (0, false) := numV_no fun v hv => by
  rcases hv.form with ⟨u, rfl, _, e⟩ | ⟨u, rfl, _, _, e⟩
  · rcases Nat.eq_zero_or_pos u with rfl | hu
    · rw [Lib.decDigits_one (by omega)] at e
      injection e with _ e
      exact itoa_ne n e
    · obtain ⟨c, r, e', hc⟩ := dec_head u hu
      rw [e'] at e
      injection e with e _
      subst e
      exact hc rfl
  · injection e with e _
    cases e

theorem back4 {k : Int} (h0 : 0 ≤ k) (h1 : k ≤ 9999) : refV (37 :: Lib.itoa k) 37 = (k, true) := by
  rw [refV, if_pos (by decide), back1 ⟨by omega, by omega⟩, if_pos ⟨rfl, h0, h1⟩]

theorem back5 (k : Int) : refV (37 :: Lib.itoa k) 94 = (0, false) := by
  rw [refV, if_neg (by decide)]

set_option maxRecDepth 10000 in
set_option maxHeartbeats 2000000 in
theorem lexBack_any (n k c : Int) (w : World) (hn : W64 n) (hk : W64 k) (hc : 0 ≤ c ∧ c ≤ 255) (L : Laid w) :
    Calls Tryd.prog 4 #[.int .i64 n, .int .i64 k, .int .u8 c] w fun e w' => e = .returned (.bool true) ∧ Below w.heap.size w w' := by
  have HL := hid L
  clear L
  obtain ⟨s, hs⟩ : ∃ s, shown n = s := ⟨_, rfl⟩
  have hsl : s.data.toList = Lib.itoa n := by rw [← hs, shown_list]
  have hss : s.size ≤ 21 := by rw [← hs]; exact shown_small hn
  obtain ⟨t, ht⟩ : ∃ t, str [c] = t := ⟨_, rfl⟩
  have htl : t.data.toList = [UInt8.ofNat c.toNat] := by rw [← ht, str_list]; rfl
  have hts : t.size ≤ 1 := by rw [ba_size, htl]; simp
  have hst : (s ++ t).size ≤ 30 := by
    rw [ba_size, ba_app, List.length_append, htl, ← ba_size]
    simp; omega
  have hcv : ∀ wx : World, (convert 43 9 (.slice (some ⟨wx.heap.size, 0, none⟩) 1 1)).run Tryd.prog (wx.alloc (.cells #[.int .u8 c] 5)) = .ok (.string t) (wx.alloc (.cells #[.int .u8 c] 5)) := fun wx => by
    rw [run_conv (wx.alloc (.cells #[.int .u8 c] 5)) (some ⟨wx.heap.size, 0, none⟩) 1 1 [c] rfl (fun _ => ⟨wx.heap.size, 0, rfl, fun i hi => one_cell wx c i hi⟩), ht]
  have hst2 : (s ++ t).data.toList = Lib.itoa n ++ [UInt8.ofNat c.toNat] := by rw [ba_app, hsl, htl]
  have h0s : ((ByteArray.mk #[48]) ++ s).data.toList = 48 :: Lib.itoa n := by rw [ba_app, hsl]; rfl
  have h0z : ((ByteArray.mk #[48]) ++ s).size ≤ 30 := by
    rw [ba_size, h0s, ← hsl, List.length_cons, ← ba_size]; omega
  obtain ⟨k', hk1⟩ : ∃ k', bits .and .i64 k 8191 = k' := ⟨_, rfl⟩
  have hkb : 0 ≤ k' ∧ k' ≤ 8191 := by rw [← hk1, low13]; omega
  obtain ⟨u, hu⟩ : ∃ u, shown k' = u := ⟨_, rfl⟩
  have hul : u.data.toList = Lib.itoa k' := by rw [← hu, shown_list]
  have hus : u.size ≤ 21 := by rw [← hu]; exact shown_small ⟨by omega, by omega⟩
  have hpu : ((ByteArray.mk #[37]) ++ u).data.toList = 37 :: Lib.itoa k' := by rw [ba_app, hul]; rfl
  have hpz : ((ByteArray.mk #[37]) ++ u).size ≤ 30 := by
    rw [ba_size, hpu, ← hul, List.length_cons, ← ba_size]; omega
  have hkw : W64 k' := ⟨by omega, by omega⟩
  obtain ⟨kb0, kb1⟩ := hkb
  have hmod : k' % 10000 = k' := by omega
  have HST2 := hid hst2
  have H0S := hid h0s
  have HPU := hid hpu
  have S := hid (And.intro hs hsl)
  have T := hid htl
  have U := hid (And.intro hu hul)
  clear hs hsl htl ht hu hul hst2 h0s hpu
  go_enter Tryd.func4, Tryd.ntmps4
  go_wp2_with fail
  refine (first_true _).mono ?_
  rintro e w1 ⟨rfl, hb1⟩
  have B1 := hid hb1
  clear hb1
  go_wp2_with fail
  refine (show_any n _ hn (HL.out.on B1.out)).mono ?_
  rw [S.out.1]
  rintro e w2 ⟨rfl, hb2⟩
  have B2 := hid (more B1.out hb2)
  clear hb2
  go_wp2_with fail
  refine (num_any s _ (by omega) (HL.out.on B2.out)).mono ?_
  unfold NumIs
  rw [S.out.2, back1 hn]
  rintro e w3 ⟨rfl, hb3⟩
  have B3 := hid (more B2.out hb3)
  clear hb3
  go_wp2_with fail
  obtain ⟨⟨y, is⟩, hyv⟩ : ∃ x, numV (Lib.itoa n ++ [UInt8.ofNat c.toNat]) = x := ⟨_, rfl⟩
  have HY := hid (show is = true → y ≠ n from by have := back2 hn (UInt8.ofNat c.toNat); rw [hyv] at this; exact this)
  refine (num_any (s ++ t) _ (by omega) (HL.out.on (new B3.out _))).mono ?_
  unfold NumIs
  rw [HST2.out, hyv]
  rintro e w4 ⟨rfl, hb4⟩
  have B4 := hid (more (new B3.out _) hb4)
  clear hb4 hyv
  go_wp2_with fail
  refine (num_any (ByteArray.mk #[48] ++ s) _ (by omega) (HL.out.on B4.out)).mono ?_
  unfold NumIs
  rw [H0S.out, back3]
  rintro e w5 ⟨rfl, hb5⟩
  have B5 := hid (more B4.out hb5)
  clear hb5
  go_wp2_with fail
  refine (show_any k' _ hkw (HL.out.on B5.out)).mono ?_
  rw [U.out.1]
  rintro e w6 ⟨rfl, hb6⟩
  have B6 := hid (more B5.out hb6)
  clear hb6
  go_wp2_with fail
  refine (ref_any (ByteArray.mk #[37] ++ u) 37 _ (by omega) (HL.out.on B6.out)).mono ?_
  unfold RefIs
  rw [HPU.out, back4 kb0 (by omega)]
  rintro e w7 ⟨rfl, hb7⟩
  have B7 := hid (more B6.out hb7)
  clear hb7
  go_wp2_with fail
  refine (show_any k' _ hkw (HL.out.on B7.out)).mono ?_
  rw [U.out.1]
  rintro e w8 ⟨rfl, hb8⟩
  have B8 := hid (more B7.out hb8)
  clear hb8
  go_wp2_with fail
  refine (ref_any (ByteArray.mk #[37] ++ u) 94 _ (by omega) (HL.out.on B8.out)).mono ?_
  unfold RefIs
  rw [HPU.out, back5]
  rintro e w9 ⟨rfl, hb9⟩
  have B9 := hid (more B8.out hb9)
  clear hb9
  cases is with
  | false =>
    go_wp2_with fail
    go_ret
    exact ⟨rfl, B9.out⟩
  | true =>
    have hne : (y == n) = false := by
      rw [beq_eq_false_iff_ne]
      exact HY.out rfl
    go_wp2_with fail
    go_ret
    exact ⟨rfl, B9.out⟩

end Go.Proofs.YtlakhndnoaoheaaDoor.Lx
