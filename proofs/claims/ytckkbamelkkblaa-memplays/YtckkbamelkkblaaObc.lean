/-
  What the calls of mem do, and the document's own: reading.
-/
import Derived.Test.YtckkbamelkkblaaOb
namespace Go.Proofs.Ytckkbamelkkblaa.Ob
open Go.RowKit View

set_option linter.unusedVariables false

variable {base M o n : Nat} {w : World} {vs : Sl} {S : Nat → Sl} {f : Nat → Nat → Int}

/-- How many cells object i has. -/
def szOf (n : Nat) (S : Nat → Sl) (i : Int) : Nat := if 0 ≤ i ∧ i < n then (S i.toNat).n else 0

/-- Is there a cell? -/
def hasC (n : Nat) (S : Nat → Sl) (i k : Int) : Bool := decide (0 ≤ k) && decide (k < szOf n S i)

theorem hasC_iff {i k : Int} : hasC n S i k = true ↔ ∃ a b : Nat, i = a ∧ k = b ∧ a < n ∧ b < (S a).n := by
  unfold hasC szOf
  constructor
  · intro h
    rw [Bool.and_eq_true, decide_eq_true_eq, decide_eq_true_eq] at h
    obtain ⟨h1, h2⟩ := h
    split at h2
    · rename_i h3
      exact ⟨i.toNat, k.toNat, by omega, by omega, by omega, by omega⟩
    · omega
  · rintro ⟨a, b, rfl, rfl, ha, hb⟩
    rw [if_pos ⟨by omega, by omega⟩]
    simp
    exact hb

def cellV (n : Nat) (S : Nat → Sl) (f : Nat → Nat → Int) (i k : Int) : Int := if hasC n S i k then f i.toNat k.toNat else 0

set_option maxHeartbeats 400000 in
theorem size_mem (h : Obs base w M o vs n S f) (hn : n ≤ 1000000) (i : Int) :
    Calls Try.prog 15 #[.pointer (some ⟨M, o, none⟩), .int .i64 i] w fun e w' => e = .returned (.int .i64 (szOf n S i)) ∧ w' = w := by
  have hc := h.c
  have HR := hid (h.row hn)
  unfold szOf
  by_cases h0 : i < 0
  · have t0 : decide (i < 0) = true := by simpa using h0
    rw [if_neg (by omega)]
    clear h
    go_enter Try.func15, Try.ntmps15
    go_wp2_with fail
    go_ret
    exact ⟨rfl, rfl⟩
  · have t0 : decide (i < 0) = false := by simpa using h0
    obtain ⟨k, rfl⟩ : ∃ k : Nat, i = k := ⟨i.toNat, by omega⟩
    have e1 := HR.out.1
    by_cases h1 : k < n
    · have t1 : decide ((vs.n : Int) ≤ (k : Int)) = false := by simp; omega
      rw [if_pos ⟨by omega, by omega⟩]
      obtain ⟨b, of, hr, hcc⟩ := row_at HR.out.2 (k := k) (by omega)
      clear h
      go_enter Try.func15, Try.ntmps15
      go_wp2_with fail
      go_ret
      exact ⟨rfl, rfl⟩
    · have t1 : decide ((vs.n : Int) ≤ (k : Int)) = true := by simp; omega
      rw [if_neg (by omega)]
      clear h
      go_enter Try.func15, Try.ntmps15
      go_wp2_with fail
      go_ret
      exact ⟨rfl, rfl⟩

set_option maxHeartbeats 400000 in
theorem size_ref (h : Obs base w M o vs n S f) (hn : n ≤ 1000000) (i : Int) :
    Calls Try.prog 16 #[.pointer (some ⟨M, o, none⟩), .int .i64 i] w fun e w' => e = .returned (.int .i64 (szOf n S i)) ∧ w' = w := by
  have hc := h.c
  have HR := hid (h.row hn)
  unfold szOf
  by_cases h0 : i < 0
  · have t0 : decide (i < 0) = true := by simpa using h0
    rw [if_neg (by omega)]
    clear h
    go_enter Try.func16, Try.ntmps16
    go_wp2_with fail
    go_ret
    exact ⟨rfl, rfl⟩
  · have t0 : decide (i < 0) = false := by simpa using h0
    obtain ⟨k, rfl⟩ : ∃ k : Nat, i = k := ⟨i.toNat, by omega⟩
    have e1 := HR.out.1
    by_cases h1 : k < n
    · have t1 : decide ((vs.n : Int) ≤ (k : Int)) = false := by simp; omega
      rw [if_pos ⟨by omega, by omega⟩]
      obtain ⟨b, of, hr, hcc⟩ := row_at HR.out.2 (k := k) (by omega)
      clear h
      go_enter Try.func16, Try.ntmps16
      go_wp2_with fail
      go_ret
      exact ⟨rfl, rfl⟩
    · have t1 : decide ((vs.n : Int) ≤ (k : Int)) = true := by simp; omega
      rw [if_neg (by omega)]
      clear h
      go_enter Try.func16, Try.ntmps16
      go_wp2_with fail
      go_ret
      exact ⟨rfl, rfl⟩

set_option maxHeartbeats 400000 in
theorem len_mem (h : Obs base w M o vs n S f) (hn : n ≤ 1000000) :
    Calls Try.prog 14 #[.pointer (some ⟨M, o, none⟩)] w fun e w' => e = .returned (.int .i64 n) ∧ w' = w := by
  have hc := h.c
  have HR := hid (h.row hn).1
  clear h
  go_enter Try.func14, Try.ntmps14
  go_wp2_with fail
  go_ret
  exact ⟨by rw [HR.out]; rfl, rfl⟩

set_option maxHeartbeats 400000 in
theorem has_mem (h : Obs base w M o vs n S f) (hn : n ≤ 1000000) (i k : Int) :
    Calls Try.prog 17 #[.pointer (some ⟨M, o, none⟩), .int .i64 i, .int .i64 k] w fun e w' => e = .returned (.bool (hasC n S i k)) ∧ w' = w := by
  have HO := hid h
  obtain ⟨z, hz⟩ : ∃ z, szOf n S i = z := ⟨_, rfl⟩
  have SZ := hid (show ∀ w', Below w.heap.size w w' → Calls Try.prog 15 #[.pointer (some ⟨M, o, none⟩), .int .i64 i] w' fun e w'' => e = .returned (.int .i64 z) ∧ w'' = w' from fun w' hb => by rw [← hz]; exact size_mem (h.on hb) hn i)
  unfold hasC
  rw [hz]
  clear h hz
  by_cases h0 : 0 ≤ k
  · have t0 : decide (0 ≤ k) = true := by simpa using h0
    rw [t0, Bool.true_and]
    go_enter Try.func17, Try.ntmps17
    go_wp2_with (go_at_call 15; refine (SZ.out _ (same _)).mono ?_; rintro e w1 ⟨rfl, rfl⟩)
    go_ret
    exact ⟨rfl, rfl⟩
  · have t0 : decide (0 ≤ k) = false := by simpa using h0
    rw [t0, Bool.false_and]
    go_enter Try.func17, Try.ntmps17
    go_wp2_with fail
    go_ret
    exact ⟨rfl, rfl⟩

set_option maxHeartbeats 400000 in
theorem load_mem (h : Obs base w M o vs n S f) (hn : n ≤ 1000000) (i k : Int) :
    Calls Try.prog 10 #[.pointer (some ⟨M, o, none⟩), .int .i64 i, .int .i64 k] w fun e w' => e = .returned (.tuple #[.int .i64 (cellV n S f i k), .bool (hasC n S i k)]) ∧ w' = w := by
  have HO := hid h
  have SZ := hid (has_mem h hn i k)
  unfold cellV
  by_cases h0 : hasC n S i k = true
  · rw [if_pos h0]
    rw [h0] at SZ ⊢
    obtain ⟨a, b, rfl, rfl, ha, hb⟩ := hasC_iff.1 h0
    have HAB := hid (And.intro ha hb)
    clear h h0
    go_enter Try.func10, Try.ntmps10
    go_wp2_with fail
    refine SZ.out.mono ?_
    rintro e w1 ⟨rfl, rfl⟩
    have O1 := HO.out
    have hc := O1.c
    obtain ⟨e1, hr⟩ := O1.row hn
    obtain ⟨b1, o1, q1, c1⟩ := row_at hr (k := a) (by have := HAB.out; omega)
    obtain ⟨b2, o2, q2, c2⟩ := int_at (O1.obj a (by have := HAB.out; omega)) (k := b) (by have := HAB.out; omega)
    have E1 := hid (And.intro e1 (And.intro hr O1))
    clear e1 hr O1 ha hb
    go_wp2_with fail
    go_ret2
    exact ⟨rfl, rfl⟩
  · rw [if_neg h0]
    have h0 : hasC n S i k = false := by simpa using h0
    rw [h0] at SZ ⊢
    clear h
    go_enter Try.func10, Try.ntmps10
    go_wp2_with (go_at_call 17; refine SZ.out.mono ?_; rintro e w1 ⟨rfl, rfl⟩)
    go_ret2
    exact ⟨rfl, rfl⟩

set_option maxHeartbeats 400000 in
theorem load_ref (h : Obs base w M o vs n S f) (hn : n ≤ 1000000) (i k : Int) :
    Calls Try.prog 11 #[.pointer (some ⟨M, o, none⟩), .int .i64 i, .int .i64 k] w fun e w' => e = .returned (.tuple #[.int .i64 (cellV n S f i k), .bool (hasC n S i k)]) ∧ w' = w := by
  have HO := hid h
  obtain ⟨z, hz⟩ : ∃ z, szOf n S i = z := ⟨_, rfl⟩
  have SZ := hid (show ∀ w', Below w.heap.size w w' → Calls Try.prog 16 #[.pointer (some ⟨M, o, none⟩), .int .i64 i] w' fun e w'' => e = .returned (.int .i64 z) ∧ w'' = w' from fun w' hb => by rw [← hz]; exact size_ref (h.on hb) hn i)
  unfold cellV
  by_cases h0 : k < 0
  · have t0 : decide (k < 0) = true := by simpa using h0
    have e0 : hasC n S i k = false := by unfold hasC; rw [Bool.and_eq_false_iff]; left; simpa using h0
    rw [e0]
    clear h hz
    go_enter Try.func11, Try.ntmps11
    go_wp2_with fail
    go_ret2
    exact ⟨rfl, rfl⟩
  have t0 : decide (k < 0) = false := by simpa using h0
  by_cases h1 : (z : Int) ≤ k
  · have t1 : decide ((z : Int) ≤ k) = true := by simpa using h1
    have e0 : hasC n S i k = false := by unfold hasC; rw [Bool.and_eq_false_iff]; right; rw [hz]; simp; omega
    rw [e0]
    clear h hz
    go_enter Try.func11, Try.ntmps11
    go_wp2_with (go_at_call 16; refine (SZ.out _ (same _)).mono ?_; rintro e w1 ⟨rfl, rfl⟩)
    go_ret2
    exact ⟨rfl, rfl⟩
  · have t1 : decide ((z : Int) ≤ k) = false := by simpa using h1
    have e0 : hasC n S i k = true := by unfold hasC; rw [hz, Bool.and_eq_true]; constructor <;> simp <;> omega
    rw [e0]
    obtain ⟨a, b, rfl, rfl, ha, hb⟩ := hasC_iff.1 e0
    have HAB := hid (And.intro ha hb)
    have t2 : decide (z ≤ b) = false := by simp; omega
    clear h hz e0 h0 h1
    go_enter Try.func11, Try.ntmps11
    go_wp2_with (go_at_call 16; refine (SZ.out _ (same _)).mono ?_; rintro e w1 ⟨rfl, rfl⟩; have O1 := HO.out; have hc := O1.c; obtain ⟨e1, hr⟩ := O1.row hn; obtain ⟨b1, o1, q1, c1⟩ := row_at hr (k := a) (by have := HAB.out; omega); obtain ⟨b2, o2, q2, c2⟩ := int_at (O1.obj a (by have := HAB.out; omega)) (k := b) (by have := HAB.out; omega); have E1 := hid (And.intro e1 (And.intro hr O1)); clear e1 hr O1 ha hb)
    go_ret2
    exact ⟨rfl, rfl⟩

/-- What a store leaves. -/
def StoreIs (base M o n : Nat) (vs : Sl) (S : Nat → Sl) (f : Nat → Nat → Int) (i k v : Int) (w : World) (e : Ending) (w' : World) : Prop :=
  e = .returned (.bool (hasC n S i k)) ∧ Obs base w' M o vs n S (fun a b => if hasC n S i k = true ∧ (a : Int) = i ∧ (b : Int) = k then v else f a b) ∧ Chg (Fp M vs n S) w w'

theorem store_not {i k v : Int} {w' : World} (h : Obs base w M o vs n S f) (hb : Below w.heap.size w w') (h0 : hasC n S i k = false) : StoreIs base M o n vs S f i k v w (.returned (.bool false)) w' := by
  unfold StoreIs
  rw [h0]
  exact ⟨rfl, by simpa using h.on hb, Chg.of_below hb⟩

theorem store_yes {a b : Nat} {v : Int} {g : Nat} {w' : World} (h : Obs base w M o vs n S f) (hb : Below w.heap.size w w') (ha : a < n) (hk : b < (S a).n) (hg : (S a).a = some ⟨g, 0, none⟩) : StoreIs base M o n vs S f a b v w (.returned (.bool true)) (w'.setCell ⟨g, b, none⟩ (.int .i64 v)) := by
  have e : hasC n S a b = true := hasC_iff.2 ⟨a, b, rfl, rfl, ha, hk⟩
  obtain ⟨h1, h2⟩ := (h.on hb).set ha hk hg v
  unfold StoreIs
  rw [e]
  refine ⟨rfl, ?_, (Chg.of_below hb).trans h2 (fun _ hx => .inl hx)⟩
  have : (fun (x y : Nat) => if True ∧ (x : Int) = (a : Int) ∧ (y : Int) = (b : Int) then v else f x y) = (fun x y => if x = a ∧ y = b then v else f x y) := by
    funext x y
    have : (True ∧ (x : Int) = (a : Int) ∧ (y : Int) = (b : Int)) ↔ (x = a ∧ y = b) := ⟨fun ⟨_, h1, h2⟩ => ⟨by omega, by omega⟩, fun ⟨h1, h2⟩ => ⟨trivial, by omega, by omega⟩⟩
    simp only [this]
  simp only [this]
  exact h1

/-- The cell that is written. -/
theorem Obs.spot (h : Obs base w M o vs n S f) {a b : Nat} (ha : a < n) (hk : b < (S a).n) : ∃ g, (S a).a = some ⟨g, 0, none⟩ ∧ (∀ wx, (Instr.indexAt 30 (.slice (S a).a (S a).n (S a).c) (.int .i64 b)).run Try.prog wx = .ok (.pointer (some ⟨g, b, none⟩)) wx) ∧ w.cell? ⟨g, b, none⟩ = some (.int .i64 (f a b)) ∧ w.frozen? ⟨g, b, none⟩ = false := by
  obtain ⟨g, hg, _, _, hz⟩ := h.mine a ha (by omega)
  obtain ⟨_, _, _, h4⟩ := h.obj a ha
  obtain ⟨b', off, hab, hc⟩ := h4 (by omega)
  rw [hg] at hab
  obtain ⟨rfl, rfl⟩ : g = b' ∧ 0 = off := by simpa using hab
  refine ⟨g, hg, fun wx => ?_, by have := hc b hk; rwa [Nat.zero_add] at this, hz b⟩
  have := index_row hg underlying30 size2 hk wx
  rw [this]
  simp

set_option maxHeartbeats 400000 in
theorem store_mem (h : Obs base w M o vs n S f) (hn : n ≤ 1000000) (i k v : Int) :
    Calls Try.prog 12 #[.pointer (some ⟨M, o, none⟩), .int .i64 i, .int .i64 k, .int .i64 v] w fun e w' => StoreIs base M o n vs S f i k v w e w' := by
  have HO := hid h
  have SZ := hid (has_mem h hn i k)
  by_cases h0 : hasC n S i k = true
  · rw [h0] at SZ
    obtain ⟨a, b, rfl, rfl, ha, hb⟩ := hasC_iff.1 h0
    have HAB := hid (And.intro ha hb)
    clear h h0 ha hb
    go_enter Try.func12, Try.ntmps12
    go_wp2_with fail
    refine SZ.out.mono ?_
    rintro e w1 ⟨rfl, rfl⟩
    have O1 := HO.out
    have hc := O1.c
    obtain ⟨e1, hr⟩ := O1.row hn
    obtain ⟨b1, o1, q1, c1⟩ := row_at hr (k := a) (by have := HAB.out; omega)
    obtain ⟨g, hg, q2, c2, z2⟩ := O1.spot HAB.out.1 HAB.out.2
    have HG := hid hg
    have E1 := hid (And.intro e1 (And.intro hr O1))
    clear e1 hr O1 hg
    go_wp2_with fail
    go_ret
    exact store_yes HO.out (same _) HAB.out.1 HAB.out.2 HG.out
  · have h0 : hasC n S i k = false := by simpa using h0
    have H0 := hid h0
    rw [h0] at SZ
    clear h h0
    go_enter Try.func12, Try.ntmps12
    go_wp2_with (go_at_call 17; refine SZ.out.mono ?_; rintro e w1 ⟨rfl, rfl⟩)
    go_ret
    exact store_not HO.out (same _) H0.out

set_option maxHeartbeats 400000 in
theorem store_ref (h : Obs base w M o vs n S f) (hn : n ≤ 1000000) (i k v : Int) :
    Calls Try.prog 13 #[.pointer (some ⟨M, o, none⟩), .int .i64 i, .int .i64 k, .int .i64 v] w fun e w' => StoreIs base M o n vs S f i k v w e w' := by
  have HO := hid h
  obtain ⟨z, hz⟩ : ∃ z, szOf n S i = z := ⟨_, rfl⟩
  have SZ := hid (show ∀ w', Below w.heap.size w w' → Calls Try.prog 16 #[.pointer (some ⟨M, o, none⟩), .int .i64 i] w' fun e w'' => e = .returned (.int .i64 z) ∧ w'' = w' from fun w' hb => by rw [← hz]; exact size_ref (h.on hb) hn i)
  by_cases h0 : k < 0
  · have t0 : decide (k < 0) = true := by simpa using h0
    have E0 := hid (show hasC n S i k = false by unfold hasC; rw [Bool.and_eq_false_iff]; left; simpa using h0)
    clear h hz
    go_enter Try.func13, Try.ntmps13
    go_wp2_with fail
    go_ret
    exact store_not HO.out (same _) E0.out
  have t0 : decide (k < 0) = false := by simpa using h0
  by_cases h1 : (z : Int) ≤ k
  · have t1 : decide ((z : Int) ≤ k) = true := by simpa using h1
    have E0 := hid (show hasC n S i k = false by unfold hasC; rw [Bool.and_eq_false_iff]; right; rw [hz]; simp; omega)
    clear h hz
    go_enter Try.func13, Try.ntmps13
    go_wp2_with (go_at_call 16; refine (SZ.out _ (same _)).mono ?_; rintro e w1 ⟨rfl, rfl⟩)
    go_ret
    exact store_not HO.out (same _) E0.out
  · have t1 : decide ((z : Int) ≤ k) = false := by simpa using h1
    have e0 : hasC n S i k = true := by unfold hasC; rw [hz, Bool.and_eq_true]; constructor <;> simp <;> omega
    obtain ⟨a, b, rfl, rfl, ha, hb⟩ := hasC_iff.1 e0
    have HAB := hid (And.intro ha hb)
    have t2 : decide (z ≤ b) = false := by simp; omega
    clear h hz e0 h0 h1
    go_enter Try.func13, Try.ntmps13
    go_wp2_with (go_at_call 16; refine (SZ.out _ (same _)).mono ?_; rintro e w1 ⟨rfl, rfl⟩; have O1 := HO.out; have hc := O1.c; obtain ⟨e1, hr⟩ := O1.row hn; obtain ⟨b1, o1, q1, c1⟩ := row_at hr (k := a) (by have := HAB.out; omega); obtain ⟨g, hg, q2, c2, z2⟩ := O1.spot HAB.out.1 HAB.out.2; have HG := hid hg; have E1 := hid (And.intro e1 (And.intro hr O1)); clear e1 hr O1 ha hb hg)
    go_ret
    exact store_yes HO.out (same _) HAB.out.1 HAB.out.2 HG.out

end Go.Proofs.Ytckkbamelkkblaa.Ob
