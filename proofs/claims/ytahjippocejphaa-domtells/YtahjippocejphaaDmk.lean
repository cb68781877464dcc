/-
  By the document: plnref3.Dom, plnref3.Over.
-/
import Derived.Test.YtahjippocejphaaDmh
import Derived.Test.YtahjippocejphaaDma
import Derived.Test.YtahjippocejphaaLight
import Derived.Test.YtahjippocejphaaFloF
namespace Go.Proofs.Ytahjippocejphaa.Dm
open Go.RowKit View Rd Copy Num Ty Srt Go.Proofs.Ytahjippocejphaa.Flo Go.Proofs.Ytahjippocejphaa.Lt

set_option linter.unusedVariables false

def DomI (F : FV) (a b : Int) : Prop := 0 ≤ a ∧ a < F.blk.n ∧ 0 ≤ b ∧ b < F.blk.n ∧ DomR F a.toNat b.toNat

set_option maxRecDepth 10000 in
set_option maxHeartbeats 2000000 in
theorem dom_ref (F : FV) (a b : Int) (w : World) (hF : In w F) (hl : Light F) : Calls Try.prog 26 #[F.val, .int .i64 a, .int .i64 b] w fun e w' => Ans (fun r => r = true ↔ DomI F a b) w e w' := by
  have HF := hid hF
  have HL := hid hl
  have gb := hl.blk
  clear hF hl
  go_enter Try.func26, Try.ntmps26
  go_wp2_with fail
  refine (reach_ref F _ (HF.out.on (new (same w) _)) HL.out).mono ?_
  rintro e w1 ⟨f, ⟨RM, rfl, hr, hM, hb1⟩, hf⟩
  have B1 := hid (View.more (new (same w) _) hb1)
  have FA1 := hid ((FuncAt.alloc w F).on hb1)
  have HR := hid hr
  have HFB := hid (show ∀ i, i < F.blk.n → (f i = true ↔ Go.Proofs.Ytahjippocejphaa.Flo.Way (su F) 0 i) from fun i hi => by
    rw [hf i hi, suL_neg (show (-1 : Int) < 0 by decide)]
    exact ⟨fun h => h.2.2, fun h => ⟨by unfold isB; simp; omega, by decide, h⟩⟩)
  clear hr hM hb1 hf
  by_cases a0 : a < 0
  · have t0 : decide (a < 0) = true := by simpa using a0
    have HN := hid (show ¬ DomI F a b from fun h => by have := h.1; omega)
    go_wp2_with fail
    go_ret
    exact ⟨false, rfl, by simp only [Bool.false_eq_true, false_iff]; exact HN.out, B1.out⟩
  have t0 : decide (a < 0) = false := by simpa using a0
  by_cases b0 : b < 0
  · have t1 : decide (b < 0) = true := by simpa using b0
    have HN := hid (show ¬ DomI F a b from fun h => by have := h.2.2.1; omega)
    go_wp2_with fail
    go_ret
    exact ⟨false, rfl, by simp only [Bool.false_eq_true, false_iff]; exact HN.out, B1.out⟩
  have t1 : decide (b < 0) = false := by simpa using b0
  by_cases a1 : (F.blk.n : Int) ≤ a
  · have t2 : decide ((F.blk.n : Int) ≤ a) = true := by simpa using a1
    have HN := hid (show ¬ DomI F a b from fun h => by have := h.2.1; omega)
    go_wp2_with fail
    go_ret
    exact ⟨false, rfl, by simp only [Bool.false_eq_true, false_iff]; exact HN.out, B1.out⟩
  have t2 : decide ((F.blk.n : Int) ≤ a) = false := by simpa using a1
  by_cases b1 : (F.blk.n : Int) ≤ b
  · have t3 : decide ((F.blk.n : Int) ≤ b) = true := by simpa using b1
    have HN := hid (show ¬ DomI F a b from fun h => by have := h.2.2.2.1; omega)
    go_wp2_with fail
    go_ret
    exact ⟨false, rfl, by simp only [Bool.false_eq_true, false_iff]; exact HN.out, B1.out⟩
  have t3 : decide ((F.blk.n : Int) ≤ b) = false := by simpa using b1
  obtain ⟨x, rfl⟩ : ∃ x : Nat, a = x := ⟨a.toNat, by omega⟩
  obtain ⟨y, rfl⟩ : ∃ y : Nat, b = y := ⟨b.toNat, by omega⟩
  have xn : x < F.blk.n := by omega
  have yn : y < F.blk.n := by omega
  have i1 := bool_at (g := RM) xn
  have i2 := bool_at (g := RM) yn
  have p1 := HR.out.cell xn
  have p2 := HR.out.cell yn
  have DI := hid (show DomI F x y ↔ DomR F x y from ⟨fun h => by have := h.2.2.2.2; simpa using this, fun h => ⟨by omega, by omega, by omega, by omega, by simpa using h⟩⟩)
  cases hx : f x with
  | false =>
    rw [hx] at p1
    have HN := hid (show ¬ DomI F x y from fun h => by have := (HFB.out x xn).2 (DI.out.1 h).1; rw [hx] at this; cases this)
    clear hx
    go_wp2_with fail
    go_ret
    exact ⟨false, rfl, by simp only [Bool.false_eq_true, false_iff]; exact HN.out, B1.out⟩
  | true =>
  rw [hx] at p1
  have HX := hid ((HFB.out x xn).1 hx)
  clear hx
  cases hy : f y with
  | false =>
    rw [hy] at p2
    have HN := hid (show ¬ DomI F x y from fun h => by have := (HFB.out y yn).2 (DI.out.1 h).2.1; rw [hy] at this; cases this)
    clear hy
    go_wp2_with fail
    go_ret
    exact ⟨false, rfl, by simp only [Bool.false_eq_true, false_iff]; exact HN.out, B1.out⟩
  | true =>
  rw [hy] at p2
  have HY := hid ((HFB.out y yn).1 hy)
  clear hy
  by_cases hxy : x = y
  · have t4 : ((x : Int) == (y : Int)) = true := by simp [hxy]
    have HD := hid (show DomI F x y from DI.out.2 ⟨HX.out, HY.out, .inl hxy⟩)
    clear hxy
    go_wp2_with fail
    go_ret
    exact ⟨true, rfl, by simp only [true_iff]; exact HD.out, B1.out⟩
  have t4 : ((x : Int) == (y : Int)) = false := by simp; omega
  obtain ⟨f0, f1, f2, f3, f4⟩ := FA1.out
  go_wp2_with fail
  refine (from_ref F 0 x _ (HF.out.on B1.out) HL.out).mono ?_
  rintro e w4 ⟨g, ⟨WB, rfl, hg4, hW4, hb4⟩, hg⟩
  have GW := hid (show g y = true ↔ x ≠ 0 ∧ Go.Proofs.Ytahjippocejphaa.Flo.Way (suL F x) 0 y from by
    rw [hg y yn]
    exact ⟨fun h => ⟨by have := h.2.1; omega, h.2.2⟩, fun h => ⟨by unfold isB; simp; omega, by have := h.1; omega, h.2⟩⟩)
  have B4 := hid (View.more B1.out hb4)
  have p5 := hg4.cell yn
  have i5 := bool_at (g := WB) yn
  clear hg4 hW4 hb4 hg f0 f1 f2 f3 f4
  cases hgy : g y with
  | true =>
    rw [hgy] at p5
    have HN := hid (show ¬ DomI F x y from fun h => by
      rcases (DI.out.1 h).2.2 with h | h
      · exact hxy h
      · exact h (GW.out.1 hgy))
    clear hgy
    go_wp2_with fail
    go_ret
    exact ⟨false, rfl, by simp only [Bool.false_eq_true, false_iff]; exact HN.out, B4.out⟩
  | false =>
    rw [hgy] at p5
    have HD := hid (show DomI F x y from DI.out.2 ⟨HX.out, HY.out, .inr (fun h => by have := GW.out.2 h; rw [hgy] at this; cases this)⟩)
    clear hgy
    go_wp2_with fail
    go_ret
    exact ⟨true, rfl, by simp only [true_iff]; exact HD.out, B4.out⟩

theorem way_ltK {F : FV} (h0 : 0 < F.blk.n) {y : Nat} (h : Go.Proofs.Ytahjippocejphaa.Flo.Way (su F) 0 y) : y < F.blk.n := by
  cases h with
  | refl => exact h0
  | step _ hc => exact su_lt F _ _ hc

/-- There is such a tree. -/
theorem gro_ex {F : FV} (hl : Light F) (h0 : 0 < F.blk.n) : ∃ L par, Gro (su F) L par [] := by
  have key : ∀ k (L : List Nat) (par : Nat → Nat) (U : List (Nat × Nat)), Gro (su F) L par U → (F.blk.n - L.length) * 21 + U.length ≤ k → ∃ L par, Gro (su F) L par [] := by
    intro k
    induction k with
    | zero =>
      intro L par U h hk
      have : U = [] := List.eq_nil_of_length_eq_zero (by omega)
      subst this
      exact ⟨L, par, h⟩
    | succ k ih =>
      intro L par U h hk
      rcases List.eq_nil_or_concat U with rfl | ⟨U', u, rfl⟩
      · exact ⟨L, par, h⟩
      · simp only [List.concat_eq_append] at h hk
        by_cases hu : u.2 ∈ L
        · exact ih L par U' (h.skip hu) (by simp at hk; omega)
        · have h2 := h.meet hu
          have hle := length_le_of_lt F.blk.n (L ++ [u.2]) h2.nodup (fun y hy => way_ltK h0 (h2.way y hy))
          have hs := su_le hl u.2
          refine ih _ _ _ h2 ?_
          simp at hk hle ⊢
          omega
  exact key _ _ _ _ (Gro.start (su F)) (Nat.le_refl _)

/-- The lowest of those over b among the first k. -/
def LowK (F : FV) (b k : Nat) (c : Int) : Prop := (c = -1 ∧ ∀ d, d < k → d ≠ b → ¬ DomR F d b) ∨ ∃ x : Nat, c = x ∧ x < F.blk.n ∧ x ≠ b ∧ DomR F x b ∧ ∀ d, d < k → d ≠ b → DomR F d b → DomR F d x

theorem LowK.fin {F : FV} {L : List Nat} {par : Nat → Nat} (hgr : Gro (su F) L par []) {b : Nat} {c : Int} (h : LowK F b F.blk.n c) (h0 : 0 < F.blk.n) : (b ≠ 0 → Go.Proofs.Ytahjippocejphaa.Flo.Way (su F) 0 b → ∃ a : Nat, a < F.blk.n ∧ c = a ∧ NearB F b a) ∧ ((b = 0 ∨ ¬ Go.Proofs.Ytahjippocejphaa.Flo.Way (su F) 0 b) → c = -1) := by
  have dn : ∀ d, DomR F d b → d < F.blk.n := fun d hd => way_ltK h0 hd.1
  refine ⟨fun hb hw => ?_, fun hb => ?_⟩
  · rcases h with ⟨_, h⟩ | ⟨x, hx, hxn, hxb, hxd, hlow⟩
    · refine absurd ?_ (h 0 h0 (fun e => hb e.symm))
      exact ⟨.refl 0, hw, .inr fun q => q.1 rfl⟩
    · exact ⟨x, hxn, hx, hxd, hxb, fun d hd hdb => hlow d (dn d hdb) hd hdb⟩
  · rcases h with ⟨h, _⟩ | ⟨x, hx, hxn, hxb, hxd, hlow⟩
    · exact h
    · rcases hb with rfl | hb
      · have h00 : DomR F 0 x := ⟨.refl 0, hxd.1, .inr fun q => q.1 rfl⟩
        exact absurd (dom_anti hxd h00 hgr) hxb
      · exact absurd hxd.2.1 hb

theorem LowK.skip {F : FV} {b k : Nat} {c : Int} (h : LowK F b k c) (hk : k = b ∨ ¬ DomR F k b) : LowK F b (k + 1) c := by
  rcases h with ⟨h1, h⟩ | ⟨x, hx, hxn, hxb, hxd, hlow⟩
  · refine .inl ⟨h1, fun d hd hdb hdd => ?_⟩
    by_cases e : d = k
    · subst e; rcases hk with h' | h'
      · exact hdb h'
      · exact h' hdd
    · exact h d (by omega) hdb hdd
  · refine .inr ⟨x, hx, hxn, hxb, hxd, fun d hd hdb hdd => ?_⟩
    by_cases e : d = k
    · subst e; rcases hk with h' | h'
      · exact absurd h' hdb
      · exact absurd hdd h'
    · exact hlow d (by omega) hdb hdd

theorem LowK.take {F : FV} {L : List Nat} {par : Nat → Nat} (hgr : Gro (su F) L par []) {b k : Nat} {c : Int} (h : LowK F b k c) (hkn : k < F.blk.n) (hkb : k ≠ b) (hkd : DomR F k b) (hc : c = -1 ∨ ∃ x : Nat, c = x ∧ DomR F x k) : LowK F b (k + 1) k := by
  refine .inr ⟨k, rfl, hkn, hkb, hkd, fun d hd hdb hdd => ?_⟩
  by_cases e : d = k
  · subst e; exact dom_self hdd.1
  · rcases h with ⟨h1, h⟩ | ⟨x, hx, hxn, hxb, hxd, hlow⟩
    · exact absurd hdd (h d (by omega) hdb)
    · rcases hc with hc | ⟨y, hy, hyk⟩
      · omega
      · obtain rfl : y = x := by omega
        exact dom_trans (hlow d (by omega) hdb hdd) hyk hgr

theorem LowK.stay {F : FV} {L : List Nat} {par : Nat → Nat} (hgr : Gro (su F) L par []) {b k x : Nat} (h : LowK F b k (x : Int)) (hkd : DomR F k b) (hx : ¬ DomR F x k) : LowK F b (k + 1) (x : Int) := by
  rcases h with ⟨h1, h⟩ | ⟨y, hy, hyn, hyb, hyd, hlow⟩
  · omega
  · obtain rfl : y = x := by omega
    refine .inr ⟨y, rfl, hyn, hyb, hyd, fun d hd hdb hdd => ?_⟩
    by_cases e : d = k
    · subst e
      rcases dom_chain hdd hyd hgr with h | h
      · exact h
      · exact absurd h hx
    · exact hlow d (by omega) hdb hdd

end Go.Proofs.Ytahjippocejphaa.Dm
