/-
  SameIr, SameIr2: laid together.
-/
import Derived.Test.YtclioagemjpnoaaSmall
import Derived.Test.YtclioagemjpnoaaSame
/-
  Whether lists, instructions, blocks and functions are alike, by the program: slices.Equal, slices.EqualFunc, ir.sameIns.
-/
namespace Go.Proofs.Ytclioagemjpnoaa.Mod
open Go.RowKit View Rd Num Opn Copy

set_option linter.unusedVariables false

set_option maxHeartbeats 1000000 in
theorem equal33 (s t : Sl) (f g : Nat → Int) (w : World) (hs : Ints w s f) (ht : Ints w t g) (hsm : s.n ≤ 1000) :
    Calls Try.prog 83 #[.slice s.a s.n s.c, .slice t.a t.n t.c] w fun e w' => ∃ r : Bool, e = .returned (.bool r) ∧ (r = true ↔ Eqs s t f g) ∧ ∃ q, w' = w.drewN q := by
  by_cases hn : s.n = t.n
  · have hn' : ((s.n : Int) != (t.n : Int)) = false := by simp [hn]
    have HN : Hid (s.n = t.n) := hn
    clear hn
    go_enter Try.func83, Try.ntmps83
    go_wp2
    go_loopw [13] (fun i wr => ∃ k : Nat, k ≤ s.n ∧ i = .int .i64 k ∧ (∀ i, i < k → f i = g i) ∧ ∃ q, wr = w.drewN q) (fun i _ => s.n - (intOf i).toNat)
    case atStart => exact ⟨0, Nat.zero_le _, rfl, fun i hi => by omega, 0, rfl⟩
    case round =>
      obtain ⟨k, hk, rfl, hall, q, rfl⟩ := hrel
      have HA : Hid (∀ i, i < k → f i = g i) := hall
      clear hall
      by_cases hlt : k < s.n
      · obtain ⟨b, o, hix, hc⟩ := hs.at hlt
        obtain ⟨b', o', hix', hc'⟩ := ht.at (k := k) (by have := HN.out; omega)
        go_wp2
        go_region
        by_cases hfg : f k = g k
        · have hfg' : (f k != g k) = false := by simp [hfg]
          have HE := hid hfg
          clear hfg
          go_wp2
          go_round
          case rel => exact ⟨k + 1, by omega, by go_num, upto HA.out HE.out, q + 1, rfl⟩
          case measure => simp [intOf]; omega
        · have hfg' : (f k != g k) = true := by simp [hfg]
          go_wp2
          go_ret
          exact ⟨false, rfl, by simp only [Bool.false_eq_true, false_iff]; intro h; exact hfg (h.2 k hlt), q + 1, rfl⟩
      · obtain rfl : k = s.n := by omega
        go_wp2
        go_ret
        exact ⟨true, rfl, by simp only [true_iff]; exact ⟨HN.out, HA.out⟩, q, rfl⟩
  · have hn' : ((s.n : Int) != (t.n : Int)) = true := by simp; omega
    go_enter Try.func83, Try.ntmps83
    go_wp2
    go_ret
    exact ⟨false, rfl, by simp [Eqs, hn], 0, rfl⟩

theorem at56 {w : World} {s : Sl} {f : Nat → Int} (h : Ints w s f) {k : Nat} (hk : k < s.n) :
    ∃ b o, (∀ wx, (Instr.indexAt 69 (.slice s.a s.n s.c) (.int .i64 k)).run Try.prog wx = .ok (.pointer (some ⟨b, o, none⟩)) wx) ∧ w.cell? ⟨b, o, none⟩ = some (.int .i64 (f k)) := by
  obtain ⟨b, off, ha, hc⟩ := h.2.2.2 (by omega)
  exact ⟨b, off + k * 1, index_row ha underlying69 size2 hk, by rw [Nat.mul_one]; exact hc k hk⟩

set_option maxHeartbeats 1000000 in
theorem equal56 (s t : Sl) (f g : Nat → Int) (w : World) (hs : Ints w s f) (ht : Ints w t g) (hsm : s.n ≤ 1000) :
    Calls Try.prog 84 #[.slice s.a s.n s.c, .slice t.a t.n t.c] w fun e w' => ∃ r : Bool, e = .returned (.bool r) ∧ (r = true ↔ Eqs s t f g) ∧ ∃ q, w' = w.drewN q := by
  by_cases hn : s.n = t.n
  · have hn' : ((s.n : Int) != (t.n : Int)) = false := by simp [hn]
    have HN : Hid (s.n = t.n) := hn
    clear hn
    go_enter Try.func84, Try.ntmps84
    go_wp2
    go_loopw [13] (fun i wr => ∃ k : Nat, k ≤ s.n ∧ i = .int .i64 k ∧ (∀ i, i < k → f i = g i) ∧ ∃ q, wr = w.drewN q) (fun i _ => s.n - (intOf i).toNat)
    case atStart => exact ⟨0, Nat.zero_le _, rfl, fun i hi => by omega, 0, rfl⟩
    case round =>
      obtain ⟨k, hk, rfl, hall, q, rfl⟩ := hrel
      have HA : Hid (∀ i, i < k → f i = g i) := hall
      clear hall
      by_cases hlt : k < s.n
      · obtain ⟨b, o, hix, hc⟩ := at56 hs hlt
        obtain ⟨b', o', hix', hc'⟩ := at56 ht (k := k) (by have := HN.out; omega)
        go_wp2
        go_region
        by_cases hfg : f k = g k
        · have hfg' : (f k != g k) = false := by simp [hfg]
          have HE := hid hfg
          clear hfg
          go_wp2
          go_round
          case rel => exact ⟨k + 1, by omega, by go_num, upto HA.out HE.out, q + 1, rfl⟩
          case measure => simp [intOf]; omega
        · have hfg' : (f k != g k) = true := by simp [hfg]
          go_wp2
          go_ret
          exact ⟨false, rfl, by simp only [Bool.false_eq_true, false_iff]; intro h; exact hfg (h.2 k hlt), q + 1, rfl⟩
      · obtain rfl : k = s.n := by omega
        go_wp2
        go_ret
        exact ⟨true, rfl, by simp only [true_iff]; exact ⟨HN.out, HA.out⟩, q, rfl⟩
  · have hn' : ((s.n : Int) != (t.n : Int)) = true := by simp; omega
    go_enter Try.func84, Try.ntmps84
    go_wp2
    go_ret
    exact ⟨false, rfl, by simp [Eqs, hn], 0, rfl⟩

set_option maxHeartbeats 1000000 in
theorem sameIns_ir (v u : IV) (a j a' j' : Nat → Int) (w : World) (ha : Ints w v.args a) (hj : Ints w v.into j) (ha' : Ints w u.args a') (hj' : Ints w u.into j') (h1 : v.args.n ≤ 1000) (h2 : v.into.n ≤ 1000) :
    Calls Try.prog 110 #[v.val, u.val] w fun e w' => Ans (fun r => r = true ↔ EqI v u a j a' j') w e w' := by
  by_cases e0 : v.op = u.op
  case neg =>
    have t0 : (v.op == u.op) = false := by simp [e0]
    go_enter Try.func110, Try.ntmps110
    go_wp2_with fail
    go_ret
    exact ⟨false, rfl, by simp [EqI, e0], new (new (same w) _) _⟩
  have t0 : (v.op == u.op) = true := by simp [e0]
  have E0 := hid e0; clear e0
  by_cases e1 : v.ty = u.ty
  case neg =>
    have t1 : (v.ty == u.ty) = false := by simp [e1]
    go_enter Try.func110, Try.ntmps110
    go_wp2_with fail
    go_ret
    exact ⟨false, rfl, by simp [EqI, e1], new (new (same w) _) _⟩
  have t1 : (v.ty == u.ty) = true := by simp [e1]
  have E1 := hid e1; clear e1
  by_cases e2 : v.to = u.to
  case neg =>
    have t2 : (v.to == u.to) = false := by simp [e2]
    go_enter Try.func110, Try.ntmps110
    go_wp2_with fail
    go_ret
    exact ⟨false, rfl, by simp [EqI, e2], new (new (same w) _) _⟩
  have t2 : (v.to == u.to) = true := by simp [e2]
  have E2 := hid e2; clear e2
  by_cases e3 : v.sym = u.sym
  case neg =>
    have t3 : (v.sym == u.sym) = false := by simp [e3]
    go_enter Try.func110, Try.ntmps110
    go_wp2_with fail
    go_ret
    exact ⟨false, rfl, by simp [EqI, e3], new (new (same w) _) _⟩
  have t3 : (v.sym == u.sym) = true := by simp [e3]
  have E3 := hid e3; clear e3
  by_cases e4 : v.num = u.num
  case neg =>
    have t4 : (v.num == u.num) = false := by simp [e4]
    go_enter Try.func110, Try.ntmps110
    go_wp2_with fail
    go_ret
    exact ⟨false, rfl, by simp [EqI, e4], new (new (same w) _) _⟩
  have t4 : (v.num == u.num) = true := by simp [e4]
  have E4 := hid e4; clear e4
  go_enter Try.func110, Try.ntmps110
  go_wp2_with fail
  have hb0 := new (new (same w) (.cells #[.int .i64 v.op, .int .i64 v.ty, .int .i64 v.to, .int .i64 v.sym, .int .i64 v.num, .slice v.args.a v.args.n v.args.c, .slice v.into.a v.into.n v.into.c] 42)) (.cells #[.int .i64 u.op, .int .i64 u.ty, .int .i64 u.to, .int .i64 u.sym, .int .i64 u.num, .slice u.args.a u.args.n u.args.c, .slice u.into.a u.into.n u.into.c] 42)
  refine (equal33 v.args u.args a a' _ (ha.on hb0) (ha'.on hb0) h1).mono ?_
  rintro e w1 ⟨r1, rfl, hr1, q, rfl⟩
  cases r1
  · have n1 : ¬ Eqs v.args u.args a a' := by simpa using hr1
    clear hr1
    go_wp2_with fail
    go_ret
    exact ⟨false, rfl, by simp [EqI, n1], below_drewN hb0 q⟩
  · have n1 : Eqs v.args u.args a a' := by simpa using hr1
    have N1 := hid n1
    clear hr1 n1
    go_wp2_with fail
    have hb1 := below_drewN hb0 q
    refine (equal33 v.into u.into j j' _ (hj.on hb1) (hj'.on hb1) h2).mono ?_
    rintro e w1 ⟨r2, rfl, hr2, q2, rfl⟩
    have HR := hid hr2; clear hr2
    go_wp2_with fail
    go_ret
    exact ⟨r2, rfl, by show r2 = true ↔ _; rw [HR.out]; exact ⟨fun h => ⟨E0.out, E1.out, E2.out, E3.out, E4.out, N1.out, h⟩, fun h => h.2.2.2.2.2.2⟩, below_drewN hb0 _⟩

set_option maxHeartbeats 1000000 in
theorem equalI (s t : Sl) (I I' : Nat → IV) (A J A' J' : Nat → Nat → Int) (w : World) (hs : Inss w s I) (ht : Inss w t I') (ha : ∀ k, k < s.n → Ints w (I k).args (A k)) (hj : ∀ k, k < s.n → Ints w (I k).into (J k)) (ha' : ∀ k, k < t.n → Ints w (I' k).args (A' k)) (hj' : ∀ k, k < t.n → Ints w (I' k).into (J' k)) (hsm : s.n ≤ 1000) (h1 : ∀ k, k < s.n → (I k).args.n ≤ 1000) (h2 : ∀ k, k < s.n → (I k).into.n ≤ 1000) :
    Calls Try.prog 109 #[.slice s.a s.n s.c, .slice t.a t.n t.c, .func (.func 110) #[] #[]] w fun e w' => Ans (fun r => r = true ↔ s.n = t.n ∧ ∀ i, i < s.n → EqI (I i) (I' i) (A i) (J i) (A' i) (J' i)) w e w' := by
  by_cases hn : s.n = t.n
  · have hn' : ((s.n : Int) != (t.n : Int)) = false := by simp [hn]
    have HN := hid hn
    clear hn
    go_enter Try.func109, Try.ntmps109
    go_wp2_with fail
    go_loopw [17] (fun i wr => ∃ k : Nat, k ≤ s.n ∧ i = .int .i64 k ∧ (∀ i, i < k → EqI (I i) (I' i) (A i) (J i) (A' i) (J' i)) ∧ Below w.heap.size w wr) (fun i _ => s.n - (intOf i).toNat)
    case atStart => exact ⟨0, Nat.zero_le _, rfl, fun i hi => by omega, same w⟩
    case round =>
      obtain ⟨k, hk, rfl, hall, hb⟩ := hrel
      have HA := hid hall
      clear hall
      by_cases hlt : k < s.n
      · have hlt' : k < t.n := by have := HN.out; omega
        obtain ⟨b, o, hix, c0, c1, c2, c3, c4, c5, c6⟩ := (hs.on hb).at hlt
        obtain ⟨b', o', hix', d0, d1, d2, d3, d4, d5, d6⟩ := (ht.on hb).at hlt'
        have hlx := World.block_lt_of_cell? _ _ d0
        go_wp2_with fail
        have hb2 := new (new hb (.cells (I k).cells 42)) (.cells (I' k).cells 42)
        refine (sameIns_ir (I k) (I' k) (A k) (J k) (A' k) (J' k) _ ((ha k hlt).on hb2) ((hj k hlt).on hb2) ((ha' k hlt').on hb2) ((hj' k hlt').on hb2) (h1 k hlt) (h2 k hlt)).mono ?_
        rintro e w2 ⟨r, rfl, hr, hb3⟩
        have HB := hid (more hb2 hb3)
        clear hb3 hb2
        cases r
        · have n2 : ¬ (EqI (I k) (I' k) (A k) (J k) (A' k) (J' k)) := by simpa using hr
          clear hr
          go_wp2_with fail
          go_ret
          exact ⟨false, rfl, by simp only [Bool.false_eq_true, false_iff]; intro h; exact n2 (h.2 k hlt), HB.out⟩
        · have n2 : EqI (I k) (I' k) (A k) (J k) (A' k) (J' k) := by simpa using hr
          have N2 := hid n2
          clear hr n2
          go_wp2_with fail
          go_round
          case rel => exact ⟨k + 1, by omega, by go_num, upto HA.out N2.out, HB.out⟩
          case measure => simp [intOf]; omega
      · obtain rfl : k = s.n := by omega
        go_wp2_with fail
        go_ret
        exact ⟨true, rfl, by simp only [true_iff]; exact ⟨HN.out, HA.out⟩, hb⟩
  · have hn' : ((s.n : Int) != (t.n : Int)) = true := by simp; omega
    go_enter Try.func109, Try.ntmps109
    go_wp2_with fail
    go_ret
    exact ⟨false, rfl, by simp [hn], same w⟩

end Go.Proofs.Ytclioagemjpnoaa.Mod

/-
  Whether blocks, functions, externs, globals, tables and modules are alike, by the program: ir.SameFunc, ir.Same.
-/
namespace Go.Proofs.Ytclioagemjpnoaa.Mod
open Go.RowKit View Rd Num Opn Copy

set_option linter.unusedVariables false

/-- Block j of two functions, alike. -/
def EqB (F G : FV) (j : Nat) : Prop := (F.B j).n = (G.B j).n ∧ ∀ k, k < (F.B j).n → EqI (F.I j k) (G.I j k) (F.A j k) (F.J j k) (G.A j k) (G.J j k)

set_option maxHeartbeats 400000 in
theorem sameBlock_ir (F G : FV) (j : Nat) (w : World) (hF : In w F) (hG : In w G) (hl : Light F) (hj : j < F.blk.n) (hj' : j < G.blk.n) :
    Calls Try.prog 86 #[.agg #[.slice (F.B j).a (F.B j).n (F.B j).c], .agg #[.slice (G.B j).a (G.B j).n (G.B j).c]] w fun e w' => Ans (fun r => r = true ↔ EqB F G j) w e w' := by
  have hb0 := new (new (same w) (.cells #[.slice (F.B j).a (F.B j).n (F.B j).c] 39)) (.cells #[.slice (G.B j).a (G.B j).n (G.B j).c] 39)
  have HC := hid (equalI (F.B j) (G.B j) (F.I j) (G.I j) (F.A j) (F.J j) (G.A j) (G.J j) _ ((hF.ins j hj).on hb0) ((hG.ins j hj').on hb0) (fun k hk => (hF.args j hj k hk).on hb0) (fun k hk => (hF.into j hj k hk).on hb0) (fun k hk => (hG.args j hj' k hk).on hb0) (fun k hk => (hG.into j hj' k hk).on hb0) (by have := hl.ins j hj; omega) (fun k hk => by have := hl.args j hj k hk; omega) (fun k hk => by have := hl.into j hj k hk; omega))
  have HB := hid hb0
  clear hb0
  go_enter Try.func86, Try.ntmps86
  go_wp2_with fail
  refine HC.out.mono ?_
  rintro e w1 ⟨r, rfl, hr, hb1⟩
  have FIN := hid (And.intro hr (more HB.out hb1))
  clear hr hb1
  go_wp2_with fail
  go_ret
  exact ⟨r, rfl, FIN.out.1, FIN.out.2⟩

set_option maxHeartbeats 1000000 in
theorem equalB (F G : FV) (s t : Sl) (hsF : s = F.blk) (htG : t = G.blk) (w : World) (hF : In w F) (hG : In w G) (hl : Light F) :
    Calls Try.prog 85 #[.slice s.a s.n s.c, .slice t.a t.n t.c, .func (.func 86) #[] #[]] w fun e w' => Ans (fun r => r = true ↔ s.n = t.n ∧ ∀ i, i < s.n → EqB F G i) w e w' := by
  have hsm : s.n ≤ 1000 := by rw [hsF]; have := hl.blk; omega
  have hFk : Hid (∀ k, k < s.n → k < F.blk.n) := by rw [hsF]; exact fun k hk => hk
  have hGk : Hid (∀ k, k < t.n → k < G.blk.n) := by rw [htG]; exact fun k hk => hk
  have SF := hid hsF
  have TG := hid htG
  clear hsF htG
  by_cases hn : s.n = t.n
  · have hn' : ((s.n : Int) != (t.n : Int)) = false := by simp [hn]
    have HN := hid hn
    clear hn
    go_enter Try.func85, Try.ntmps85
    go_wp2_with fail
    go_loopw [17] (fun i wr => ∃ k : Nat, k ≤ s.n ∧ i = .int .i64 k ∧ (∀ i, i < k → EqB F G i) ∧ Below w.heap.size w wr) (fun i _ => s.n - (intOf i).toNat)
    case atStart => exact ⟨0, Nat.zero_le _, rfl, fun i hi => by omega, same w⟩
    case round =>
      obtain ⟨k, hk, rfl, hall, hb⟩ := hrel
      have HA := hid hall
      clear hall
      by_cases hlt : k < s.n
      · have hlt' : k < t.n := by have := HN.out; omega
        obtain ⟨b, o, hix, c0⟩ : ∃ b o, (∀ wx, (Instr.indexAt 33 (.slice s.a s.n s.c) (.int .i64 k)).run Try.prog wx = .ok (.pointer (some ⟨b, o, none⟩)) wx) ∧ wr.cell? ⟨b, o, none⟩ = some (.slice (F.B k).a (F.B k).n (F.B k).c) := by have e := SF.out; subst e; exact (hF.blk.on hb).at hlt
        obtain ⟨b', o', hix', d0⟩ : ∃ b o, (∀ wx, (Instr.indexAt 33 (.slice t.a t.n t.c) (.int .i64 k)).run Try.prog wx = .ok (.pointer (some ⟨b, o, none⟩)) wx) ∧ wr.cell? ⟨b, o, none⟩ = some (.slice (G.B k).a (G.B k).n (G.B k).c) := by have e := TG.out; subst e; exact (hG.blk.on hb).at hlt'
        have hlx := World.block_lt_of_cell? _ _ d0
        go_wp2_with fail
        have hb2 := new (new hb (.cells #[.slice (F.B k).a (F.B k).n (F.B k).c] 39)) (.cells #[.slice (G.B k).a (G.B k).n (G.B k).c] 39)
        refine (sameBlock_ir F G k _ (hF.on hb2) (hG.on hb2) hl (hFk.out k hlt) (hGk.out k hlt')).mono ?_
        rintro e w2 ⟨r, rfl, hr, hb3⟩
        have HB := hid (more hb2 hb3)
        clear hb3 hb2
        cases r
        · have n2 : ¬ (EqB F G k) := by simpa using hr
          clear hr
          go_wp2_with fail
          go_ret
          exact ⟨false, rfl, by simp only [Bool.false_eq_true, false_iff]; intro h; exact n2 (h.2 k hlt), HB.out⟩
        · have n2 : EqB F G k := by simpa using hr
          have N2 := hid n2
          clear hr n2
          go_wp2_with fail
          go_round
          case rel => exact ⟨k + 1, by omega, by go_num, upto HA.out N2.out, HB.out⟩
          case measure => simp [intOf]; omega
      · obtain rfl : k = s.n := by omega
        go_wp2_with fail
        go_ret
        exact ⟨true, rfl, by simp only [true_iff]; exact ⟨HN.out, HA.out⟩, hb⟩
  · have hn' : ((s.n : Int) != (t.n : Int)) = true := by simp; omega
    go_enter Try.func85, Try.ntmps85
    go_wp2_with fail
    go_ret
    exact ⟨false, rfl, by simp [hn], same w⟩

set_option maxHeartbeats 1000000 in
theorem sameFunc_ir (F G : FV) (w : World) (hF : In w F) (hG : In w G) (hl : Light F) :
    Calls Try.prog 49 #[F.val, G.val] w fun e w' => Ans (fun r => r = true ↔ EqF F G) w e w' := by
  by_cases e0 : F.name.toList = G.name.toList
  case neg =>
    have t0 : (F.name.toList == G.name.toList) = false := by simp [e0]
    go_enter Try.func49, Try.ntmps49
    go_wp2_with fail
    go_ret
    exact ⟨false, rfl, by simp [EqF, e0], new (new (same w) _) _⟩
  have t0 : (F.name.toList == G.name.toList) = true := by simp [e0]
  have E0 := hid e0; clear e0
  by_cases e1 : F.out = G.out
  case neg =>
    have t1 : (F.out == G.out) = false := by simp [e1]
    go_enter Try.func49, Try.ntmps49
    go_wp2_with fail
    go_ret
    exact ⟨false, rfl, by simp [EqF, e1], new (new (same w) _) _⟩
  have t1 : (F.out == G.out) = true := by simp [e1]
  have E1 := hid e1; clear e1
  by_cases e2 : F.res = G.res
  case neg =>
    have t2 : (F.res == G.res) = false := by simp [e2]
    go_enter Try.func49, Try.ntmps49
    go_wp2_with fail
    go_ret
    exact ⟨false, rfl, by simp [EqF, e2], new (new (same w) _) _⟩
  have t2 : (F.res == G.res) = true := by simp [e2]
  have E2 := hid e2; clear e2
  go_enter Try.func49, Try.ntmps49
  go_wp2_with fail
  refine (equal33 F.par G.par F.P G.P _ (hF.par.on (new (new (same w) _) _)) (hG.par.on (new (new (same w) _) _)) (by have := hl.par; omega)).mono ?_
  rintro e w1 ⟨r1, rfl, hr1, q, rfl⟩
  cases r1
  · have n1 : ¬ Eqs F.par G.par F.P G.P := by simpa using hr1
    clear hr1
    go_wp2_with fail
    go_ret
    exact ⟨false, rfl, by simp [EqF, n1], below_drewN (new (new (same w) _) _) q⟩
  have n1 : Eqs F.par G.par F.P G.P := by simpa using hr1
  have N1 := hid n1
  clear hr1 n1
  go_wp2_with fail
  have hbb := below_drewN (new (new (same w) (.cells (fcells F) 35)) (.cells (fcells G) 35)) q
  refine (equalB F G F.blk G.blk rfl rfl _ (hF.on hbb) (hG.on hbb) hl).mono ?_
  rintro e w2 ⟨r2, rfl, hr2, hb2⟩
  have FIN := hid (And.intro hr2 (more hbb hb2))
  clear hr2 hb2 hbb
  go_wp2_with fail
  go_ret
  exact ⟨r2, rfl, by show r2 = true ↔ _; rw [FIN.out.1]; exact ⟨fun h => ⟨E0.out, E1.out, E2.out, N1.out, h.1, h.2⟩, fun h => ⟨h.2.2.2.2.1, h.2.2.2.2.2⟩⟩, FIN.out.2⟩

end Go.Proofs.Ytclioagemjpnoaa.Mod
