/-
  MemPlays: two Mems beside each other.
-/
import Derived.Test.YtckkbamelkkblaaObl
import Derived.Test.YtckkbamelkkblaaObO
namespace Go.Proofs.Ytckkbamelkkblaa.Ob
open Go.RowKit View Go.Proofs.Ytckkbamelkkblaa.ObO

set_option linter.unusedVariables false

variable {base M N o n n' : Nat} {w w2 : World} {v1 v2 v3 : Sl} {S1 S2 S3 : Nat → Sl} {f g : Nat → Nat → Int}

/-- What is done to the one leaves the other. -/
theorem side (h2 : Obs base w N 0 v2 n' S2 g) (dis : ∀ b, Fp M v1 n S1 b → ¬ Fp N v2 n' S2 b) (hc : Chg (Fp M v1 n S1) w w2) {m : Nat} (hn : ∀ b, Fp M v3 m S3 b → Fp M v1 n S1 b ∨ w.heap.size ≤ b) :
    Obs base w2 N 0 v2 n' S2 g ∧ ∀ b, Fp M v3 m S3 b → ¬ Fp N v2 n' S2 b :=
  ⟨h2.chg hc dis, fun b hb hF => by
    rcases hn b hb with h | h
    · exact dis b h hF
    · have := h2.lt hF; omega⟩

/-- Two Mems with the same objects, neither in the other's memory. -/
structure Two (base M N : Nat) (w0 wr : World) (v1 v2 : Sl) (n : Nat) (S1 S2 : Nat → Sl) (f : Nat → Nat → Int) : Prop where
  a : Obs base wr M 0 v1 n S1 f
  b : Obs base wr N 0 v2 n S2 f
  dis : ∀ b, Fp M v1 n S1 b → ¬ Fp N v2 n S2 b
  same : ∀ i, (S1 i).n = (S2 i).n
  few : ∀ i, (S1 i).n ≤ 30
  low : Below w0.heap.size w0 wr
  m : w0.heap.size ≤ M
  k : w0.heap.size ≤ N

theorem fp_ge {w0 : World} (h : Obs base w M o v1 n S1 f) (h0 : w0.heap.size ≤ M) : ∀ b, Fp M v1 n S1 b → w0.heap.size ≤ b := fun b hb => by
  rcases h.ge hb with rfl | h'
  · exact h0
  · have := h.low; omega

theorem fp_store {b : Nat} : Fp M v1 n S1 b → Fp M v1 n S1 b ∨ w.heap.size ≤ b := .inl

theorem Two.swap {w0 : World} (T : Two base M N w0 w v1 v2 n S1 S2 f) : Two base N M w0 w v2 v1 n S2 S1 f :=
  ⟨T.b, T.a, fun b h1 h2 => T.dis b h2 h1, fun i => (T.same i).symm, fun i => by rw [← T.same i]; exact T.few i, T.low, T.k, T.m⟩

/-- Both are made one object. -/
theorem Two.make {w0 wa : World} {F : Nat → Int} {len : Nat} {e : Ending} (T : Two base M N w0 w v1 v2 n S1 S2 f) (hlen : len ≤ 30) (ha : MakeIs base M 0 n v1 S1 f len F w e wa) :
    Obs base wa N 0 v2 n S2 f ∧ Below w0.heap.size w0 wa ∧ Chg (Fp M v1 n S1) w wa ∧
      ∀ e' wb, MakeIs base N 0 n v2 S2 f len F wa e' wb → (∃ v1' v2' S1' S2' f', Two base M N w0 wb v1' v2' (n + 1) S1' S2' f') ∧ Chg (Fp N v2 n S2) wa wb := by
  obtain ⟨_, v4, s, hs, O, C, NW⟩ := ha
  obtain ⟨ON, dis⟩ := side T.b T.dis C NW
  have low := C.below T.low T.low.size (fp_ge T.a T.m)
  refine ⟨ON, low, C, fun e' wb hb => ?_⟩
  obtain ⟨_, v5, s', hs', O', C', NW'⟩ := hb
  obtain ⟨OM, dis'⟩ := side O (fun b h1 h2 => dis b h2 h1) C' NW'
  refine ⟨⟨v4, v5, _, _, _, ⟨OM, O', fun b h1 h2 => dis' b h2 h1, fun i => ?_, fun i => ?_, C'.below low low.size (fp_ge ON T.k), T.m, T.k⟩⟩, C'⟩
  · show (if i = n then s else S1 i).n = (if i = n then s' else S2 i).n
    by_cases h : i = n
    · rw [if_pos h, if_pos h, hs, hs']
    · rw [if_neg h, if_neg h]; exact T.same i
  · show (if i = n then s else S1 i).n ≤ 30
    by_cases h : i = n
    · rw [if_pos h, hs]; exact hlen
    · rw [if_neg h]; exact T.few i

theorem szOf_eq (h : ∀ i, (S1 i).n = (S2 i).n) (i : Int) : szOf n S1 i = szOf n S2 i := by
  unfold szOf; rw [h]

theorem hasC_eq (h : ∀ i, (S1 i).n = (S2 i).n) (i k : Int) : hasC n S1 i k = hasC n S2 i k := by
  unfold hasC; rw [szOf_eq h]

theorem cellV_eq (h : ∀ i, (S1 i).n = (S2 i).n) (i k : Int) : cellV n S1 f i k = cellV n S2 f i k := by
  unfold cellV; rw [hasC_eq h]

/-- A number is stored in both. -/
theorem Two.store {w0 wa : World} {i k v : Int} {e : Ending} (T : Two base M N w0 w v1 v2 n S1 S2 f) (ha : StoreIs base M 0 n v1 S1 f i k v w e wa) :
    Obs base wa N 0 v2 n S2 f ∧ Below w0.heap.size w0 wa ∧ Chg (Fp M v1 n S1) w wa ∧
      ∀ e' wb, StoreIs base N 0 n v2 S2 f i k v wa e' wb → (∃ f', Two base M N w0 wb v1 v2 n S1 S2 f') ∧ Chg (Fp N v2 n S2) wa wb := by
  obtain ⟨_, O, C⟩ := ha
  obtain ⟨ON, dis⟩ := side T.b T.dis C (fun b hb => .inl hb)
  have low := C.below T.low T.low.size (fp_ge T.a T.m)
  refine ⟨ON, low, C, fun e' wb hb => ?_⟩
  obtain ⟨_, O', C'⟩ := hb
  obtain ⟨OM, dis'⟩ := side O (fun b h1 h2 => dis b h2 h1) C' (fun b hb => .inl hb)
  rw [← hasC_eq T.same] at O'
  exact ⟨⟨_, OM, O', fun b h1 h2 => dis' b h2 h1, T.same, T.few, C'.below low low.size (fp_ge ON T.k), T.m, T.k⟩, C'⟩

theorem Two.on {w0 wa : World} (T : Two base M N w0 w v1 v2 n S1 S2 f) (hb : Below w.heap.size w wa) : Two base M N w0 wa v1 v2 n S1 S2 f :=
  ⟨T.a.on hb, T.b.on hb, T.dis, T.same, T.few, more T.low hb, T.m, T.k⟩

/-- A block that is laid behind is neither's. -/
theorem Two.new {w0 : World} (T : Two base M N w0 w v1 v2 n S1 S2 f) : ¬ Fp M v1 n S1 w.heap.size ∧ ¬ Fp N v2 n S2 w.heap.size :=
  ⟨fun h => by have := T.a.lt h; omega, fun h => by have := T.b.lt h; omega⟩

/-- What lies between two rounds. -/
def Half (base M N : Nat) (w0 : World) (lim : Nat) (wr : World) : Prop := ∃ n v1 v2 S1 S2 f, n ≤ lim ∧ Two base M N w0 wr v1 v2 n S1 S2 f

/-- A call's box. -/
def Bx (X : Nat) (a : AV) (w : World) : Prop :=
  w.cell? ⟨X, 0, none⟩ = some (.int .i64 a.op) ∧ w.cell? ⟨X, 1, none⟩ = some (.int .i64 a.obj) ∧ w.cell? ⟨X, 2, none⟩ = some (.int .i64 a.off) ∧ w.cell? ⟨X, 3, none⟩ = some (.int .i64 a.v) ∧ w.cell? ⟨X, 4, none⟩ = some (.slice a.s.a a.s.n a.s.c)

theorem Bx.chg {X : Nat} {a : AV} {w w' : World} {p : Nat → Prop} (h : Bx X a w) (hc : Chg p w w') (hp : ¬ p X) : Bx X a w' :=
  ⟨hc.cell h.1 hp, hc.cell h.2.1 hp, hc.cell h.2.2.1 hp, hc.cell h.2.2.2.1 hp, hc.cell h.2.2.2.2 hp⟩

theorem bdn (w : World) (n : Nat) : Below w.heap.size w (w.drewN n) := below_drewN (Below.refl _ _) n

/-- A loop's number, in a world that stays. -/
def Rnp (n : Nat) (W : World) (iv : Value) (wx : World) : Prop := ∃ k : Nat, k ≤ n ∧ iv = .int .i64 k ∧ wx = W

theorem rnp_mk {n k : Nat} {W : World} {i : Int} (h : k ≤ n) (hi : i = (k : Int)) : Rnp n W (.int .i64 i) W := ⟨k, h, by rw [hi], rfl⟩

/-- A number from -1 on. -/
def Rnm (n : Nat) (W : World) (iv : Value) (wx : World) : Prop := ∃ k : Nat, k ≤ n ∧ iv = .int .i64 ((k : Int) - 1) ∧ wx = W

theorem rnm_mk {n k : Nat} {W : World} {i : Int} (h : k ≤ n) (hi : i = (k : Int) - 1) : Rnm n W (.int .i64 i) W := ⟨k, h, by rw [hi], rfl⟩

set_option maxRecDepth 10000 in
set_option maxHeartbeats 8000000 in
theorem plays_small (l : Sl) (A : Nat → AV) (F : Nat → Nat → Int) (w : World) (hl : Acts w l A F) (hn : l.n ≤ 60) :
    Calls Try.prog 3 #[.slice l.a l.n l.c] w fun e w' => e = .returned (.bool true) ∧ Below w.heap.size w w' := by
  have HL := hid hl
  have t1 : decide ((60 : Int) < (l.n : Int)) = false := by simp; omega
  clear hl
  go_enter Try.func3, Try.ntmps3
  go_upto_region 8 with (first
    | (go_at_call 6; refine (first_any _).mono ?_; rintro e w1 ⟨rfl, hb⟩; have st1 := hid hb; clear hb)
    | (go_at_call 7; refine (new_mem _).mono ?_; rintro e w2 ⟨rfl, hw2⟩; have HW := hid hw2; clear hw2))
  clear t1
  have z2 : w2.heap.size = w1.heap.size + 1 := by rw [HW.out]; simp
  have b2 : Below w1.heap.size w1 w2 := by rw [HW.out]; exact new (same _) _
  have b02 : Below w.heap.size w w2 := more st1.out b2
  obtain ⟨M, hM⟩ : ∃ M, w1.heap.size = M := ⟨_, rfl⟩
  obtain ⟨N, hN⟩ : ∃ N, w2.heap.size = N := ⟨_, rfl⟩
  obtain ⟨w3, hw3⟩ : ∃ w3, w2.alloc (.cells #[.slice none 0 0] 29) = w3 := ⟨_, rfl⟩
  have z3 : w3.heap.size = w2.heap.size + 1 := by rw [← hw3]; simp
  have b3 : Below w2.heap.size w2 w3 := by rw [← hw3]; exact new (same _) _
  obtain ⟨B, hB⟩ : ∃ B, w3.heap.size = B := ⟨_, rfl⟩
  have T0 : Two B M N w w3 ⟨none, 0, 0⟩ ⟨none, 0, 0⟩ 0 S0 S0 f0 := by
    have o1 := obs_laid (base := B) (w' := w3) S0 f0 (by rw [← z2, ← HW.out]; exact b3) (by omega) (by omega)
    have o2 := obs_laid (base := B) (w := w2) (w' := w3) (T := 29) S0 f0 (by rw [hw3]; exact Below.refl _ _) (by omega) (by omega)
    rw [hM] at o1
    rw [hN] at o2
    refine ⟨o1, o2, fun b h1 h2 => ?_, fun _ => rfl, fun _ => Nat.zero_le _, more b02 b3, ?_, ?_⟩
    · have e1 : b = M := by
        rcases h1 with h | h | ⟨i, hi, _⟩
        · exact h
        · cases h
        · omega
      have e2 : b = N := by
        rcases h2 with h | h | ⟨i, hi, _⟩
        · exact h
        · cases h
        · omega
      omega
    · rw [← hM]; exact st1.out.size
    · rw [← hN]; exact b02.size
  have H0 := hid (show Half B M N w 0 w3 from ⟨0, _, _, _, _, _, Nat.le_refl _, T0⟩)
  rw [hM, hN, hw3]
  clear z2 b2 b02 hM hN hw3 z3 b3 hB T0 HW st1
  go_wp2_with fail
  go_loopw [5] (fun iv wx => ∃ i : Nat, i ≤ l.n ∧ iv = .int .i64 i ∧ Half B M N w i wx) (fun iv _ => l.n - (intOf iv).toNat)
  case atStart => exact ⟨0, Nat.zero_le _, rfl, H0.out⟩
  case round =>
    clear H0
    obtain ⟨i, hi, rfl, n, v1, v2, S1, S2, f, hni, T⟩ := hrel
    by_cases hlt : i < l.n
    · have r0 : decide ((i : Int) < (l.n : Int)) = true := by simp; omega
      obtain ⟨b, off, hla, hac⟩ := HL.out.2.2.2 (by omega)
      have hix := index_row (s := l) hla Try.underlying22 size32 hlt
      obtain ⟨a, ha⟩ : ∃ a, A i = a := ⟨_, rfl⟩
      obtain ⟨at_, ints⟩ := hac i hlt
      rw [ha] at at_ ints
      have c0 := cell_on T.low at_.c0
      have c1 := cell_on T.low at_.c1
      have c2 := cell_on T.low at_.c2
      have c3 := cell_on T.low at_.c3
      have c4 := cell_on T.low at_.c4
      obtain ⟨of', hof⟩ : ∃ of', off + i * 5 = of' := ⟨_, rfl⟩
      rw [hof] at hix c0 c1 c2 c3 c4
      have HI := hid ints
      have HT := hid T
      clear hla hac at_ ints ha T hof
      go_upto_region 12 with fail
      obtain ⟨X, hX⟩ : ∃ X, wr.heap.size = X := ⟨_, rfl⟩
      obtain ⟨W, hW⟩ : ∃ W, wr.alloc (.cells #[.int .i64 a.op, .int .i64 a.obj, .int .i64 a.off, .int .i64 a.v, .slice a.s.a a.s.n a.s.c] 32) = W := ⟨_, rfl⟩
      have bW : Below wr.heap.size wr W := by rw [← hW]; exact new (same _) _
      have BX := hid (show Bx X a W by rw [← hW, ← hX]; exact ⟨by simp, by simp, by simp, by simp, by simp⟩)
      have HN := hid (show ¬ Fp M v1 n S1 X ∧ ¬ Fp N v2 n S2 X by rw [← hX]; exact HT.out.new)
      have TW := hid (HT.out.on bW)
      rw [hX, hW]
      clear hX hW bW HT c0 c1 c2 c3 c4 hix
      obtain ⟨d0, d1, d2, d3, d4⟩ := BX.out
      by_cases hc : a.s.n ≤ 30
      · have r1 : decide ((30 : Int) < (a.s.n : Int)) = false := by simp; omega
        by_cases h0 : a.op = 0
        · have q0 : ((a.op : Int) == 0) = true := by simpa using h0
          clear h0
          go_upto_region 18 with fail
          clear d0 d1 d2 d3 d4 q0 r1
          have TW := hid (TW.out.on (Below.drew (same W)))
          have BX := hid (show Bx X a W.drew from BX.out)
          have IW := hid (HI.out.on TW.out.low)
          refine wp_region_noPanic ?_
          refine wp_region_held_drew (S := fun wx => Bx X a wx) (by kernel_rfl) BX.out (fun hS => ?_)
          refine takeAt (i := 0) (d := some 64) (v := ?vm0) rfl (by rfl) (by kernel_rfl) (by kernel_rfl) (by kernel_rfl) (fun _ _ _ h => h) (Or.inl ⟨by rfl, ?ym0⟩) hS ?_
          case ym0 => intro wx hSw; (go_simp) <;> with_reducible rfl
          simp only [Act.put, List.setIfInBounds_toArray, List.set_cons_zero, List.set_cons_succ]
          refine takeAt (i := 1) (d := some 65) (v := ?vm1) rfl (by rfl) (by kernel_rfl) (by kernel_rfl) (by kernel_rfl) (fun _ _ _ h => h) (Or.inl ⟨by rfl, ?ym1⟩) hS ?_
          case ym1 => intro wx hSw; (go_simp) <;> with_reducible rfl
          simp only [Act.put, List.setIfInBounds_toArray, List.set_cons_zero, List.set_cons_succ]
          refine takeAt (i := 2) (d := some 66) (v := ?vm2) rfl (by rfl) (by kernel_rfl) (by kernel_rfl) (by kernel_rfl) (fun _ _ _ h => h) (Or.inl ⟨by rfl, ?ym2⟩) hS ?_
          case ym2 => intro wx hSw; obtain ⟨p0, p1, p2, p3, p4⟩ := hSw; (go_simp) <;> with_reducible rfl
          simp only [Act.put, List.setIfInBounds_toArray, List.set_cons_zero, List.set_cons_succ]
          refine takeAt (i := 4) (d := some 68) (v := ?vm4) rfl (by rfl) (by kernel_rfl) (by kernel_rfl) (by kernel_rfl) (fun _ _ _ h => h) (Or.inl ⟨by rfl, ?ym4⟩) hS ?_
          case ym4 => intro wx hSw; (go_simp) <;> with_reducible rfl
          simp only [Act.put, List.setIfInBounds_toArray, List.set_cons_zero, List.set_cons_succ]
          refine takeAt (i := 5) (d := some 69) (v := ?vm5) rfl (by rfl) (by kernel_rfl) (by kernel_rfl) (by kernel_rfl) (fun _ _ _ h => h) (Or.inl ⟨by rfl, ?ym5⟩) hS ?_
          case ym5 => intro wx hSw; (go_simp) <;> with_reducible rfl
          simp only [Act.put, List.setIfInBounds_toArray, List.set_cons_zero, List.set_cons_succ]
          refine takeAt (i := 6) (d := some 70) (v := ?vm6) rfl (by rfl) (by kernel_rfl) (by kernel_rfl) (by kernel_rfl) (fun _ _ _ h => h) (Or.inl ⟨by rfl, ?ym6⟩) hS ?_
          case ym6 => intro wx hSw; obtain ⟨p0, p1, p2, p3, p4⟩ := hSw; (go_simp) <;> with_reducible rfl
          simp only [Act.put, List.setIfInBounds_toArray, List.set_cons_zero, List.set_cons_succ]
          refine wpAnyH_ready (rs := [3]) (by kernel_rfl) (by simp) ?_
          refine AllReadyH.cons rfl (fun K hK => ?_) AllReadyH.nil
          go_simp
          refine (make_mem TW.out.a (by omega) a.s (F i) IW.out (by omega)).mono ?_
          rintro e wa hm
          obtain rfl := hm.1
          obtain ⟨ob, lo, ca, go2⟩ := TW.out.make hc hm
          have ba : Bx X a wa := Bx.chg BX.out ca HN.out.1
          have GO := hid (And.intro ob (And.intro lo go2))
          clear hm ob lo ca go2
          go_wp2_with fail
          refine hK.out _ _ ba (fun _ => ?_)
          clear hK K
          replace hS := ba
          try simp only [Act.put, List.setIfInBounds_toArray, List.set_cons_zero, List.set_cons_succ]
          refine wpAnyH_ready (rs := [7]) (by kernel_rfl) (by simp) ?_
          refine AllReadyH.cons rfl (fun K hK => ?_) AllReadyH.nil
          go_simp
          refine (make_ref GO.out.1 (by omega) a.s (F i) (HI.out.on GO.out.2.1) (by omega)).mono ?_
          rintro e wz hm
          obtain rfl := hm.1
          obtain ⟨⟨u1, u2, U1, U2, g, tz⟩, cz⟩ := GO.out.2.2 _ _ hm
          have bz : Bx X a wz := Bx.chg ba cz HN.out.2
          have TZ := hid tz
          have BZ := hid bz
          clear hm tz cz
          go_wp2_with fail
          refine hK.out _ _ bz (fun _ => ?_)
          clear hK K
          replace hS := bz
          try simp only [Act.put, List.setIfInBounds_toArray, List.set_cons_zero, List.set_cons_succ]
          refine takeAt (i := 8) (d := some 72) (v := ?vm8) rfl (by rfl) (by kernel_rfl) (by kernel_rfl) (by kernel_rfl) (fun _ _ _ h => h) (Or.inl ⟨by rfl, ?ym8⟩) hS ?_
          case ym8 => intro wx hSw; (go_simp) <;> with_reducible rfl
          simp only [Act.put, List.setIfInBounds_toArray, List.set_cons_zero, List.set_cons_succ]
          refine wpAnyH_done (by kernel_rfl) ?_ _
          refine NoPanic.normal ?_
          clear hS
          obtain ⟨m, hm⟩ : ∃ m, n + 1 = m := ⟨_, rfl⟩
          have hmi : m ≤ i + 1 := by omega
          rw [hm] at TZ
          clear hm ba bz
          go_upto_region 25 with fail
          obtain ⟨z, hz⟩ : ∃ z, szOf m U1 a.obj = z := ⟨_, rfl⟩
          have hz2 : szOf m U2 a.obj = z := by rw [← szOf_eq TZ.out.same]; exact hz
          have hml : m ≤ 1000000 := by omega
          have en := (TZ.out.b.row hml).1
          have LEN := hid (show ∀ q, Calls Try.prog 14 #[.pointer (some ⟨M, 0, none⟩)] (wz.drewN q) fun e w' => e = .returned (.int .i64 u2.n) ∧ w' = wz.drewN q from fun q => by rw [en]; exact len_mem (TZ.out.on (bdn _ _)).a hml)
          have SZ1 := hid (show ∀ q, Calls Try.prog 15 #[.pointer (some ⟨M, 0, none⟩), .int .i64 a.obj] (wz.drewN q) fun e w' => e = .returned (.int .i64 z) ∧ w' = wz.drewN q from fun q => by rw [← hz]; exact size_mem (TZ.out.on (bdn _ _)).a hml a.obj)
          have SZ2 := hid (show ∀ q, Calls Try.prog 16 #[.pointer (some ⟨N, 0, none⟩), .int .i64 a.obj] (wz.drewN q) fun e w' => e = .returned (.int .i64 z) ∧ w' = wz.drewN q from fun q => by rw [← hz2]; exact size_ref (TZ.out.on (bdn _ _)).b hml a.obj)
          have hcN : wz.cell? ⟨N, 0, none⟩ = some (.slice u2.a u2.n u2.c) := TZ.out.b.c
          have d1 := BZ.out.2.1
          clear hz hz2 en hml
          go_quiet (first | (go_at_call 14; refine Calls.quiet_of_same (LEN.out _)) | (go_at_call 15; refine Calls.quiet_of_same (SZ1.out _)) | (go_at_call 16; refine Calls.quiet_of_same (SZ2.out _)))
          clear hcN d1
          obtain ⟨wy, hwy⟩ : ∃ wy, wz.drewN nq = wy := ⟨_, rfl⟩
          have TY := hid (show Two B M N w wy u1 u2 m U1 U2 g by rw [← hwy]; exact TZ.out.on (bdn _ _))
          rw [hwy]
          clear hwy
          go_wp2_with fail
          go_round
          case rel => exact ⟨i + 1, by omega, by go_num, m, u1, u2, U1, U2, g, by omega, TY.out⟩
          case measure => simp [intOf]; omega
        · have q0 : ((a.op : Int) == 0) = false := by simpa using h0
          obtain ⟨p, hp⟩ : ∃ p, cellV n S1 f a.obj a.off = p := ⟨_, rfl⟩
          obtain ⟨y, hy⟩ : ∃ y, hasC n S1 a.obj a.off = y := ⟨_, rfl⟩
          by_cases h1 : a.op = 1
          · have q1 : ((a.op : Int) == 1) = true := by simpa using h1
            have L1 := hid (show Calls Try.prog 10 #[.pointer (some ⟨M, 0, none⟩), .int .i64 a.obj, .int .i64 a.off] W fun e w' => e = .returned (.tuple #[.int .i64 p, .bool y]) ∧ w' = W by rw [← hp, ← hy]; exact load_mem TW.out.a (by omega) a.obj a.off)
            have L2 := hid (show Calls Try.prog 11 #[.pointer (some ⟨N, 0, none⟩), .int .i64 a.obj, .int .i64 a.off] W fun e w' => e = .returned (.tuple #[.int .i64 p, .bool y]) ∧ w' = W by rw [← hp, ← hy, cellV_eq TW.out.same, hasC_eq TW.out.same]; exact load_ref TW.out.b (by omega) a.obj a.off)
            clear h0 h1 hp hy
            go_upto_region 25 with (first
              | (go_at_call 10; refine L1.out.mono ?_; rintro e w8 ⟨rfl, hw8⟩; replace hw8 := hw8.symm; subst hw8)
              | (go_at_call 11; refine L2.out.mono ?_; rintro e w8 ⟨rfl, hw8⟩; replace hw8 := hw8.symm; subst hw8))
            clear d0 d1 d2 d3 d4 q0 q1 r1
            have hmi : n ≤ i + 1 := by omega
            have TZ := TW
            have BZ := BX
            obtain ⟨wz, hwz⟩ : ∃ wz, W = wz := ⟨_, rfl⟩
            rw [hwz] at TZ BZ ⊢
            clear hwz
            obtain ⟨z, hz⟩ : ∃ z, szOf n S1 a.obj = z := ⟨_, rfl⟩
            have hz2 : szOf n S2 a.obj = z := by rw [← szOf_eq TZ.out.same]; exact hz
            have hml : n ≤ 1000000 := by omega
            have en := (TZ.out.b.row hml).1
            have LEN := hid (show ∀ q, Calls Try.prog 14 #[.pointer (some ⟨M, 0, none⟩)] (wz.drewN q) fun e w' => e = .returned (.int .i64 v2.n) ∧ w' = wz.drewN q from fun q => by rw [en]; exact len_mem (TZ.out.on (bdn _ _)).a hml)
            have SZ1 := hid (show ∀ q, Calls Try.prog 15 #[.pointer (some ⟨M, 0, none⟩), .int .i64 a.obj] (wz.drewN q) fun e w' => e = .returned (.int .i64 z) ∧ w' = wz.drewN q from fun q => by rw [← hz]; exact size_mem (TZ.out.on (bdn _ _)).a hml a.obj)
            have SZ2 := hid (show ∀ q, Calls Try.prog 16 #[.pointer (some ⟨N, 0, none⟩), .int .i64 a.obj] (wz.drewN q) fun e w' => e = .returned (.int .i64 z) ∧ w' = wz.drewN q from fun q => by rw [← hz2]; exact size_ref (TZ.out.on (bdn _ _)).b hml a.obj)
            have hcN : wz.cell? ⟨N, 0, none⟩ = some (.slice v2.a v2.n v2.c) := TZ.out.b.c
            have d1 := BZ.out.2.1
            clear hz hz2 en hml
            go_quiet (first | (go_at_call 14; refine Calls.quiet_of_same (LEN.out _)) | (go_at_call 15; refine Calls.quiet_of_same (SZ1.out _)) | (go_at_call 16; refine Calls.quiet_of_same (SZ2.out _)))
            clear hcN d1
            obtain ⟨wy, hwy⟩ : ∃ wy, wz.drewN nq = wy := ⟨_, rfl⟩
            have TY := hid (show Two B M N w wy v1 v2 n S1 S2 f by rw [← hwy]; exact TZ.out.on (bdn _ _))
            rw [hwy]
            clear hwy
            go_wp2_with fail
            go_round
            case rel => exact ⟨i + 1, by omega, by go_num, n, v1, v2, S1, S2, f, by omega, TY.out⟩
            case measure => simp [intOf]; omega
          · have q1 : ((a.op : Int) == 1) = false := by simpa using h1
            clear h0 h1 hp
            go_upto_region 15 with fail
            clear d0 d1 d2 d3 d4 q0 q1 r1
            have HY := hid hy
            have TW := hid (TW.out.on (Below.drew (same W)))
            have BX := hid (show Bx X a W.drew from BX.out)
            clear hy
            refine wp_region_noPanic ?_
            refine wp_region_held_drew (S := fun wx => Bx X a wx) (by kernel_rfl) BX.out (fun hS => ?_)
            refine takeAt (i := 0) (d := some 45) (v := ?vs0) rfl (by rfl) (by kernel_rfl) (by kernel_rfl) (by kernel_rfl) (fun _ _ _ h => h) (Or.inl ⟨by rfl, ?ys0⟩) hS ?_
            case ys0 => intro wx hSw; (go_simp) <;> with_reducible rfl
            simp only [Act.put, List.setIfInBounds_toArray, List.set_cons_zero, List.set_cons_succ]
            refine takeAt (i := 1) (d := some 46) (v := ?vs1) rfl (by rfl) (by kernel_rfl) (by kernel_rfl) (by kernel_rfl) (fun _ _ _ h => h) (Or.inl ⟨by rfl, ?ys1⟩) hS ?_
            case ys1 => intro wx hSw; (go_simp) <;> with_reducible rfl
            simp only [Act.put, List.setIfInBounds_toArray, List.set_cons_zero, List.set_cons_succ]
            refine takeAt (i := 2) (d := some 47) (v := ?vs2) rfl (by rfl) (by kernel_rfl) (by kernel_rfl) (by kernel_rfl) (fun _ _ _ h => h) (Or.inl ⟨by rfl, ?ys2⟩) hS ?_
            case ys2 => intro wx hSw; obtain ⟨p0, p1, p2, p3, p4⟩ := hSw; (go_simp) <;> with_reducible rfl
            simp only [Act.put, List.setIfInBounds_toArray, List.set_cons_zero, List.set_cons_succ]
            refine takeAt (i := 3) (d := some 48) (v := ?vs3) rfl (by rfl) (by kernel_rfl) (by kernel_rfl) (by kernel_rfl) (fun _ _ _ h => h) (Or.inl ⟨by rfl, ?ys3⟩) hS ?_
            case ys3 => intro wx hSw; (go_simp) <;> with_reducible rfl
            simp only [Act.put, List.setIfInBounds_toArray, List.set_cons_zero, List.set_cons_succ]
            refine takeAt (i := 4) (d := some 49) (v := ?vs4) rfl (by rfl) (by kernel_rfl) (by kernel_rfl) (by kernel_rfl) (fun _ _ _ h => h) (Or.inl ⟨by rfl, ?ys4⟩) hS ?_
            case ys4 => intro wx hSw; obtain ⟨p0, p1, p2, p3, p4⟩ := hSw; (go_simp) <;> with_reducible rfl
            simp only [Act.put, List.setIfInBounds_toArray, List.set_cons_zero, List.set_cons_succ]
            refine takeAt (i := 5) (d := some 50) (v := ?vs5) rfl (by rfl) (by kernel_rfl) (by kernel_rfl) (by kernel_rfl) (fun _ _ _ h => h) (Or.inl ⟨by rfl, ?ys5⟩) hS ?_
            case ys5 => intro wx hSw; (go_simp) <;> with_reducible rfl
            simp only [Act.put, List.setIfInBounds_toArray, List.set_cons_zero, List.set_cons_succ]
            refine takeAt (i := 6) (d := some 51) (v := ?vs6) rfl (by rfl) (by kernel_rfl) (by kernel_rfl) (by kernel_rfl) (fun _ _ _ h => h) (Or.inl ⟨by rfl, ?ys6⟩) hS ?_
            case ys6 => intro wx hSw; obtain ⟨p0, p1, p2, p3, p4⟩ := hSw; (go_simp) <;> with_reducible rfl
            simp only [Act.put, List.setIfInBounds_toArray, List.set_cons_zero, List.set_cons_succ]
            refine takeAt (i := 8) (d := some 53) (v := ?vs8) rfl (by rfl) (by kernel_rfl) (by kernel_rfl) (by kernel_rfl) (fun _ _ _ h => h) (Or.inl ⟨by rfl, ?ys8⟩) hS ?_
            case ys8 => intro wx hSw; (go_simp) <;> with_reducible rfl
            simp only [Act.put, List.setIfInBounds_toArray, List.set_cons_zero, List.set_cons_succ]
            refine takeAt (i := 9) (d := some 54) (v := ?vs9) rfl (by rfl) (by kernel_rfl) (by kernel_rfl) (by kernel_rfl) (fun _ _ _ h => h) (Or.inl ⟨by rfl, ?ys9⟩) hS ?_
            case ys9 => intro wx hSw; (go_simp) <;> with_reducible rfl
            simp only [Act.put, List.setIfInBounds_toArray, List.set_cons_zero, List.set_cons_succ]
            refine takeAt (i := 10) (d := some 55) (v := ?vs10) rfl (by rfl) (by kernel_rfl) (by kernel_rfl) (by kernel_rfl) (fun _ _ _ h => h) (Or.inl ⟨by rfl, ?ys10⟩) hS ?_
            case ys10 => intro wx hSw; obtain ⟨p0, p1, p2, p3, p4⟩ := hSw; (go_simp) <;> with_reducible rfl
            simp only [Act.put, List.setIfInBounds_toArray, List.set_cons_zero, List.set_cons_succ]
            refine takeAt (i := 11) (d := some 56) (v := ?vs11) rfl (by rfl) (by kernel_rfl) (by kernel_rfl) (by kernel_rfl) (fun _ _ _ h => h) (Or.inl ⟨by rfl, ?ys11⟩) hS ?_
            case ys11 => intro wx hSw; (go_simp) <;> with_reducible rfl
            simp only [Act.put, List.setIfInBounds_toArray, List.set_cons_zero, List.set_cons_succ]
            refine takeAt (i := 12) (d := some 57) (v := ?vs12) rfl (by rfl) (by kernel_rfl) (by kernel_rfl) (by kernel_rfl) (fun _ _ _ h => h) (Or.inl ⟨by rfl, ?ys12⟩) hS ?_
            case ys12 => intro wx hSw; obtain ⟨p0, p1, p2, p3, p4⟩ := hSw; (go_simp) <;> with_reducible rfl
            simp only [Act.put, List.setIfInBounds_toArray, List.set_cons_zero, List.set_cons_succ]
            refine takeAt (i := 13) (d := some 58) (v := ?vs13) rfl (by rfl) (by kernel_rfl) (by kernel_rfl) (by kernel_rfl) (fun _ _ _ h => h) (Or.inl ⟨by rfl, ?ys13⟩) hS ?_
            case ys13 => intro wx hSw; (go_simp) <;> with_reducible rfl
            simp only [Act.put, List.setIfInBounds_toArray, List.set_cons_zero, List.set_cons_succ]
            refine takeAt (i := 14) (d := some 59) (v := ?vs14) rfl (by rfl) (by kernel_rfl) (by kernel_rfl) (by kernel_rfl) (fun _ _ _ h => h) (Or.inl ⟨by rfl, ?ys14⟩) hS ?_
            case ys14 => intro wx hSw; obtain ⟨p0, p1, p2, p3, p4⟩ := hSw; (go_simp) <;> with_reducible rfl
            simp only [Act.put, List.setIfInBounds_toArray, List.set_cons_zero, List.set_cons_succ]
            refine wpAnyH_ready (rs := [7]) (by kernel_rfl) (by simp) ?_
            refine AllReadyH.cons rfl (fun K hK => ?_) AllReadyH.nil
            go_simp
            refine (store_mem TW.out.a (by omega) a.obj a.off a.v).mono ?_
            rintro e wa hm
            have he := hm.1
            rw [HY.out] at he
            subst he
            obtain ⟨ob, lo, ca, go2⟩ := TW.out.store hm
            have ba : Bx X a wa := Bx.chg BX.out ca HN.out.1
            have GO := hid (And.intro ob (And.intro lo go2))
            clear hm ob lo ca go2
            go_wp2_with fail
            refine hK.out _ _ ba (fun _ => ?_)
            clear hK K
            replace hS := ba
            try simp only [Act.put, List.setIfInBounds_toArray, List.set_cons_zero, List.set_cons_succ]
            refine wpAnyH_ready (rs := [15]) (by kernel_rfl) (by simp) ?_
            refine AllReadyH.cons rfl (fun K hK => ?_) AllReadyH.nil
            go_simp
            refine (store_ref GO.out.1 (by omega) a.obj a.off a.v).mono ?_
            rintro e wz hm
            have he := hm.1
            rw [← hasC_eq TW.out.same, HY.out] at he
            subst he
            obtain ⟨⟨g, tz⟩, cz⟩ := GO.out.2.2 _ _ hm
            have bz : Bx X a wz := Bx.chg ba cz HN.out.2
            have TZ := hid tz
            have BZ := hid bz
            clear hm tz cz
            go_wp2_with fail
            refine hK.out _ _ bz (fun _ => ?_)
            clear hK K
            replace hS := bz
            try simp only [Act.put, List.setIfInBounds_toArray, List.set_cons_zero, List.set_cons_succ]
            refine takeAt (i := 16) (d := some 61) (v := ?vs16) rfl (by rfl) (by kernel_rfl) (by kernel_rfl) (by kernel_rfl) (fun _ _ _ h => h) (Or.inl ⟨by rfl, ?ys16⟩) hS ?_
            case ys16 => intro wx hSw; (go_simp) <;> with_reducible rfl
            simp only [Act.put, List.setIfInBounds_toArray, List.set_cons_zero, List.set_cons_succ]
            refine wpAnyH_done (by kernel_rfl) ?_ _
            refine NoPanic.normal ?_
            clear hS
            have hmi : n ≤ i + 1 := by omega
            clear ba bz
            go_upto_region 25 with fail
            obtain ⟨z, hz⟩ : ∃ z, szOf n S1 a.obj = z := ⟨_, rfl⟩
            have hz2 : szOf n S2 a.obj = z := by rw [← szOf_eq TZ.out.same]; exact hz
            have hml : n ≤ 1000000 := by omega
            have en := (TZ.out.b.row hml).1
            have LEN := hid (show ∀ q, Calls Try.prog 14 #[.pointer (some ⟨M, 0, none⟩)] (wz.drewN q) fun e w' => e = .returned (.int .i64 v2.n) ∧ w' = wz.drewN q from fun q => by rw [en]; exact len_mem (TZ.out.on (bdn _ _)).a hml)
            have SZ1 := hid (show ∀ q, Calls Try.prog 15 #[.pointer (some ⟨M, 0, none⟩), .int .i64 a.obj] (wz.drewN q) fun e w' => e = .returned (.int .i64 z) ∧ w' = wz.drewN q from fun q => by rw [← hz]; exact size_mem (TZ.out.on (bdn _ _)).a hml a.obj)
            have SZ2 := hid (show ∀ q, Calls Try.prog 16 #[.pointer (some ⟨N, 0, none⟩), .int .i64 a.obj] (wz.drewN q) fun e w' => e = .returned (.int .i64 z) ∧ w' = wz.drewN q from fun q => by rw [← hz2]; exact size_ref (TZ.out.on (bdn _ _)).b hml a.obj)
            have hcN : wz.cell? ⟨N, 0, none⟩ = some (.slice v2.a v2.n v2.c) := TZ.out.b.c
            have d1 := BZ.out.2.1
            clear hz hz2 en hml
            go_quiet (first | (go_at_call 14; refine Calls.quiet_of_same (LEN.out _)) | (go_at_call 15; refine Calls.quiet_of_same (SZ1.out _)) | (go_at_call 16; refine Calls.quiet_of_same (SZ2.out _)))
            clear hcN d1
            obtain ⟨wy, hwy⟩ : ∃ wy, wz.drewN nq = wy := ⟨_, rfl⟩
            have TY := hid (show Two B M N w wy v1 v2 n S1 S2 g by rw [← hwy]; exact TZ.out.on (bdn _ _))
            rw [hwy]
            clear hwy
            go_wp2_with fail
            go_round
            case rel => exact ⟨i + 1, by omega, by go_num, n, v1, v2, S1, S2, g, by omega, TY.out⟩
            case measure => simp [intOf]; omega
      · have r1 : decide ((30 : Int) < (a.s.n : Int)) = true := by simp; omega
        have lo := hid TW.out.low
        clear TW HN
        go_wp2_with (go_at_call 6; refine (first_any _).mono ?_; rintro e w1 ⟨rfl, hb⟩; have st3 := hid hb; clear hb)
        (try rw [Exit.noGoto_ret])
        go_ret
        exact ⟨rfl, more lo.out st3.out⟩
    · obtain rfl : i = l.n := by omega
      have r0 : decide ((l.n : Int) < (l.n : Int)) = false := by simp
      have hnl : n ≤ 60 := by omega
      have en := (T.b.row (show n ≤ 1000000 by omega)).1
      have hcN : wr.cell? ⟨N, 0, none⟩ = some (.slice v2.a v2.n v2.c) := T.b.c
      have LOA := hid (show ∀ k j : Int, ∃ p y, Calls Try.prog 10 #[.pointer (some ⟨M, 0, none⟩), .int .i64 k, .int .i64 j] wr (fun e w' => e = .returned (.tuple #[.int .i64 p, .bool y]) ∧ w' = wr) ∧ Calls Try.prog 11 #[.pointer (some ⟨N, 0, none⟩), .int .i64 k, .int .i64 j] wr (fun e w' => e = .returned (.tuple #[.int .i64 p, .bool y]) ∧ w' = wr) from fun k j =>
        ⟨cellV n S1 f k j, hasC n S1 k j, load_mem T.a (by omega) k j, by rw [cellV_eq T.same, hasC_eq T.same]; exact load_ref T.b (by omega) k j⟩)
      have HT := hid T
      have hv : v2.n ≤ 60 := by omega
      have EN := hid en
      clear T en
      obtain ⟨W, hW⟩ : ∃ W, wr = W := ⟨_, rfl⟩
      rw [hW] at hcN LOA HT ⊢
      clear hW
      go_wp2_with fail
      go_loopw [11] (fun iv wx => Rnp v2.n W iv wx) (fun iv _ => v2.n - (intOf iv).toNat)
      case atStart => exact rnp_mk (k := 0) (by omega) rfl
      case round =>
        obtain ⟨k, hk, rfl, hwr⟩ := hrel
        replace hwr := hwr.symm
        subst hwr
        by_cases hkl : k < v2.n
        · have r2 : decide ((k : Int) < (v2.n : Int)) = true := by simp; omega
          obtain ⟨b1, o1, hix, hck⟩ := row_at (HT.out.b.row (show n ≤ 1000000 by omega)).2 hkl
          have hsk : (S2 k).n ≤ 30 := by rw [← HT.out.same]; exact HT.out.few k
          obtain ⟨s, hs⟩ : ∃ s, S2 k = s := ⟨_, rfl⟩
          rw [hs] at hck hsk
          clear hs
          go_wp2_with fail
          go_loopw [12] (fun iv wx => Rnm (s.n + 2) W iv wx) (fun iv _ => s.n + 2 - (intOf iv + 1).toNat)
          case atStart => exact rnm_mk (k := 0) (by omega) rfl
          case round =>
            obtain ⟨j, hj, rfl, hwr⟩ := hrel
            replace hwr := hwr.symm
            subst hwr
            by_cases hjl : j < s.n + 2
            · have r3 : decide (((j : Int) - 1) ≤ (s.n : Int)) = true := by simp; omega
              obtain ⟨p, y, l1, l2⟩ := LOA.out k ((j : Int) - 1)
              have L1 := hid l1
              have L2 := hid l2
              have wj : wrap64 ((j : Int) - 1 + 1) = (j : Int) := by unfold wrap64; omega
              clear l1 l2
              go_wp2_with (first
                | (go_at_call 10; refine L1.out.mono ?_; rintro e w8 ⟨rfl, hw8⟩; replace hw8 := hw8.symm; subst hw8)
                | (go_at_call 11; refine L2.out.mono ?_; rintro e w8 ⟨rfl, hw8⟩; replace hw8 := hw8.symm; subst hw8))
              go_round
              case rel => first | exact rnm_mk (k := j + 1) (by omega) (by omega) | ((repeat apply Exists.intro); exact ⟨rnm_mk (k := j + 1) (by omega) (by omega), rfl⟩)
              case measure => simp [intOf]; omega
            · obtain rfl : j = s.n + 2 := by omega
              have r3 : decide ((((s.n + 2 : Nat) : Int) - 1) ≤ (s.n : Int)) = false := by simp; omega
              go_wp2_with fail
              go_round
              case rel => first | exact rnp_mk (k := k + 1) (by omega) (by go_num) | ((repeat apply Exists.intro); exact ⟨rnp_mk (k := k + 1) (by omega) (by go_num), rfl⟩)
              case measure => simp [intOf]; omega
        · obtain rfl : k = v2.n := by omega
          have r2 : decide ((v2.n : Int) < (v2.n : Int)) = false := by simp
          have lo := hid HT.out.low
          go_wp2_with fail
          (try rw [Exit.noGoto_ret])
          go_ret
          exact ⟨rfl, lo.out⟩

set_option maxRecDepth 10000 in
set_option maxHeartbeats 1000000 in
theorem plays_any (l : Sl) (A : Nat → AV) (F : Nat → Nat → Int) (w : World) (hl : Acts w l A F) :
    Calls Try.prog 3 #[.slice l.a l.n l.c] w fun e w' => e = .returned (.bool true) ∧ Below w.heap.size w w' := by
  by_cases h : l.n ≤ 60
  · exact plays_small l A F w hl h
  · have t1 : decide ((60 : Int) < (l.n : Int)) = true := by simp; omega
    clear hl h
    go_enter Try.func3, Try.ntmps3
    go_wp2_with (first
      | (go_at_call 6; refine (first_any _).mono ?_; rintro e w1 ⟨rfl, hb⟩; have st2 := st1; have st3 := hid hb; clear hb)
      | (go_at_call 6; refine (first_any _).mono ?_; rintro e w1 ⟨rfl, hb⟩; have st1 := hid hb; clear hb))
    go_ret
    exact ⟨rfl, more st1.out st3.out⟩

end Go.Proofs.Ytckkbamelkkblaa.Ob
