/-
  The chapter's example: plnlaw3.first answers true.
-/
import Derived.Test.YtahjippocejphaaNeat
import Derived.Test.YtahjippocejphaaTy
namespace Go.Proofs.Ytahjippocejphaa.First
open Go.RowKit View Rd Copy Srt Num Own

set_option linter.unusedVariables false

abbrev i0 (N : Nat) : IV := ⟨4, 1, 9, 0, 0, ⟨some ⟨N + 1, 0, none⟩, 2, 2⟩, ⟨none, 0, 0⟩⟩
abbrev i1 (N : Nat) : IV := ⟨29, 0, 0, 0, 0, ⟨some ⟨N + 1 + 1, 0, none⟩, 1, 1⟩, ⟨none, 0, 0⟩⟩

abbrev ex (N : Nat) : FV where
  name := ⟨#[]⟩
  out := false
  par := ⟨some ⟨N, 0, none⟩, 2, 2⟩
  res := 0
  blk := ⟨some ⟨N + 1 + 1 + 1 + 1, 0, none⟩, 1, 1⟩
  P := fun _ => 1
  B := fun _ => ⟨some ⟨N + 1 + 1 + 1, 0, none⟩, 2, 2⟩
  I := fun _ k => if k = 0 then i0 N else i1 N
  A := fun _ k i => if k = 0 then (i : Int) + 1 else 9
  J := fun _ _ _ => 0

theorem lightex (N : Nat) : Light (ex N) := by
  refine ⟨show 0 + 2 ≤ 90 by decide, show (0 : Nat) ≤ 40 by decide, show 2 ≤ 8 by decide, show 1 ≤ 16 by decide, fun j hj => show 2 ≤ 90 by decide, fun j hj k hk => ?_, fun j hj k hk => ?_⟩
  · show (if k = 0 then i0 N else i1 N).args.n ≤ 20
    split
    · show 2 ≤ 20; decide
    · show 1 ≤ 20; decide
  · show (if k = 0 then i0 N else i1 N).into.n ≤ 20
    split
    · show 0 ≤ 20; decide
    · show 0 ≤ 20; decide

theorem rngex (N : Nat) : Rng (ex N) := by
  refine ⟨fun j hj k hk => ?_, fun j hj k hk i hi => ?_⟩
  · show W64 (if k = 0 then i0 N else i1 N).to
    split
    · show W64 9; constructor <;> decide
    · show W64 0; constructor <;> decide
  · have hk' : k < 2 := hk
    have hi' : i < (if k = 0 then i0 N else i1 N).args.n := hi
    show W64 (if k = 0 then (i : Int) + 1 else 9)
    split
    · next h => rw [if_pos h] at hi'; have : i < 2 := hi'; constructor <;> omega
    · constructor <;> decide

theorem lit1 (w : World) (x : Int) (N : Nat) (hN : w.heap.size = N) : Ints (w.alloc (.cells #[.int .i64 x] 3)) ⟨some ⟨N, 0, none⟩, 1, 1⟩ (fun _ => x) := by
  subst hN
  refine ⟨Nat.le_refl _, by show 1 ≤ _; omega, fun h => by simp at h, fun _ => ⟨w.heap.size, 0, rfl, fun i hi => ?_⟩⟩
  obtain rfl : i = 0 := by simp at hi; omega
  simp

theorem lit2 (w : World) (f : Nat → Int) (N : Nat) (hN : w.heap.size = N) : Ints (w.alloc (.cells #[.int .i64 (f 0), .int .i64 (f 1)] 3)) ⟨some ⟨N, 0, none⟩, 2, 2⟩ f := by
  subst hN
  refine ⟨Nat.le_refl _, by show 2 ≤ _; omega, fun h => by simp at h, fun _ => ⟨w.heap.size, 0, rfl, fun i hi => ?_⟩⟩
  have : i = 0 ∨ i = 1 := by simp at hi; omega
  rcases this with rfl | rfl <;> simp

theorem litN (w : World) (f : Nat → Int) : Ints w ⟨none, 0, 0⟩ f := ⟨Nat.le_refl _, Nat.zero_le _, fun _ => rfl, fun h => absurd h (by simp)⟩

theorem litI (w : World) (u v : IV) (N : Nat) (hN : w.heap.size = N) : Inss (w.alloc (.cells #[.int .i64 u.op, .int .i64 u.ty, .int .i64 u.to, .int .i64 u.sym, .int .i64 u.num, .slice u.args.a u.args.n u.args.c, .slice u.into.a u.into.n u.into.c, .int .i64 v.op, .int .i64 v.ty, .int .i64 v.to, .int .i64 v.sym, .int .i64 v.num, .slice v.args.a v.args.n v.args.c, .slice v.into.a v.into.n v.into.c] 42)) ⟨some ⟨N, 0, none⟩, 2, 2⟩ (fun k => if k = 0 then u else v) := by
  subst hN
  refine ⟨Nat.le_refl _, by show 2 ≤ _; omega, fun h => by simp at h, fun _ => ⟨w.heap.size, 0, rfl, fun i hi => ?_⟩⟩
  have : i = 0 ∨ i = 1 := by simp at hi; omega
  rcases this with rfl | rfl
  · exact ⟨by simp, by simp, by simp, by simp, by simp, by simp, by simp⟩
  · exact ⟨by simp, by simp, by simp, by simp, by simp, by simp, by simp⟩

theorem litB (w : World) (s : Sl) (N : Nat) (hN : w.heap.size = N) : Sls (w.alloc (.cells #[.slice s.a s.n s.c] 39)) ⟨some ⟨N, 0, none⟩, 1, 1⟩ (fun _ => s) := by
  subst hN
  refine ⟨Nat.le_refl _, by show 1 ≤ _; omega, fun h => by simp at h, fun _ => ⟨w.heap.size, 0, rfl, fun i hi => ?_⟩⟩
  obtain rfl : i = 0 := by simp at hi; omega
  simp

theorem inex (w : World) : In (((((w.alloc (.cells #[.int .i64 1, .int .i64 1] 3)).alloc (.cells #[.int .i64 1, .int .i64 2] 3)).alloc (.cells #[.int .i64 9] 3)).alloc (.cells #[.int .i64 4, .int .i64 1, .int .i64 9, .int .i64 0, .int .i64 0, .slice (some ⟨w.heap.size + 1, 0, none⟩) 2 2, .slice none 0 0, .int .i64 29, .int .i64 0, .int .i64 0, .int .i64 0, .int .i64 0, .slice (some ⟨w.heap.size + 1 + 1, 0, none⟩) 1 1, .slice none 0 0] 42)).alloc (.cells #[.slice (some ⟨w.heap.size + 1 + 1 + 1, 0, none⟩) 2 2] 39)) (ex w.heap.size) := by
  refine ⟨(lit2 w (fun _ => 1) _ rfl).on (new (new (new (new (same _) _) _) _) _), litB _ ⟨some ⟨w.heap.size + 1 + 1 + 1, 0, none⟩, 2, 2⟩ _ (by simp), fun j hj => (litI _ (i0 w.heap.size) (i1 w.heap.size) _ (by simp)).on (new (same _) _), fun j hj k hk => ?_, fun j hj k hk => ?_⟩
  · show Ints _ (if k = 0 then i0 w.heap.size else i1 w.heap.size).args _
    by_cases e : k = 0
    · subst e
      exact (lit2 _ (fun i => (i : Int) + 1) _ (by simp)).on (new (new (new (same _) _) _) _)
    · rw [if_neg e]
      exact ((lit1 _ 9 _ (by simp)).on (new (new (same _) _) _)).congr (fun i _ => by simp [e])
  · show Ints _ (if k = 0 then i0 w.heap.size else i1 w.heap.size).into _
    split
    · exact litN _ _
    · exact litN _ _

theorem nm9 (N : Nat) : nm (ex N) 9 = 3 := by
  simp [nm, allMap, rowMap, m0, giv, lastOf, cnt, i0, i1]

set_option maxHeartbeats 1000000 in
theorem first_any (w : World) : Calls Try.prog 11 #[] w fun e w' => e = .returned (.bool true) ∧ Below w.heap.size w w' := by
  have HI := hid (inex w)
  go_enter Try.func11, Try.ntmps11
  go_wp2_with fail
  refine (neat_any (ex w.heap.size) _ (HI.out.on (new (same _) _)) (lightex _) (rngex _)).mono ?_
  rintro e w1 ⟨G, at_, rfl, own, ne, hb1⟩
  have hbase := new (new (new (new (new (new (same w) (.cells #[.int .i64 1, .int .i64 1] 3)) (.cells #[.int .i64 1, .int .i64 2] 3)) (.cells #[.int .i64 9] 3)) (.cells #[.int .i64 4, .int .i64 1, .int .i64 9, .int .i64 0, .int .i64 0, .slice (some ⟨w.heap.size + 1, 0, none⟩) 2 2, .slice none 0 0, .int .i64 29, .int .i64 0, .int .i64 0, .int .i64 0, .int .i64 0, .slice (some ⟨w.heap.size + 1 + 1, 0, none⟩) 1 1, .slice none 0 0] 42)) (.cells #[.slice (some ⟨w.heap.size + 1 + 1 + 1, 0, none⟩) 2 2] 39)) (.cells (fcells (ex w.heap.size)) 33)
  have b1 := more hbase hb1
  have e1 : In w1 (ex w.heap.size) := In.on hb1 (HI.out.on (new (same _) _))
  have q1 := FuncAt.on hb1 (FuncAt.alloc _ (ex w.heap.size))
  simp only [World.size_alloc] at q1
  have E1 := hid e1
  have B1 := hid b1
  have OW := hid own
  have NE := hid ne
  have Q1 := hid q1
  obtain ⟨c0, c1, c2, c3, c4⟩ := q1
  have hlt5 : w.heap.size + 1 + 1 + 1 + 1 + 1 < w1.heap.size := World.block_lt_of_cell? _ _ c0
  clear e1 b1 own ne hb1 hbase HI
  go_wp2_with fail
  refine (values_ir (ex w.heap.size) _ (E1.out.on (new (same _) _)) (lightex _)).mono ?_
  rintro e w2 ⟨rfl, hb2⟩
  have q2 := FuncAt.on hb2 (Q1.out.on (new (same _) _))
  have Q2 := hid q2
  have g2 := FuncAt.on hb2 (FuncAt.alloc w1 G)
  have G2 := hid g2
  have B2 := hid (more (new B1.out _) hb2)
  have O2 := hid (Own.on hb2 (OW.out.on (new (same _) _)))
  have E2 := hid (In.on hb2 (E1.out.on (new (same _) _)))
  clear c0 c1 c2 c3 c4 hb2 OW E1 B1 Q1 g2
  obtain ⟨c0, c1, c2, c3, c4⟩ := q2
  have v3 : (((ex w.heap.size).par.n : Int) + cnt (fun j => giv ((ex w.heap.size).I j) ((ex w.heap.size).B j).n) (ex w.heap.size).blk.n) = 3 := rfl
  rw [v3]
  clear v3
  go_wp2_with fail
  refine (size_ir (ex w.heap.size) _ E2.out (lightex _)).mono ?_
  rintro e w3 ⟨rfl, hb3⟩
  have g3 := FuncAt.on hb3 G2.out
  have B3 := hid (more B2.out hb3)
  have O3 := hid (Own.on hb3 O2.out)
  clear c0 c1 c2 c3 c4 hb3 O2 E2 B2 G2 Q2
  have v3 : ((cnt (fun j => ((ex w.heap.size).B j).n) (ex w.heap.size).blk.n : Nat) : Int) = 2 := rfl
  rw [v3]
  clear v3
  obtain ⟨c0, c1, c2, c3, c4⟩ := g3
  have l0 : 0 < (ex w.heap.size).blk.n := show 0 < 1 by decide
  have l1 : 0 < ((ex w.heap.size).B 0).n := show 0 < 2 by decide
  have l2 : 1 < ((ex w.heap.size).B 0).n := show 1 < 2 by decide
  have n1 : G.blk.n = 1 := NE.out.blk
  have n2 : (G.B 0).n = 2 := NE.out.B 0 l0
  have n3 : (G.I 0 0).to = 3 := NE.out.to 0 l0 0 l1
  have n4 : (G.I 0 1).args.n = 1 := NE.out.an 0 l0 1 l2
  have n5 : G.A 0 1 0 = 3 := by
    obtain ⟨a', hp, ha⟩ := NE.out.rows 0 l0 1 l2
    rw [ha 0 (show 0 < 1 by decide)]
    have : a' = (ex w.heap.size).A 0 1 := by
      unfold Put at hp
      rw [if_neg (fun h => absurd (show (29 : Int) = 26 from h.1) (by decide))] at hp
      exact hp.1
    rw [this]
    exact nm9 _
  clear l0 l1 l2
  obtain ⟨b1, o1, hix, hc⟩ := O3.out.inn.blk.at (k := 0) (by omega)
  obtain ⟨b2, o2, hiy, i0', i1', i2', i3', i4', i5', i6'⟩ := (O3.out.inn.ins 0 (by omega)).at (k := 0) (by omega)
  obtain ⟨b3, o3, hiz, j0', j1', j2', j3', j4', j5', j6'⟩ := (O3.out.inn.ins 0 (by omega)).at (k := 1) (by omega)
  obtain ⟨b4, o4, hiu, hd⟩ := (O3.out.inn.args 0 (by omega) 1 (by omega)).at (k := 0) (by omega)
  simp only [n1, n2, n3, n4, n5, Int.natCast_zero, Int.natCast_one] at hix hiy hiz hiu hc i2' j5' hd
  go_wp2_with fail
  go_ret
  exact ⟨rfl, B3.out⟩

end Go.Proofs.Ytahjippocejphaa.First
