/-
  How often each value is used, by the program: ir.Uses.
-/
import Derived.Test.YthaedlnefikigaaUse
namespace Go.Proofs.Ythaedlnefikigaa.Use
open Go.RowKit View Rd Copy Srt Ty

set_option linter.unusedVariables false

theorem rowOcc_le {A : Nat → Nat → Int} {I : Nat → IV} (v : Nat) : ∀ k, (∀ t, t < k → (I t).args.n ≤ 20) → rowOcc A I v k ≤ k * 20 := fun k h =>
  cnt_le fun t ht => Nat.le_trans (occ_le _ _ _) (h t ht)

theorem rowOcc_next (A : Nat → Nat → Int) (I : Nat → IV) (v k : Nat) : rowOcc A I v (k + 1) = rowOcc A I v k + occ (A k) v (I k).args.n := rfl
theorem allOcc_next (F : FV) (v j : Nat) : allOcc F v (j + 1) = allOcc F v j + rowOcc (F.A j) (F.I j) v (F.B j).n := rfl

theorem allOcc_le {F : FV} (hl : Light F) (v : Nat) : ∀ j, j ≤ F.blk.n → allOcc F v j ≤ j * 1800 := fun j hj =>
  cnt_le fun i hi => by
    have h1 := rowOcc_le (A := F.A i) (I := F.I i) v (F.B i).n (fun t ht => hl.args i (by omega) t ht)
    have h2 := hl.ins i (by omega)
    omega

theorem turn_below {B g : Nat} {a b c : World} (h : Below B a b) (t : Turn (fun k => k = g) b c) (hg : B ≤ g) (hB : B ≤ b.heap.size) : Below B a c :=
  ⟨t.os.trans h.os, t.tape.trans h.tape, t.output.trans h.output, Nat.le_trans h.size t.size, fun k hk => (t.block k (by omega) (by omega)).trans (h.block k hk)⟩

theorem made_zero (n : Nat) : (madeCells (Value.int .i64 0).cells (n * 1)).toList = (List.replicate n (0 : Int)).map (Value.int .i64) := by
  have h : (Value.int .i64 0).cells = #[.int .i64 0] := rfl
  rw [h]
  simp only [madeCells, Nat.mul_one]
  apply List.ext_getElem
  · simp
  · intro i h1 h2
    simp [Nat.mod_one]

/-- What Uses gives. -/
def Usage (F : FV) (w : World) (e : Ending) (w' : World) : Prop :=
  ∃ s : Sl, e = .returned (.slice s.a s.n s.c) ∧ s.n = F.par.n + cnt (fun j => giv (F.I j) (F.B j).n) F.blk.n + 1 ∧ Ints w' s (fun v => (allOcc F v F.blk.n : Int)) ∧ Below w.heap.size w w'

/-- The row at g holds what was counted so far; nothing else has changed since w2. -/
def Sofar (F : FV) (g N : Nat) (u : Nat → Nat) (w2 wr : World) : Prop :=
  Ints wr ⟨some ⟨g, 0, none⟩, N, N⟩ (fun v => (u v : Int)) ∧ Turn (fun b => b = g) w2 wr

theorem args_far {F : FV} {w : World} (h : In w F) {j k : Nat} (hj : j < F.blk.n) (hk : k < (F.B j).n) : ∀ b o, (F.I j k).args.a = some ⟨b, o, none⟩ → 0 < (F.I j k).args.n → b < w.heap.size := fun b o ha h0 => by
  obtain ⟨b', o', ha', hc⟩ := (h.args j hj k hk).2.2.2 h0
  have e := ha.symm.trans ha'
  simp at e
  rw [e.1]; exact World.block_lt_of_cell? _ _ (hc 0 h0)

set_option maxRecDepth 10000 in
set_option maxHeartbeats 1000000 in
theorem uses_ir (F : FV) (w : World) (hF : In w F) (hl : Light F) :
    Calls Try.prog 22 #[F.val] w fun e w' => Usage F w e w' := by
  obtain ⟨i0, hi, hz0, hz1, hz2⟩ := info_parts info3
  have HF := hid hF
  have HL := hid hl
  have gb := hl.blk
  have hle : F.par.n + cnt (fun j => giv (F.I j) (F.B j).n) F.blk.n ≤ 10000 := by
    have := cnt_le (n := fun j => giv (F.I j) (F.B j).n) (m := 90) (j := F.blk.n) (fun i hi => Nat.le_trans (giv_le _ _) (hl.ins i (by omega)))
    have := hl.par; have := hl.blk; omega
  have HV := hid (values_ir F _ (hF.on (new (same w) (.cells (fcells F) 36))) hl)
  obtain ⟨V, hV⟩ : ∃ V, F.par.n + cnt (fun j => giv (F.I j) (F.B j).n) F.blk.n = V := ⟨_, rfl⟩
  have HVV := hid hV
  have hle2 : V ≤ 10000 := by omega
  clear hF hl hle hV
  go_enter Try.func22, Try.ntmps22
  go_wp2_with fail
  refine HV.out.mono ?_
  rintro e w1 ⟨rfl, hb1⟩
  have hVi : ((F.par.n : Int) + (cnt (fun j => giv (F.I j) (F.B j).n) F.blk.n : Nat)) = (V : Int) := by have := HVV.out; omega
  rw [hVi]
  clear hVi HV
  have hf1 : FuncAt w1 w.heap.size F := (FuncAt.alloc w F).on hb1
  have hb2 := more (new (same w) _) hb1
  have hwl : w.heap.size < w1.heap.size := World.block_lt_of_cell? _ _ hf1.c0
  have HFA := hid hf1
  have HB2 := hid hb2
  have HWL := hid hwl
  have HI := hid (And.intro hi (And.intro hz0 (And.intro hz1 hz2)))
  clear hb1 hf1 hb2 hwl hi hz0 hz1 hz2
  go_wp2_with (at_make; refine wpList_make_full _ rfl (.tmp 10) (.tmp 10) 33 rfl w1.heap.size 3 i0 (.int .i64 0) 1 underlying33 HI.out.1 HI.out.2.1 HI.out.2.2.1 .i64 .i64 _ _ (V + 1) rfl rfl (by omega) (by omega) (by rw [HI.out.2.2.2]; omega) (by simp only [maxLen]; omega) (Nat.le_refl _) ?_; intro w2 hown2 hgr2; have f2 : FuncAt w2 w.heap.size F := FuncAt.grown HFA.out hgr2 (fun k hk => by cases hk); obtain ⟨c0, c1, c2, c3, c4⟩ := f2)
  have b3 : Below w.heap.size w w2 := HB2.out.grown hgr2 (Nat.le_of_lt HWL.out) (fun k hk => by cases hk)
  have g2 : w1.heap.size < w2.heap.size := (hown2.lt w1.heap.size rfl).2
  rw [made_zero] at hown2
  obtain ⟨s, hs, hsn, his, hm⟩ := ints_of_owns hown2 (by omega)
  have hsa : s = ⟨some ⟨w1.heap.size, 0, none⟩, V + 1, V + 1⟩ := by
    obtain ⟨a, n, c⟩ := s
    simp only at hs
    cases hs
    rfl
  subst hsa
  have fz : ∀ i, w2.frozen? ⟨w1.heap.size, i, none⟩ = false := by
    obtain ⟨g, h1, h2, h3, h4⟩ := hm (by simp)
    simp at h1
    subst h1
    exact h4
  have so0 : Sofar F w1.heap.size (V + 1) (fun v => allOcc F v 0) w2 w2 := ⟨his.congr (fun i hi => by simp [allOcc, cnt, List.getD, List.getElem?_replicate]; split <;> rfl), Turn.refl _ _⟩
  obtain ⟨g, hg⟩ : ∃ g, w1.heap.size = g := ⟨_, rfl⟩
  have hwl := HWL.out
  rw [hg] at so0 fz g2 hwl
  rw [hg]
  have SO0 := hid so0
  have FZ := hid fz
  have B3 := hid b3
  have G2 := hid (And.intro hwl g2)
  clear so0 his hs hsn hm fz b3 hown2 hgr2 g2 HB2 HFA HWL hwl hg
  go_wp2_with fail
  go_loopw [15] (fun i wr => ∃ j : Nat, j ≤ F.blk.n ∧ i = .int .i64 j ∧ Sofar F g (V + 1) (fun v => allOcc F v j) w2 wr) (fun i _ => F.blk.n - (intOf i).toNat)
  case atStart => exact ⟨0, Nat.zero_le _, rfl, SO0.out⟩
  case round =>
    clear SO0 c0 c1 c2 c3 c4
    obtain ⟨j, hj, rfl, so⟩ := hrel
    have hb : Below w.heap.size w wr := turn_below B3.out so.2 (Nat.le_of_lt G2.out.1) B3.out.size
    have SO := hid so
    clear so
    by_cases hlt : j < F.blk.n
    · obtain ⟨bb, oo, hix, hck⟩ := (HF.out.blk.on hb).at hlt
      have g5 := HL.out.ins j hlt
      clear hb
      go_wp2_with fail
      go_loopw [22] (fun i wx => ∃ t : Nat, t ≤ (F.B j).n ∧ i = .int .i64 t ∧ Sofar F g (V + 1) (fun v => allOcc F v j + rowOcc (F.A j) (F.I j) v t) w2 wx) (fun i _ => (F.B j).n - (intOf i).toNat)
      case atStart => exact ⟨0, Nat.zero_le _, rfl, (SO.out.1.on (new (same _) _)).congr (fun v _ => by simp [rowOcc, cnt]), SO.out.2.alloc _⟩
      case round =>
        clear SO hck
        obtain ⟨t, ht, rfl, so⟩ := hrel
        have hb : Below w.heap.size w wr := turn_below B3.out so.2 (Nat.le_of_lt G2.out.1) B3.out.size
        have SO := hid so
        clear so
        by_cases htl : t < (F.B j).n
        · obtain ⟨ib, io, hiy, d0, d1, d2, d3, d4, d5, d6⟩ := ((HF.out.ins j hlt).on hb).at htl
          have HB := hid hb
          clear hb
          go_wp2_with fail
          refine (countArgs_any ⟨some ⟨g, 0, none⟩, V + 1, V + 1⟩ (F.I j t).args (fun v => allOcc F v j + rowOcc (F.A j) (F.I j) v t) (F.A j t) g _ (SO.out.1.on (new (same _) _)) ((HF.out.args j hlt t htl).on (new HB.out _)) rfl ?s1 ?s2 ?s3 ?s4 ?s5 ?s6).mono ?_
          case s1 => have := (SO.out.2.alloc (.cells (F.I j t).cells 48)).size; have := G2.out.2; exact Nat.lt_of_lt_of_le ‹g < _› ‹_ ≤ _›
          case s2 => exact fun i => ((SO.out.2.alloc _).froz ⟨g, i, none⟩ G2.out.2).trans (FZ.out i)
          case s3 => exact fun b o ha h0 => by have := args_far HF.out hlt htl b o ha h0; have := G2.out.1; omega
          case s4 =>
            intro v
            have h1 := allOcc_le HL.out v j hj
            have h2 := rowOcc_le (A := F.A j) (I := F.I j) v t (fun k hk => HL.out.args j hlt k (by omega))
            omega
          case s5 => have := HL.out.args j hlt t htl; omega
          case s6 => show V + 1 ≤ 1000000; omega
          rintro e w3 ⟨rfl, is3, tu3⟩
          have so3 : Sofar F g (V + 1) (fun v => allOcc F v j + rowOcc (F.A j) (F.I j) v (t + 1)) w2 w3 := ⟨is3.congr (fun v _ => by show ((_ : Nat) : Int) = ((allOcc F v j + rowOcc (F.A j) (F.I j) v (t + 1) : Nat) : Int); rw [rowOcc_next, Nat.add_assoc]), (SO.out.2.alloc _).trans tu3⟩
          have SO3 := hid so3
          clear so3 is3 tu3 d0 d1 d2 d3 d4 d5 d6
          go_wp2_with fail
          go_round
          case rel => exact ⟨t + 1, by omega, by go_num, SO3.out⟩
          case measure => simp [intOf]; omega
        · obtain rfl : t = (F.B j).n := by omega
          go_wp2_with fail
          go_round
          case rel => exact ⟨j + 1, by omega, by go_num, SO.out⟩
          case measure => simp [intOf]; omega
    · obtain rfl : j = F.blk.n := by omega
      go_wp2_with fail
      go_ret
      exact ⟨⟨some ⟨g, 0, none⟩, V + 1, V + 1⟩, rfl, by rw [HVV.out], SO.out.1, hb⟩

end Go.Proofs.Ythaedlnefikigaa.Use
