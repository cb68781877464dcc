/-
  flow.Loops, plnref3.In.
-/
import Derived.Test.YtipligpabhjniaaFloF
namespace Go.Proofs.Ytipligpabhjniaa.Flo
open Go.RowKit View Rd Copy Num Ty Srt

set_option linter.unusedVariables false

set_option maxHeartbeats 400000 in
theorem in_any (s : Sl) (f : Nat → Int) (x : Int) (w : World) (hs : Ints w s f) (hn : s.n ≤ 1000) :
    Calls Try.prog 29 #[.slice s.a s.n s.c, .int .i64 x] w fun e w' => ∃ b : Bool, e = .returned (.bool b) ∧ (b = true ↔ ∃ i, i < s.n ∧ f i = x) ∧ Below w.heap.size w w' := by
  have HS := hid hs
  clear hs
  go_enter Try.func29, Try.ntmps29
  go_wp2_with fail
  go_loopw [5] (fun i wr => ∃ k : Nat, k ≤ s.n ∧ i = .int .i64 k ∧ (∀ i, i < k → f i ≠ x) ∧ Below w.heap.size w wr) (fun i _ => s.n - (intOf i).toNat)
  case atStart => exact ⟨0, Nat.zero_le _, rfl, fun i hi => by omega, same w⟩
  case round =>
    obtain ⟨k, hk, rfl, hno, hb⟩ := hrel
    have HN := hid hno
    clear hno
    by_cases hlt : k < s.n
    · obtain ⟨ib, io, hiy, hcell⟩ := (HS.out.on hb).at hlt
      by_cases he : f k = x
      · have t1 : (f k == x) = true := by simp [he]
        have HE := hid he
        clear he
        go_wp2_with fail
        go_ret
        exact ⟨true, rfl, by simp; exact ⟨k, hlt, HE.out⟩, hb⟩
      · have t1 : (f k == x) = false := by simp [he]
        have HE := hid he
        clear he
        go_wp2_with fail
        go_round
        case rel => exact ⟨k + 1, by omega, by go_num, fun i hi => by
          by_cases e : i = k
          · rw [e]; exact HE.out
          · exact HN.out i (by omega), hb⟩
        case measure => simp [intOf]; omega
    · obtain rfl : k = s.n := by omega
      go_wp2_with fail
      go_ret
      exact ⟨false, rfl, by simp; exact HN.out, hb⟩

/-- Where those stand of whom k have been gone through. -/
def plc (L : List Nat) (k i : Nat) : Int := if i ∈ L.take k then (pos L i : Int) else 0

set_option maxRecDepth 10000 in
set_option maxHeartbeats 2000000 in
theorem loops_flow (F : FV) (L : List Nat) (w : World) (hL : OrdIs F L) (hF : In w F) (hl : Light F) (hj : Jng F) :
    Calls Try.prog 20 #[F.val] w fun e w' => ∃ b : Bool, e = .returned (.bool b) ∧ (b = true ↔ stepBack F L) ∧ Below w.heap.size w w' := by
  have HF := hid hF
  have HL := hid hl
  have HJ := hid hj
  have OI := hid hL
  have OD := hid hL.ord
  have gb := hl.blk
  have hmk := run_make_row' (P := Try.prog) 22 3 (.int .i64 0) 8 underlying22 info3 rfl .i64 .i64 F.blk.n (by omega) (by omega)
  clear hF hl hj hL
  go_enter Try.func20, Try.ntmps20
  go_wp2_with fail
  refine (order_flow F L _ OI.out (HF.out.on (new (same w) _)) HL.out HJ.out).mono ?_
  rintro e w1 ⟨s, rfl, hsn, hsi, hsm, hb1⟩
  have hb2 := View.more (new (same w) _) hb1
  have f1 : FuncAt w1 w.heap.size F := (FuncAt.alloc w F).on hb1
  have hz := hb1.size
  simp only [World.size_alloc] at hz hsm
  have hs16 : s.n ≤ 16 := by have := OD.out.len; omega
  obtain ⟨M, hM⟩ : ∃ M, w1.heap.size = M := ⟨_, rfl⟩
  have hr1 : (w1.alloc (.cells (madeCells #[.int .i64 0] F.blk.n) 3)).rowIs M 3 F.blk.n (fun i => .int .i64 (plc L 0 i)) := by
    rw [← hM]
    exact (World.rowIs_made w1 (.int .i64 0) F.blk.n 3).congr (fun i hi => by simp [plc])
  have R1 := hid hr1
  have B2 := hid hb2
  have F1 := hid f1
  have SI := hid hsi
  have SM := hid hsm
  have SN := hid hsn
  obtain ⟨c0, c1, c2, c3, c4⟩ := f1
  have hwl : w.heap.size < w1.heap.size := by omega
  clear hr1 hb2 hsi hsm hb1 hsn
  go_wp2_with fail
  rw [hM] at *
  clear hmk c0 c1 c2 c3 c4
  go_loopw [19] (fun i wr => ∃ k : Nat, k ≤ s.n ∧ i = .int .i64 k ∧ wr.rowIs M 3 F.blk.n (fun i => .int .i64 (plc L k i)) ∧ Ints wr s (fun i => ((L.getD i 0 : Nat) : Int)) ∧ FuncAt wr w.heap.size F ∧ Below w.heap.size w wr) (fun i _ => s.n - (intOf i).toNat)
  case atStart => exact ⟨0, Nat.zero_le _, rfl, R1.out, SI.out.on (new (same _) _), F1.out.on (new (same _) _), new B2.out _⟩
  case round =>
    clear R1 B2 SI F1
    obtain ⟨k, hk, rfl, hr, hi, hf, hb⟩ := hrel
    have HR := hid hr
    have HI := hid hi
    have HFA := hid hf
    clear hr hi hf
    by_cases hlt : k < s.n
    · obtain ⟨ib, io, hiy, hcell⟩ := HI.out.at hlt
      have hkL : k < L.length := by have := SN.out; omega
      have hx : L.getD k 0 < F.blk.n := OD.out.lt _ (getD_mem hkL)
      have hstep := fun i => mem_take_succ (i := i) (getD_some hkL)
      have hpos := pos_at OD.out.nd (getD_some hkL)
      obtain ⟨X, hX⟩ : ∃ X, L.getD k 0 = X := ⟨_, rfl⟩
      simp only [hX] at hcell hx hstep hpos
      have hrow := index_row (s := ⟨some ⟨M, 0, none⟩, F.blk.n, F.blk.n⟩) rfl underlying22 size3 hx
      simp only [Nat.mul_one, Nat.zero_add] at hrow
      have hrc := HR.out.cell hx
      have hrf := HR.out.frozen X
      have STP := hid (And.intro hstep hpos)
      clear hX hstep hpos
      go_wp2_with fail
      go_round
      case rel =>
        refine ⟨k + 1, by omega, by go_num, (HR.out.set X (.int .i64 k)).congr (fun i hi => ?_), HI.out.kept ((Kept.refl (fun b => b < M) wr).setCell (by show ¬ (M < M); omega) _) (fun b off h h0 => (SM.out.ge b off h h0).2), HFA.out.kept ((Kept.refl (fun b => b < M) wr).setCell (by show ¬ (M < M); omega) _) (by show w.heap.size < M; omega), hb.setCell (by show w.heap.size ≤ M; omega) _⟩
        obtain ⟨hs1, hs2⟩ := STP.out
        unfold plc
        by_cases e : i = X
        · rw [if_pos e, if_pos ((hs1 i).2 (.inr e)), e, hs2]
        · rw [if_neg e]
          have : i ∈ L.take (k + 1) ↔ i ∈ L.take k := by rw [hs1 i]; exact ⟨fun h => h.resolve_right e, .inl⟩
          simp [this]
      case measure => simp [intOf]; omega
    · obtain rfl : k = s.n := by omega
      have hfin : ∀ x ∈ L, x < F.blk.n → wr.cell? ⟨M, x, none⟩ = some (.int .i64 (pos L x)) := fun x hx hn => by
        rw [HR.out.cell hn]
        unfold plc
        rw [SN.out, List.take_length, if_pos hx]
      have HP := hid hfin
      have hMl := HR.out.lt
      clear hfin HR
      go_wp2_with fail
      go_loopw [31] (fun i wx => ∃ k : Nat, k ≤ s.n ∧ i = .int .i64 k ∧ (∀ i x, i < k → L[i]? = some x → ∀ t ∈ su F x, ¬ pos L t ≤ i) ∧ Below wr.heap.size wr wx) (fun i _ => s.n - (intOf i).toNat)
      case atStart => exact ⟨0, Nat.zero_le _, rfl, fun i x hi => by omega, same wr⟩
      case round =>
        obtain ⟨k, hk2, rfl, hno, hbx⟩ := hrel
        have HN := hid hno
        clear hno
        have wsz := hbx.size
        by_cases hlt2 : k < s.n
        · obtain ⟨ib, io, hiy, hcell⟩ := (HI.out.on hbx).at hlt2
          obtain ⟨c0, c1, c2, c3, c4⟩ := HFA.out.on hbx
          have hkL : k < L.length := by have := SN.out; omega
          have hkk := getD_some hkL
          obtain ⟨X, hX⟩ : ∃ X, L.getD k 0 = X := ⟨_, rfl⟩
          simp only [hX] at hcell hkk
          have HKX := hid hkk
          clear hX hkk
          go_wp2_with fail
          refine (next_flow F X _ (HF.out.on (View.more hb hbx)) HL.out HJ.out).mono ?_
          rintro e w3 ⟨s3, rfl, hsn3, hsi3, hsm3, hb3⟩
          rw [suI_nat] at hsn3 hsi3
          have b3 := hbx.trans (hb3.mono hbx.size)
          have hle := su_le HL.out X
          have E3 := hid (And.intro hsn3 hsi3)
          have B3 := hid b3
          have hs3 : s3.n ≤ 20 := by omega
          clear hsn3 hsi3 hsm3 hb3 b3 c0 c1 c2 c3 c4 hiy hcell hbx wsz hle
          go_wp2_with fail
          go_loopw [40] (fun i wy => ∃ t : Nat, t ≤ s3.n ∧ i = .int .i64 t ∧ (∀ i, i < t → ¬ pos L ((su F X).getD i 0) ≤ k) ∧ Below w3.heap.size w3 wy) (fun i _ => s3.n - (intOf i).toNat)
          case atStart => exact ⟨0, Nat.zero_le _, rfl, fun i hi => by omega, same w3⟩
          case round =>
            obtain ⟨t, ht, rfl, hno, hby⟩ := hrel
            have HN2 := hid hno
            clear hno
            have bw : Below wr.heap.size wr wr := same wr
            have b4 := B3.out.trans (hby.mono B3.out.size)
            by_cases htl : t < s3.n
            · obtain ⟨jb, jo, hiy, hcell⟩ := (E3.out.2.on hby).at htl
              have htL : t < (su F X).length := by have := E3.out.1; omega
              have hm := getD_mem htL
              have hmL := OD.out.shut X (List.mem_of_getElem? HKX.out) _ hm
              have hxx := OD.out.lt _ hmL
              have hc2 := HP.out _ hmL hxx
              obtain ⟨Y, hY⟩ : ∃ Y, (su F X).getD t 0 = Y := ⟨_, rfl⟩
              simp only [hY] at hcell hm hmL hxx hc2
              rw [← b4.cell (by show M < _; omega)] at hc2
              have hrow := index_row (s := ⟨some ⟨M, 0, none⟩, F.blk.n, F.blk.n⟩) rfl underlying22 size3 hxx
              simp only [Nat.mul_one, Nat.zero_add] at hrow
              have HY := hid (And.intro hY hm)
              clear hY hm hmL
              by_cases hle2 : pos L Y ≤ k
              · have t1 : decide (((pos L Y : Nat) : Int) ≤ (k : Int)) = true := by simp; exact hle2
                have HLE := hid hle2
                clear hle2
                go_wp2_with fail
                go_ret
                exact ⟨true, rfl, by simp; exact ⟨k, X, HKX.out, Y, HY.out.2, HLE.out⟩, hb.trans (b4.mono hb.size)⟩
              · have t1 : decide (((pos L Y : Nat) : Int) ≤ (k : Int)) = false := by simp; omega
                have HLE := hid hle2
                clear hle2
                go_wp2_with fail
                go_round
                case rel => exact ⟨t + 1, by omega, by go_num, fun i hi => by
                  by_cases e : i = t
                  · rw [e, HY.out.1]; exact HLE.out
                  · exact HN2.out i (by omega), hby⟩
                case measure => simp [intOf]; omega
            · obtain rfl : t = s3.n := by omega
              go_wp2_with fail
              go_round
              case rel => exact ⟨k + 1, by omega, by go_num, fun i x hi hx t ht => by
                by_cases e : i = k
                · subst e
                  rw [HKX.out] at hx
                  obtain rfl := Option.some.inj hx
                  obtain ⟨j, hj, e⟩ := List.getElem_of_mem ht
                  have := HN2.out j (by rw [E3.out.1]; exact hj)
                  simp only [List.getD, List.getElem?_eq_getElem hj, e] at this
                  exact this
                · exact HN.out i x (by omega) hx t ht, b4⟩
              case measure => simp [intOf]; omega
        · obtain rfl : k = s.n := by omega
          go_wp2_with fail
          go_ret
          refine ⟨false, rfl, by
            simp
            rintro ⟨i, x, hx, t, ht, hp⟩
            have := (List.getElem?_eq_some_iff.1 hx).1
            exact HN.out i x (by rw [SN.out]; exact this) hx t ht hp, hb.trans (hbx.mono hb.size)⟩

end Go.Proofs.Ytipligpabhjniaa.Flo
