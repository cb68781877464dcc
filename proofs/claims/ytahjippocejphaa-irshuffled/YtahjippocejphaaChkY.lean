/-
  Where each value stands, by the document: plnref3.Where.
-/
import Derived.Test.YtahjippocejphaaMod
import Derived.Test.YtahjippocejphaaRenum
import Derived.Test.YtahjippocejphaaTy
import Derived.Deep.OwnRows
namespace Go.Proofs.Ytahjippocejphaa.Chk
open Go.RowKit View Rd Num Opn Copy Ty Srt Go.Proofs.Ytahjippocejphaa.Mod

set_option linter.unusedVariables false

/-- The number of the value that block b's instruction k gives. -/
def idx (F : FV) (b k : Nat) : Nat := lastOf F b + giv (F.I b) (k + 1)

def allV (F : FV) : Nat := F.par.n + cnt (fun j => giv (F.I j) (F.B j).n) F.blk.n

theorem giv_mono (f : Nat → IV) {a b : Nat} (h : a ≤ b) : giv f a ≤ giv f b := by
  induction b with
  | zero => obtain rfl : a = 0 := by omega
            exact Nat.le_refl _
  | succ b ih =>
    by_cases e : a = b + 1
    · subst e; exact Nat.le_refl _
    · have := ih (by omega)
      rw [giv]; omega

theorem cnt_mono (n : Nat → Nat) {a b : Nat} (h : a ≤ b) : cnt n a ≤ cnt n b := by
  induction b with
  | zero => obtain rfl : a = 0 := by omega
            exact Nat.le_refl _
  | succ b ih =>
    by_cases e : a = b + 1
    · subst e; exact Nat.le_refl _
    · have := ih (by omega)
      rw [cnt]; omega

theorem lastOf_next (F : FV) (b : Nat) : lastOf F (b + 1) = lastOf F b + giv (F.I b) (F.B b).n := by simp only [lastOf, cnt]; omega

theorem lastOf_mono (F : FV) {a b : Nat} (h : a ≤ b) : lastOf F a ≤ lastOf F b := by
  have := cnt_mono (fun j => giv (F.I j) (F.B j).n) h
  simp only [lastOf]; omega

theorem lastOf_par (F : FV) (b : Nat) : F.par.n ≤ lastOf F b := by simp only [lastOf]; omega

theorem lastOf_all (F : FV) : lastOf F F.blk.n = allV F := rfl

theorem idx_par (F : FV) {b k : Nat} (h : (F.I b k).ty ≠ 0) : F.par.n < idx F b k := by
  have := lastOf_par F b
  unfold idx
  rw [giv, if_pos (by simpa using h)]; omega

theorem idx_eq (F : FV) {b k : Nat} (h : (F.I b k).ty ≠ 0) : idx F b k = lastOf F b + giv (F.I b) k + 1 := by
  unfold idx
  rw [giv, if_pos (by simpa using h)]; omega

/-- Ahead in order. -/
def Bef (F : FV) (b k b' k' : Nat) : Prop := b' < b ∨ (b' = b ∧ k' < k)

theorem idx_le (F : FV) {b k b' k' : Nat} (hk : k' < (F.B b').n) (h : Bef F b k b' k') : idx F b' k' ≤ lastOf F b + giv (F.I b) k := by
  unfold idx
  rcases h with h | ⟨rfl, h⟩
  · have h1 := lastOf_mono F (show b' + 1 ≤ b by omega)
    rw [lastOf_next] at h1
    have h2 := giv_mono (F.I b') (show k' + 1 ≤ (F.B b').n by omega)
    omega
  · have h2 := giv_mono (F.I b') (show k' + 1 ≤ k by omega)
    omega

theorem idx_all (F : FV) {b k : Nat} (hb : b < F.blk.n) (hk : k < (F.B b).n) : idx F b k ≤ allV F := by
  have := idx_le F (b := F.blk.n) (k := 0) hk (.inl hb)
  rw [lastOf_all] at this
  simpa [giv] using this

theorem allV_le {F : FV} (hl : Light F) : allV F ≤ 10000 := by
  have := cnt_le (n := fun j => giv (F.I j) (F.B j).n) (m := 90) (j := F.blk.n) (fun i hi => Nat.le_trans (giv_le _ _) (hl.ins i (by omega)))
  have := hl.par; have := hl.blk; unfold allV; omega

/-- A row of pairs. -/
abbrev pairs (bl pl : Nat → Int) : Nat → Value := fun i => .int .i64 (if i % 2 = 0 then bl (i / 2) else pl (i / 2))

structure Wh (F : FV) (w : World) (O : Nat) (bl pl : Nat → Int) (b k : Nat) : Prop where
  row : w.rowIs O 118 ((allV F + 1) * 2) (pairs bl pl)
  par : ∀ n, n ≤ F.par.n → bl n = -1
  val : ∀ b' k', b' < F.blk.n → k' < (F.B b').n → (F.I b' k').ty ≠ 0 → Bef F b k b' k' → bl (idx F b' k') = b' ∧ pl (idx F b' k') = k'

def WhereIs (F : FV) (w : World) (e : Ending) (w' : World) : Prop :=
  ∃ (O : Nat) (bl pl : Nat → Int), e = .returned (.slice (some ⟨O, 0, none⟩) (allV F + 1) (allV F + 1)) ∧ Wh F w' O bl pl F.blk.n 0 ∧ w.heap.size ≤ O ∧ Below w.heap.size w w'

theorem underlying116 : Try.prog.underlying 116 = some (.slice 118) := by kernel_rfl
theorem info118 : (Try.prog.info? 118).map (fun i => (i.zero, i.size, i.bytes)) = some (some (.agg #[.int .i64 0, .int .i64 0]), 2, 16) := by kernel_rfl
theorem size118 : (Try.prog.info? 118).map (fun i => i.size) = some 2 := by kernel_rfl

theorem pair_at {g n x : Nat} (hx : x < n) : ∀ wx, (Instr.indexAt 116 (.slice (some ⟨g, 0, none⟩) n n) (.int .i64 x)).run Try.prog wx = .ok (.pointer (some ⟨g, x * 2, none⟩)) wx := by
  have := index_row (s := ⟨some ⟨g, 0, none⟩, n, n⟩) rfl underlying116 size118 hx
  simpa using this

theorem made_pairs (n : Nat) : ∀ i, i < n * 2 → (madeCells #[.int .i64 0, .int .i64 0] (n * 2))[i]? = some (pairs (fun _ => 0) (fun _ => 0) i) := by
  intro i hi
  have h2 : i % 2 = 0 ∨ i % 2 = 1 := by omega
  rcases h2 with h2 | h2 <;> simp [madeCells, hi, pairs, h2]

theorem rowIs_pairs (w : World) (n : Nat) : (w.alloc (.cells (madeCells #[.int .i64 0, .int .i64 0] (n * 2)) 118)).rowIs w.heap.size 118 (n * 2) (pairs (fun _ => 0) (fun _ => 0)) := by
  have := World.rowIs_alloc w (madeCells #[.int .i64 0, .int .i64 0] (n * 2)) 118 (pairs (fun _ => 0) (fun _ => 0)) (by rw [size_madeCells]; exact made_pairs n)
  rw [size_madeCells] at this
  exact this

/-- A pair is laid. -/
theorem pairs_set {w : World} {O n : Nat} {bl pl : Nat → Int} (h : w.rowIs O 118 n (pairs bl pl)) (x : Nat) (u v : Int) :
    ((w.setCell ⟨O, x * 2, none⟩ (.int .i64 u)).setCell ⟨O, x * 2 + 1, none⟩ (.int .i64 v)).rowIs O 118 n (pairs (fun i => if i = x then u else bl i) (fun i => if i = x then v else pl i)) := by
  refine ((h.set (x * 2) _).set (x * 2 + 1) _).congr (fun i _ => ?_)
  by_cases h1 : i = x * 2 + 1
  · subst h1
    have e1 : (x * 2 + 1) % 2 = 1 := by omega
    have e2 : (x * 2 + 1) / 2 = x := by omega
    simp [pairs, e1, e2]
  · by_cases h2 : i = x * 2
    · subst h2
      simp [pairs]
    · simp only [if_neg h1, if_neg h2, pairs]
      by_cases h3 : i % 2 = 0
      · have : i / 2 ≠ x := by omega
        simp [h3, this]
      · have : i / 2 ≠ x := by omega
        simp [h3, this]

set_option maxRecDepth 10000 in
set_option maxHeartbeats 1000000 in
theorem where_ref (F : FV) (w : World) (hF : In w F) (hl : Light F) : Calls Try.prog 102 #[F.val] w fun e w' => WhereIs F w e w' := by
  have HF := hid hF
  have HL := hid hl
  have gb := hl.blk
  have gp := hl.par
  have gv := allV_le hl
  obtain ⟨i0, hi, hz0, hz1, hz2⟩ := info_parts info118
  have hmk := fun wx => run_make (P := Try.prog) wx 116 118 i0 _ underlying116 hi hz0 .i64 .i64 ((allV F : Int) + 1) ((allV F : Int) + 1) (by omega) (by omega) (by rw [hz2]; omega) (by omega)
  have e1 : ((allV F : Int) + 1).toNat = allV F + 1 := by omega
  simp only [e1, hz1] at hmk
  have HV := hid (values_ref F _ (hF.on (new (same w) (.cells (fcells F) 33))) hl)
  clear hF hl e1 hi hz0 hz1 hz2
  go_enter Try.func102, Try.ntmps102
  go_wp2_with fail
  refine HV.out.mono ?_
  rintro e w1 ⟨rfl, hb1⟩
  have EV := hid (show (F.par.n : Int) + cnt (fun j => giv (F.I j) (F.B j).n) F.blk.n = allV F by unfold allV; omega)
  rw [EV.out]
  have HM := hid hmk
  go_wp2_with fail
  obtain ⟨W, hW⟩ : ∃ W, w1.alloc (.cells (madeCells #[.int .i64 0, .int .i64 0] ((allV F + 1) * 2)) 118) = W := ⟨_, rfl⟩
  obtain ⟨O, hO⟩ : ∃ O, w1.heap.size = O := ⟨_, rfl⟩
  have z1 := hb1.size
  simp only [World.size_alloc] at z1
  have OW := hid (show w.heap.size < O by omega)
  have R0 := hid (show W.rowIs O 118 ((allV F + 1) * 2) (pairs (fun _ => 0) (fun _ => 0)) by rw [← hW, ← hO]; exact rowIs_pairs w1 (allV F + 1))
  have F0 := hid (show FuncAt W w.heap.size F by rw [← hW]; exact ((FuncAt.alloc w F).on hb1).on (new (same _) _))
  have B0 := hid (show Below w.heap.size w W by rw [← hW]; exact new (View.more (new (same w) _) hb1) _)
  simp only [hW, hO]
  clear hW hO hb1 hmk HM HV z1
  have ST := hid (show ∃ bl pl, W.rowIs O 118 ((allV F + 1) * 2) (pairs bl pl) ∧ ∀ n, n < 0 → bl n = -1 from ⟨_, _, R0.out, fun n hn => by omega⟩)
  go_loopw [4] (fun i wr => ∃ v : Nat, v ≤ F.par.n + 1 ∧ i = .int .i64 v ∧ (∃ bl pl, wr.rowIs O 118 ((allV F + 1) * 2) (pairs bl pl) ∧ ∀ n, n < v → bl n = -1) ∧ FuncAt wr w.heap.size F ∧ Below w.heap.size w wr) (fun i _ => F.par.n + 1 - (intOf i).toNat)
  case atStart => exact ⟨0, Nat.zero_le _, rfl, ST.out, F0.out, B0.out⟩
  case round =>
    clear ST F0 B0 R0
    obtain ⟨v, hv, rfl, ⟨bl, pl, hr, hn⟩, hf, hb⟩ := hrel
    have HS := hid (And.intro hr (And.intro hn (And.intro hf hb)))
    obtain ⟨c0, c1, c2, c3, c4⟩ := hf
    clear hn hb
    by_cases lv : v < F.par.n + 1
    · have hix := pair_at (g := O) (n := allV F + 1) (x := v) (by unfold allV; omega)
      have q1 := hr.cell (i := v * 2) (by unfold allV; omega)
      have q2 := hr.cell (i := v * 2 + 1) (by unfold allV; omega)
      have q3 := hr.frozen (v * 2)
      have q4 := hr.frozen (v * 2 + 1)
      clear hr
      go_wp2_with fail
      have FIN := hid (show (∃ bl pl, ((wr.setCell ⟨O, v * 2, none⟩ (.int .i64 (-1))).setCell ⟨O, v * 2 + 1, none⟩ (.int .i64 (-1))).rowIs O 118 ((allV F + 1) * 2) (pairs bl pl) ∧ ∀ n, n < v + 1 → bl n = -1) ∧ FuncAt ((wr.setCell ⟨O, v * 2, none⟩ (.int .i64 (-1))).setCell ⟨O, v * 2 + 1, none⟩ (.int .i64 (-1))) w.heap.size F ∧ Below w.heap.size w ((wr.setCell ⟨O, v * 2, none⟩ (.int .i64 (-1))).setCell ⟨O, v * 2 + 1, none⟩ (.int .i64 (-1))) from
        ⟨⟨_, _, pairs_set HS.out.1 v (-1) (-1), fun n hn => by
          show (if n = v then (-1 : Int) else bl n) = -1
          by_cases e : n = v
          · rw [if_pos e]
          · rw [if_neg e]; exact HS.out.2.1 n (by omega)⟩, HS.out.2.2.1.kept (((Kept.refl (fun b => b ≠ O) wr).setCell (fun h => h rfl) _).setCell (fun h => h rfl) _) (by show w.heap.size ≠ O; have := OW.out; omega), (HS.out.2.2.2.setCell (by show _ ≤ O; have := OW.out; omega) _).setCell (by show _ ≤ O; have := OW.out; omega) _⟩)
      go_round
      case rel => exact ⟨v + 1, by omega, by go_num, FIN.out⟩
      case measure => simp [intOf]; omega
    · obtain rfl : v = F.par.n + 1 := by omega
      clear hr
      have WS := hid (show Wh F wr O bl pl 0 0 from ⟨HS.out.1, fun n hn => HS.out.2.1 n (by omega), fun b' k' _ _ _ h => by rcases h with h | ⟨_, h⟩ <;> omega⟩)
      go_wp2_with fail
      go_loopw [5, 6] (fun nv i wx => ∃ b : Nat, b ≤ F.blk.n ∧ i = .int .i64 b ∧ nv = .int .i64 (lastOf F b) ∧ (∃ bl pl, Wh F wx O bl pl b 0) ∧ FuncAt wx w.heap.size F ∧ Below w.heap.size w wx) (fun _ i _ => F.blk.n - (intOf i).toNat)
      case atStart => exact ⟨0, Nat.zero_le _, rfl, by simp [lastOf, cnt], ⟨_, _, WS.out⟩, HS.out.2.2.1, HS.out.2.2.2⟩
      case round =>
        clear WS HS c0 c1 c2 c3 c4 lv hv
        obtain ⟨b, hb0, rfl, rfl, ⟨bl, pl, hw⟩, hf, hb⟩ := hrel
        have HS := hid (And.intro hw (And.intro hf hb))
        obtain ⟨c0, c1, c2, c3, c4⟩ := hf
        by_cases lb : b < F.blk.n
        · obtain ⟨rb, ro, hrx, hrc0⟩ := HF.out.blk.at lb
          have RC := hid hrc0
          have hrc := cell_on hb hrc0
          have gi := HL.out.ins b lb
          obtain ⟨L, hL⟩ : ∃ L, lastOf F b = L := ⟨_, rfl⟩
          have hLa : L ≤ allV F := by rw [← hL, ← lastOf_all]; exact lastOf_mono F hb0
          have EL := hid hL
          rw [hL]
          clear hw hb hrc0 hL
          go_wp2_with fail
          clear c0 c1 c2 c3 c4 hrc
          go_loopw [5, 7] (fun nv i wx => ∃ k : Nat, k ≤ (F.B b).n ∧ i = .int .i64 k ∧ nv = .int .i64 (L + giv (F.I b) k : Nat) ∧ (∃ bl pl, Wh F wx O bl pl b k) ∧ FuncAt wx w.heap.size F ∧ Below w.heap.size w wx) (fun _ i _ => (F.B b).n - (intOf i).toNat)
          case atStart => exact ⟨0, Nat.zero_le _, rfl, by simp [giv], ⟨_, _, HS.out.1⟩, HS.out.2.1, HS.out.2.2⟩
          case round =>
            clear HS
            obtain ⟨k, hk0, rfl, rfl, ⟨bl, pl, hw⟩, hf, hb⟩ := hrel
            have HS := hid (And.intro hw (And.intro hf hb))
            have hrc := cell_on hb RC.out
            obtain ⟨c0, c1, c2, c3, c4⟩ := hf
            by_cases lk : k < (F.B b).n
            · obtain ⟨ib, io, hiy, i0, i1, i2, i3, i4, i5, i6⟩ := ((HF.out.ins b lb).on hb).at lk
              have hgk := giv_le (F.I b) k
              by_cases hty : (F.I b k).ty = 0
              · have t1 : ((F.I b k).ty != 0) = false := by simp [hty]
                have HTY := hid hty
                clear hw hb hty
                go_wp2_with fail
                have FIN := hid (show Wh F wr O bl pl b (k + 1) from ⟨HS.out.1.row, HS.out.1.par, fun b' k' h1 h2 h3 h4 => HS.out.1.val b' k' h1 h2 h3 (by
                  rcases h4 with h4 | ⟨rfl, h4⟩
                  · exact .inl h4
                  · exact .inr ⟨rfl, by
                      by_cases e : k' = k
                      · subst e; exact absurd HTY.out h3
                      · omega⟩)⟩)
                go_round
                case rel => exact ⟨k + 1, by omega, by go_num, by simp [giv, HTY.out], ⟨_, _, FIN.out⟩, HS.out.2.1, HS.out.2.2⟩
                case measure => simp [intOf]; omega
              · have t1 : ((F.I b k).ty != 0) = true := by simp [hty]
                have hid1 := idx_eq F hty
                rw [EL.out] at hid1
                have hia := idx_all F lb lk
                have HTY := hid hty
                obtain ⟨N, hN⟩ : ∃ N, L + giv (F.I b) k = N := ⟨_, rfl⟩
                rw [hN] at hid1
                have EN := hid hN
                have e2 : ((N : Int)) + 1 = ((N + 1 : Nat) : Int) := by omega
                have hix := pair_at (g := O) (n := allV F + 1) (x := N + 1) (by omega)
                have q1 := hw.row.cell (i := (N + 1) * 2) (by omega)
                have q2 := hw.row.cell (i := (N + 1) * 2 + 1) (by omega)
                have q3 := hw.row.frozen ((N + 1) * 2)
                have q4 := hw.row.frozen ((N + 1) * 2 + 1)
                rw [← e2] at hix
                rw [hN]
                have HID := hid hid1
                have hN2 : N ≤ 10000 := by omega
                clear hw hb hty hN hid1 hia hgk e2
                go_wp2_with fail
                have FIN := hid (show (∃ bl pl, Wh F ((wr.setCell ⟨O, (N + 1) * 2, none⟩ (.int .i64 b)).setCell ⟨O, (N + 1) * 2 + 1, none⟩ (.int .i64 k)) O bl pl b (k + 1)) ∧ FuncAt ((wr.setCell ⟨O, (N + 1) * 2, none⟩ (.int .i64 b)).setCell ⟨O, (N + 1) * 2 + 1, none⟩ (.int .i64 k)) w.heap.size F ∧ Below w.heap.size w ((wr.setCell ⟨O, (N + 1) * 2, none⟩ (.int .i64 b)).setCell ⟨O, (N + 1) * 2 + 1, none⟩ (.int .i64 k)) from
                  ⟨⟨_, _, ⟨pairs_set HS.out.1.row (N + 1) b k, fun n hn => by
                    show (if n = N + 1 then (b : Int) else bl n) = -1
                    rw [if_neg (by have := idx_par F HTY.out; have := HID.out; omega)]; exact HS.out.1.par n hn, fun b' k' h1 h2 h3 h4 => by
                    show (if idx F b' k' = N + 1 then (b : Int) else bl (idx F b' k')) = b' ∧ (if idx F b' k' = N + 1 then (k : Int) else pl (idx F b' k')) = k'
                    by_cases e : b' = b ∧ k' = k
                    · obtain ⟨rfl, rfl⟩ := e
                      rw [if_pos HID.out, if_pos HID.out]; exact ⟨rfl, rfl⟩
                    · have h5 : Bef F b k b' k' := by
                        rcases h4 with h4 | ⟨h4, h6⟩
                        · exact .inl h4
                        · exact .inr ⟨h4, by omega⟩
                      have h6 := idx_le F h2 h5
                      rw [EL.out, EN.out] at h6
                      rw [if_neg (by omega), if_neg (by omega)]
                      exact HS.out.1.val b' k' h1 h2 h3 h5⟩⟩, HS.out.2.1.kept (((Kept.refl (fun b => b ≠ O) wr).setCell (fun h => h rfl) _).setCell (fun h => h rfl) _) (by show w.heap.size ≠ O; have := OW.out; omega), (HS.out.2.2.setCell (by show _ ≤ O; have := OW.out; omega) _).setCell (by show _ ≤ O; have := OW.out; omega) _⟩)
                have GN := hid (show (N : Int) + 1 = ((L + giv (F.I b) (k + 1) : Nat) : Int) by rw [giv, if_pos (by simpa using HTY.out), ← EN.out]; omega)
                go_round
                case rel => exact ⟨k + 1, by omega, by go_num, by rw [← GN.out], FIN.out⟩
                case measure => simp [intOf]; omega
            · obtain rfl : k = (F.B b).n := by omega
              clear hw hb
              go_wp2_with fail
              have FIN := hid (show (∃ bl pl, Wh F wr O bl pl (b + 1) 0) from ⟨bl, pl, HS.out.1.row, HS.out.1.par, fun b' k' h1 h2 h3 h4 => HS.out.1.val b' k' h1 h2 h3 (by
                rcases h4 with h4 | ⟨h4, h5⟩
                · by_cases e : b' = b
                  · subst e; exact .inr ⟨rfl, h2⟩
                  · exact .inl (by omega)
                · omega)⟩)
              have GN := hid (show L + giv (F.I b) (F.B b).n = lastOf F (b + 1) by rw [lastOf_next, EL.out])
              go_round
              case rel =>
                first
                  | exact ⟨b + 1, by omega, by go_num, by rw [← GN.out]; try simp, FIN.out, HS.out.2.1, HS.out.2.2⟩
                  | ((repeat apply Exists.intro); exact ⟨⟨b + 1, by omega, by go_num, by rw [← GN.out]; try simp, FIN.out, HS.out.2.1, HS.out.2.2⟩, rfl⟩)
              case measure => simp [intOf]; omega
        · obtain rfl : b = F.blk.n := by omega
          clear hw hb
          go_wp2_with fail
          go_ret
          exact ⟨O, bl, pl, rfl, HS.out.1, Nat.le_of_lt OW.out, HS.out.2.2⟩

end Go.Proofs.Ytahjippocejphaa.Chk
