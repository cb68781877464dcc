/-
  ChkY, FloS, FloT, FloY, ChkW, FloDm: laid together.
-/
import Derived.Test.YtbmfimojhcdnbaaMod
import Derived.Test.YtbmfimojhcdnbaaRenum
import Derived.Test.YtbmfimojhcdnbaaTy
import Derived.Deep.OwnRows
import Derived.Test.YtbmfimojhcdnbaaFloB
import Derived.Deep.LoopGhost
import Derived.Deep.RegionHeld3
import Derived.Test.YtbmfimojhcdnbaaChkM
import Derived.Test.YtbmfimojhcdnbaaSameR
import Derived.BigQuiet
import Derived.Deep.QuietTactic
import Derived.BigRegion
/-
  Where each value stands, by the document: plnref3.Where.
-/
namespace Go.Proofs.Ytbmfimojhcdnbaa.Chk
open Go.RowKit View Rd Num Opn Copy Ty Srt Go.Proofs.Ytbmfimojhcdnbaa.Mod

set_option linter.unusedVariables false

/-- The number of the value that block b's instruction k gives. -/
def idx (F : FV) (b k : Nat) : Nat := lastOf F b + giv (F.I b) (k + 1)

def allV (F : FV) : Nat := F.par.n + cnt (fun j => giv (F.I j) (F.B j).n) F.blk.n

theorem giv_mono (f : Nat → IV) {a b : Nat} (h : a ≤ b) : giv f a ≤ giv f b := by
  induction b with
  | zero => obtain rfl : a = 0 := by omega
            exact Nat.le_refl _
  | succ b ih =>
    by_cases e : a = b + 1
    · subst e; exact Nat.le_refl _
    · have := ih (by omega)
      rw [giv]; omega

theorem cnt_mono (n : Nat → Nat) {a b : Nat} (h : a ≤ b) : cnt n a ≤ cnt n b := by
  induction b with
  | zero => obtain rfl : a = 0 := by omega
            exact Nat.le_refl _
  | succ b ih =>
    by_cases e : a = b + 1
    · subst e; exact Nat.le_refl _
    · have := ih (by omega)
      rw [cnt]; omega

theorem lastOf_next (F : FV) (b : Nat) : lastOf F (b + 1) = lastOf F b + giv (F.I b) (F.B b).n := by simp only [lastOf, cnt]; omega

theorem lastOf_mono (F : FV) {a b : Nat} (h : a ≤ b) : lastOf F a ≤ lastOf F b := by
  have := cnt_mono (fun j => giv (F.I j) (F.B j).n) h
  simp only [lastOf]; omega

theorem lastOf_par (F : FV) (b : Nat) : F.par.n ≤ lastOf F b := by simp only [lastOf]; omega

theorem lastOf_all (F : FV) : lastOf F F.blk.n = allV F := rfl

theorem idx_par (F : FV) {b k : Nat} (h : (F.I b k).ty ≠ 0) : F.par.n < idx F b k := by
  have := lastOf_par F b
  unfold idx
  rw [giv, if_pos (by simpa using h)]; omega

theorem idx_eq (F : FV) {b k : Nat} (h : (F.I b k).ty ≠ 0) : idx F b k = lastOf F b + giv (F.I b) k + 1 := by
  unfold idx
  rw [giv, if_pos (by simpa using h)]; omega

/-- Ahead in order. -/
def Bef (F : FV) (b k b' k' : Nat) : Prop := b' < b ∨ (b' = b ∧ k' < k)

theorem idx_le (F : FV) {b k b' k' : Nat} (hk : k' < (F.B b').n) (h : Bef F b k b' k') : idx F b' k' ≤ lastOf F b + giv (F.I b) k := by
  unfold idx
  rcases h with h | ⟨rfl, h⟩
  · have h1 := lastOf_mono F (show b' + 1 ≤ b by omega)
    rw [lastOf_next] at h1
    have h2 := giv_mono (F.I b') (show k' + 1 ≤ (F.B b').n by omega)
    omega
  · have h2 := giv_mono (F.I b') (show k' + 1 ≤ k by omega)
    omega

theorem idx_all (F : FV) {b k : Nat} (hb : b < F.blk.n) (hk : k < (F.B b).n) : idx F b k ≤ allV F := by
  have := idx_le F (b := F.blk.n) (k := 0) hk (.inl hb)
  rw [lastOf_all] at this
  simpa [giv] using this

theorem allV_le {F : FV} (hl : Light F) : allV F ≤ 10000 := by
  have := giv_all hl
  have := hl.par; have := hl.blk; unfold allV; omega

/-- A row of pairs. -/
abbrev pairs (bl pl : Nat → Int) : Nat → Value := fun i => .int .i64 (if i % 2 = 0 then bl (i / 2) else pl (i / 2))

structure Wh (F : FV) (w : World) (O : Nat) (bl pl : Nat → Int) (b k : Nat) : Prop where
  row : w.rowIs O 99 ((allV F + 1) * 2) (pairs bl pl)
  par : ∀ n, n ≤ F.par.n → bl n = -1
  val : ∀ b' k', b' < F.blk.n → k' < (F.B b').n → (F.I b' k').ty ≠ 0 → Bef F b k b' k' → bl (idx F b' k') = b' ∧ pl (idx F b' k') = k'

def WhereIs (F : FV) (w : World) (e : Ending) (w' : World) : Prop :=
  ∃ (O : Nat) (bl pl : Nat → Int), e = .returned (.slice (some ⟨O, 0, none⟩) (allV F + 1) (allV F + 1)) ∧ Wh F w' O bl pl F.blk.n 0 ∧ w.heap.size ≤ O ∧ Below w.heap.size w w'

theorem underlying95 : Try.prog.underlying 95 = some (.slice 99) := by kernel_rfl
theorem info99 : (Try.prog.info? 99).map (fun i => (i.zero, i.size, i.bytes)) = some (some (.agg #[.int .i64 0, .int .i64 0]), 2, 16) := by kernel_rfl
theorem size99 : (Try.prog.info? 99).map (fun i => i.size) = some 2 := by kernel_rfl

theorem pair_at {g n x : Nat} (hx : x < n) : ∀ wx, (Instr.indexAt 95 (.slice (some ⟨g, 0, none⟩) n n) (.int .i64 x)).run Try.prog wx = .ok (.pointer (some ⟨g, x * 2, none⟩)) wx := by
  have := index_row (s := ⟨some ⟨g, 0, none⟩, n, n⟩) rfl underlying95 size99 hx
  simpa using this

theorem made_pairs (n : Nat) : ∀ i, i < n * 2 → (madeCells #[.int .i64 0, .int .i64 0] (n * 2))[i]? = some (pairs (fun _ => 0) (fun _ => 0) i) := by
  intro i hi
  have h2 : i % 2 = 0 ∨ i % 2 = 1 := by omega
  rcases h2 with h2 | h2 <;> simp [madeCells, hi, pairs, h2]

theorem rowIs_pairs (w : World) (n : Nat) : (w.alloc (.cells (madeCells #[.int .i64 0, .int .i64 0] (n * 2)) 99)).rowIs w.heap.size 99 (n * 2) (pairs (fun _ => 0) (fun _ => 0)) := by
  have := World.rowIs_alloc w (madeCells #[.int .i64 0, .int .i64 0] (n * 2)) 99 (pairs (fun _ => 0) (fun _ => 0)) (by rw [size_madeCells]; exact made_pairs n)
  rw [size_madeCells] at this
  exact this

/-- A pair is laid. -/
theorem pairs_set {w : World} {O n : Nat} {bl pl : Nat → Int} (h : w.rowIs O 99 n (pairs bl pl)) (x : Nat) (u v : Int) :
    ((w.setCell ⟨O, x * 2, none⟩ (.int .i64 u)).setCell ⟨O, x * 2 + 1, none⟩ (.int .i64 v)).rowIs O 99 n (pairs (fun i => if i = x then u else bl i) (fun i => if i = x then v else pl i)) := by
  refine ((h.set (x * 2) _).set (x * 2 + 1) _).congr (fun i _ => ?_)
  by_cases h1 : i = x * 2 + 1
  · subst h1
    have e1 : (x * 2 + 1) % 2 = 1 := by omega
    have e2 : (x * 2 + 1) / 2 = x := by omega
    simp [pairs, e1, e2]
  · by_cases h2 : i = x * 2
    · subst h2
      simp [pairs]
    · simp only [if_neg h1, if_neg h2, pairs]
      by_cases h3 : i % 2 = 0
      · have : i / 2 ≠ x := by omega
        simp [h3, this]
      · have : i / 2 ≠ x := by omega
        simp [h3, this]

set_option maxRecDepth 10000 in
set_option maxHeartbeats 1000000 in
theorem where_ref (F : FV) (w : World) (hF : In w F) (hl : Light F) : Calls Try.prog 70 #[F.val] w fun e w' => WhereIs F w e w' := by
  have HF := hid hF
  have HL := hid hl
  have gb := hl.blk
  have gp := hl.par
  have gv := allV_le hl
  obtain ⟨i0, hi, hz0, hz1, hz2⟩ := info_parts info99
  have hmk := fun wx => run_make (P := Try.prog) wx 95 99 i0 _ underlying95 hi hz0 .i64 .i64 ((allV F : Int) + 1) ((allV F : Int) + 1) (by omega) (by omega) (by rw [hz2]; omega) (by omega)
  have e1 : ((allV F : Int) + 1).toNat = allV F + 1 := by omega
  simp only [e1, hz1] at hmk
  have HV := hid (values_ref F _ (hF.on (new (same w) (.cells (fcells F) 33))) hl)
  clear hF hl e1 hi hz0 hz1 hz2
  go_enter Try.func70, Try.ntmps70
  go_wp2_with fail
  refine HV.out.mono ?_
  rintro e w1 ⟨rfl, hb1⟩
  have EV := hid (show (F.par.n : Int) + cnt (fun j => giv (F.I j) (F.B j).n) F.blk.n = allV F by unfold allV; omega)
  rw [EV.out]
  have HM := hid hmk
  go_wp2_with fail
  obtain ⟨W, hW⟩ : ∃ W, w1.alloc (.cells (madeCells #[.int .i64 0, .int .i64 0] ((allV F + 1) * 2)) 99) = W := ⟨_, rfl⟩
  obtain ⟨O, hO⟩ : ∃ O, w1.heap.size = O := ⟨_, rfl⟩
  have z1 := hb1.size
  simp only [World.size_alloc] at z1
  have OW := hid (show w.heap.size < O by omega)
  have R0 := hid (show W.rowIs O 99 ((allV F + 1) * 2) (pairs (fun _ => 0) (fun _ => 0)) by rw [← hW, ← hO]; exact rowIs_pairs w1 (allV F + 1))
  have F0 := hid (show FuncAt W w.heap.size F by rw [← hW]; exact ((FuncAt.alloc w F).on hb1).on (new (same _) _))
  have B0 := hid (show Below w.heap.size w W by rw [← hW]; exact new (View.more (new (same w) _) hb1) _)
  simp only [hW, hO]
  clear hW hO hb1 hmk HM HV z1
  have ST := hid (show ∃ bl pl, W.rowIs O 99 ((allV F + 1) * 2) (pairs bl pl) ∧ ∀ n, n < 0 → bl n = -1 from ⟨_, _, R0.out, fun n hn => by omega⟩)
  go_loopw [4] (fun i wr => ∃ v : Nat, v ≤ F.par.n + 1 ∧ i = .int .i64 v ∧ (∃ bl pl, wr.rowIs O 99 ((allV F + 1) * 2) (pairs bl pl) ∧ ∀ n, n < v → bl n = -1) ∧ FuncAt wr w.heap.size F ∧ Below w.heap.size w wr) (fun i _ => F.par.n + 1 - (intOf i).toNat)
  case atStart => exact ⟨0, Nat.zero_le _, rfl, ST.out, F0.out, B0.out⟩
  case round =>
    clear ST F0 B0 R0
    obtain ⟨v, hv, rfl, ⟨bl, pl, hr, hn⟩, hf, hb⟩ := hrel
    have HS := hid (And.intro hr (And.intro hn (And.intro hf hb)))
    obtain ⟨c0, c1, c2, c3, c4⟩ := hf
    clear hn hb
    by_cases lv : v < F.par.n + 1
    · have hix := pair_at (g := O) (n := allV F + 1) (x := v) (by unfold allV; omega)
      have q1 := hr.cell (i := v * 2) (by unfold allV; omega)
      have q2 := hr.cell (i := v * 2 + 1) (by unfold allV; omega)
      have q3 := hr.frozen (v * 2)
      have q4 := hr.frozen (v * 2 + 1)
      clear hr
      go_wp2_with fail
      have FIN := hid (show (∃ bl pl, ((wr.setCell ⟨O, v * 2, none⟩ (.int .i64 (-1))).setCell ⟨O, v * 2 + 1, none⟩ (.int .i64 (-1))).rowIs O 99 ((allV F + 1) * 2) (pairs bl pl) ∧ ∀ n, n < v + 1 → bl n = -1) ∧ FuncAt ((wr.setCell ⟨O, v * 2, none⟩ (.int .i64 (-1))).setCell ⟨O, v * 2 + 1, none⟩ (.int .i64 (-1))) w.heap.size F ∧ Below w.heap.size w ((wr.setCell ⟨O, v * 2, none⟩ (.int .i64 (-1))).setCell ⟨O, v * 2 + 1, none⟩ (.int .i64 (-1))) from
        ⟨⟨_, _, pairs_set HS.out.1 v (-1) (-1), fun n hn => by
          show (if n = v then (-1 : Int) else bl n) = -1
          by_cases e : n = v
          · rw [if_pos e]
          · rw [if_neg e]; exact HS.out.2.1 n (by omega)⟩, HS.out.2.2.1.kept (((Kept.refl (fun b => b ≠ O) wr).setCell (fun h => h rfl) _).setCell (fun h => h rfl) _) (by show w.heap.size ≠ O; have := OW.out; omega), (HS.out.2.2.2.setCell (by show _ ≤ O; have := OW.out; omega) _).setCell (by show _ ≤ O; have := OW.out; omega) _⟩)
      go_round
      case rel => exact ⟨v + 1, by omega, by go_num, FIN.out⟩
      case measure => simp [intOf]; omega
    · obtain rfl : v = F.par.n + 1 := by omega
      clear hr
      have WS := hid (show Wh F wr O bl pl 0 0 from ⟨HS.out.1, fun n hn => HS.out.2.1 n (by omega), fun b' k' _ _ _ h => by rcases h with h | ⟨_, h⟩ <;> omega⟩)
      go_wp2_with fail
      go_loopw [5, 6] (fun nv i wx => ∃ b : Nat, b ≤ F.blk.n ∧ i = .int .i64 b ∧ nv = .int .i64 (lastOf F b) ∧ (∃ bl pl, Wh F wx O bl pl b 0) ∧ FuncAt wx w.heap.size F ∧ Below w.heap.size w wx) (fun _ i _ => F.blk.n - (intOf i).toNat)
      case atStart => exact ⟨0, Nat.zero_le _, rfl, by simp [lastOf, cnt], ⟨_, _, WS.out⟩, HS.out.2.2.1, HS.out.2.2.2⟩
      case round =>
        clear WS HS c0 c1 c2 c3 c4 lv hv
        obtain ⟨b, hb0, rfl, rfl, ⟨bl, pl, hw⟩, hf, hb⟩ := hrel
        have HS := hid (And.intro hw (And.intro hf hb))
        obtain ⟨c0, c1, c2, c3, c4⟩ := hf
        by_cases lb : b < F.blk.n
        · obtain ⟨rb, ro, hrx, hrc0⟩ := HF.out.blk.at lb
          have RC := hid hrc0
          have hrc := cell_on hb hrc0
          have gi := HL.out.ins b lb
          obtain ⟨L, hL⟩ : ∃ L, lastOf F b = L := ⟨_, rfl⟩
          have hLa : L ≤ allV F := by rw [← hL, ← lastOf_all]; exact lastOf_mono F hb0
          have EL := hid hL
          rw [hL]
          clear hw hb hrc0 hL
          go_wp2_with fail
          clear c0 c1 c2 c3 c4 hrc
          go_loopw [5, 7] (fun nv i wx => ∃ k : Nat, k ≤ (F.B b).n ∧ i = .int .i64 k ∧ nv = .int .i64 (L + giv (F.I b) k : Nat) ∧ (∃ bl pl, Wh F wx O bl pl b k) ∧ FuncAt wx w.heap.size F ∧ Below w.heap.size w wx) (fun _ i _ => (F.B b).n - (intOf i).toNat)
          case atStart => exact ⟨0, Nat.zero_le _, rfl, by simp [giv], ⟨_, _, HS.out.1⟩, HS.out.2.1, HS.out.2.2⟩
          case round =>
            clear HS
            obtain ⟨k, hk0, rfl, rfl, ⟨bl, pl, hw⟩, hf, hb⟩ := hrel
            have HS := hid (And.intro hw (And.intro hf hb))
            have hrc := cell_on hb RC.out
            obtain ⟨c0, c1, c2, c3, c4⟩ := hf
            by_cases lk : k < (F.B b).n
            · obtain ⟨ib, io, hiy, i0, i1, i2, i3, i4, i5, i6⟩ := ((HF.out.ins b lb).on hb).at lk
              have hgk := giv_le (F.I b) k
              by_cases hty : (F.I b k).ty = 0
              · have t1 : ((F.I b k).ty != 0) = false := by simp [hty]
                have HTY := hid hty
                clear hw hb hty
                go_wp2_with fail
                have FIN := hid (show Wh F wr O bl pl b (k + 1) from ⟨HS.out.1.row, HS.out.1.par, fun b' k' h1 h2 h3 h4 => HS.out.1.val b' k' h1 h2 h3 (by
                  rcases h4 with h4 | ⟨rfl, h4⟩
                  · exact .inl h4
                  · exact .inr ⟨rfl, by
                      by_cases e : k' = k
                      · subst e; exact absurd HTY.out h3
                      · omega⟩)⟩)
                go_round
                case rel => exact ⟨k + 1, by omega, by go_num, by simp [giv, HTY.out], ⟨_, _, FIN.out⟩, HS.out.2.1, HS.out.2.2⟩
                case measure => simp [intOf]; omega
              · have t1 : ((F.I b k).ty != 0) = true := by simp [hty]
                have hid1 := idx_eq F hty
                rw [EL.out] at hid1
                have hia := idx_all F lb lk
                have HTY := hid hty
                obtain ⟨N, hN⟩ : ∃ N, L + giv (F.I b) k = N := ⟨_, rfl⟩
                rw [hN] at hid1
                have EN := hid hN
                have e2 : ((N : Int)) + 1 = ((N + 1 : Nat) : Int) := by omega
                have hix := pair_at (g := O) (n := allV F + 1) (x := N + 1) (by omega)
                have q1 := hw.row.cell (i := (N + 1) * 2) (by omega)
                have q2 := hw.row.cell (i := (N + 1) * 2 + 1) (by omega)
                have q3 := hw.row.frozen ((N + 1) * 2)
                have q4 := hw.row.frozen ((N + 1) * 2 + 1)
                rw [← e2] at hix
                rw [hN]
                have HID := hid hid1
                have hN2 : N ≤ 10000 := by omega
                clear hw hb hty hN hid1 hia hgk e2
                go_wp2_with fail
                have FIN := hid (show (∃ bl pl, Wh F ((wr.setCell ⟨O, (N + 1) * 2, none⟩ (.int .i64 b)).setCell ⟨O, (N + 1) * 2 + 1, none⟩ (.int .i64 k)) O bl pl b (k + 1)) ∧ FuncAt ((wr.setCell ⟨O, (N + 1) * 2, none⟩ (.int .i64 b)).setCell ⟨O, (N + 1) * 2 + 1, none⟩ (.int .i64 k)) w.heap.size F ∧ Below w.heap.size w ((wr.setCell ⟨O, (N + 1) * 2, none⟩ (.int .i64 b)).setCell ⟨O, (N + 1) * 2 + 1, none⟩ (.int .i64 k)) from
                  ⟨⟨_, _, ⟨pairs_set HS.out.1.row (N + 1) b k, fun n hn => by
                    show (if n = N + 1 then (b : Int) else bl n) = -1
                    rw [if_neg (by have := idx_par F HTY.out; have := HID.out; omega)]; exact HS.out.1.par n hn, fun b' k' h1 h2 h3 h4 => by
                    show (if idx F b' k' = N + 1 then (b : Int) else bl (idx F b' k')) = b' ∧ (if idx F b' k' = N + 1 then (k : Int) else pl (idx F b' k')) = k'
                    by_cases e : b' = b ∧ k' = k
                    · obtain ⟨rfl, rfl⟩ := e
                      rw [if_pos HID.out, if_pos HID.out]; exact ⟨rfl, rfl⟩
                    · have h5 : Bef F b k b' k' := by
                        rcases h4 with h4 | ⟨h4, h6⟩
                        · exact .inl h4
                        · exact .inr ⟨h4, by omega⟩
                      have h6 := idx_le F h2 h5
                      rw [EL.out, EN.out] at h6
                      rw [if_neg (by omega), if_neg (by omega)]
                      exact HS.out.1.val b' k' h1 h2 h3 h5⟩⟩, HS.out.2.1.kept (((Kept.refl (fun b => b ≠ O) wr).setCell (fun h => h rfl) _).setCell (fun h => h rfl) _) (by show w.heap.size ≠ O; have := OW.out; omega), (HS.out.2.2.setCell (by show _ ≤ O; have := OW.out; omega) _).setCell (by show _ ≤ O; have := OW.out; omega) _⟩)
                have GN := hid (show (N : Int) + 1 = ((L + giv (F.I b) (k + 1) : Nat) : Int) by rw [giv, if_pos (by simpa using HTY.out), ← EN.out]; omega)
                go_round
                case rel => exact ⟨k + 1, by omega, by go_num, by rw [← GN.out], FIN.out⟩
                case measure => simp [intOf]; omega
            · obtain rfl : k = (F.B b).n := by omega
              clear hw hb
              go_wp2_with fail
              have FIN := hid (show (∃ bl pl, Wh F wr O bl pl (b + 1) 0) from ⟨bl, pl, HS.out.1.row, HS.out.1.par, fun b' k' h1 h2 h3 h4 => HS.out.1.val b' k' h1 h2 h3 (by
                rcases h4 with h4 | ⟨h4, h5⟩
                · by_cases e : b' = b
                  · subst e; exact .inr ⟨rfl, h2⟩
                  · exact .inl (by omega)
                · omega)⟩)
              have GN := hid (show L + giv (F.I b) (F.B b).n = lastOf F (b + 1) by rw [lastOf_next, EL.out])
              go_round
              case rel =>
                first
                  | exact ⟨b + 1, by omega, by go_num, by rw [← GN.out]; try simp, FIN.out, HS.out.2.1, HS.out.2.2⟩
                  | ((repeat apply Exists.intro); exact ⟨⟨b + 1, by omega, by go_num, by rw [← GN.out]; try simp, FIN.out, HS.out.2.1, HS.out.2.2⟩, rfl⟩)
              case measure => simp [intOf]; omega
        · obtain rfl : b = F.blk.n := by omega
          clear hw hb
          go_wp2_with fail
          go_ret
          exact ⟨O, bl, pl, rfl, HS.out.1, Nat.le_of_lt OW.out, HS.out.2.2⟩

end Go.Proofs.Ytbmfimojhcdnbaa.Chk

/-
  By the document: plnref3.Last, Next.
-/
namespace Go.Proofs.Ytbmfimojhcdnbaa.Flo
open Go.RowKit View Rd Copy Num Ty Srt

set_option linter.unusedVariables false

theorem results_cell_tmp {fn : Func} {p q : Tmp} {ty : TypeId} (h : fn.results = #[.cell p ty, .tmp q]) (tmps : Array Value) (P : Program) (w : World) :
    (results fn tmps).run P w = ((asAddr (tmps.getD p undef)).run P w).andThen fun a w₁ => ((loadVar ty a).run P w₁).andThen fun v w₂ => .ok (.tuple #[v, tmps.getD q undef]) w₂ := by
  simp only [results, h]
  simp [Sem.run_bind, Result.andThen]

/-- Is there a last one? -/
def hasL (F : FV) (x : Int) : Bool := isB F x && decide ((F.B x.toNat).n ≠ 0)
def lastI (F : FV) (x : Int) : IV := if hasL F x = true then F.I x.toNat ((F.B x.toNat).n - 1) else IV.zero

def LastIs (F : FV) (x : Int) (w : World) (e : Ending) (w' : World) : Prop := e = .returned (.tuple #[(lastI F x).val, .bool (hasL F x)]) ∧ Below w.heap.size w w'

set_option maxHeartbeats 1000000 in
theorem last_ref (F : FV) (x : Int) (w : World) (hF : In w F) :
    Calls Try.prog 55 #[F.val, .int .i64 x] w fun e w' => LastIs F x w e w' := by
  have HF := hid hF
  have q2 := hF.blk.2.1
  clear hF
  by_cases hx : isB F x = true
  case neg =>
    have hl : hasL F x = false := by unfold hasL; simp at hx; simp [hx]
    have hI : lastI F x = IV.zero := by unfold lastI; simp [hl]
    by_cases h0 : x < 0
    · have t1 : decide (x < 0) = true := by simpa using h0
      go_enter Try.func55, Try.ntmps55
      go_wp2_with fail
      refine bodyPost_ret (v := .tuple #[IV.zero.val, .bool false]) (by rw [results_cell_tmp rfl]; go_simp) rfl ?_
      exact ⟨by rw [hl, hI], new (new (same w) _) _⟩
    · have t1 : decide (x < 0) = false := by simpa using h0
      have t2 : decide ((F.blk.n : Int) ≤ x) = true := by unfold isB at hx; simp at hx; simp; omega
      go_enter Try.func55, Try.ntmps55
      go_wp2_with fail
      refine bodyPost_ret (v := .tuple #[IV.zero.val, .bool false]) (by rw [results_cell_tmp rfl]; go_simp) rfl ?_
      exact ⟨by rw [hl, hI], new (new (same w) _) _⟩
  obtain ⟨b, rfl⟩ : ∃ b : Nat, x = b := ⟨x.toNat, by unfold isB at hx; simp at hx; omega⟩
  have hb : b < F.blk.n := by unfold isB at hx; simp at hx; omega
  have t1 : decide ((b : Int) < 0) = false := by simp
  have t2 : decide ((F.blk.n : Int) ≤ (b : Int)) = false := by simp; omega
  obtain ⟨bb, oo, hix, hck⟩ := (HF.out.blk.on (new (new (same w) (.cells (fcells F) 33)) (.cells IV.zero.cells 39))).at hb
  by_cases h0 : (F.B b).n = 0
  · have t3 : (((F.B b).n : Int) == 0) = true := by simp [h0]
    have hl : hasL F b = false := by unfold hasL; simp [h0]
    have hI : lastI F b = IV.zero := by unfold lastI; simp [hl]
    have H0 := hid h0
    clear h0 hx
    go_enter Try.func55, Try.ntmps55
    go_wp2_with fail
    refine bodyPost_ret (v := .tuple #[IV.zero.val, .bool false]) (by rw [results_cell_tmp rfl]; go_simp) rfl ?_
    exact ⟨by rw [hl, hI], new (new (same w) _) _⟩
  · have t3 : (((F.B b).n : Int) == 0) = false := by simp [h0]
    have hl : hasL F b = true := by unfold hasL; simp [h0, hx]
    have hI : lastI F b = F.I b ((F.B b).n - 1) := by unfold lastI; simp [hl]
    obtain ⟨m, hm⟩ : ∃ m, (F.B b).n = m + 1 := ⟨(F.B b).n - 1, by omega⟩
    have e1 : ((F.B b).n : Int) - 1 = m := by omega
    have q3 := (HF.out.ins b hb).2.1
    obtain ⟨ib, io, hiy, c0, c1, c2, c3, c4, c5, c6⟩ := ((HF.out.ins b hb).on (new (new (same w) (.cells (fcells F) 33)) (.cells IV.zero.cells 39))).at (k := m) (by omega)
    rw [← e1] at hiy
    have HM := hid hm
    have E1 := hid e1
    have HL := hid hl
    have HI := hid hI
    clear hm e1 h0 hx hl hI
    go_enter Try.func55, Try.ntmps55
    go_wp2_with fail
    refine bodyPost_ret (v := .tuple #[(F.I b m).val, .bool true]) (by rw [results_cell_tmp rfl]; go_simp) rfl ?_
    exact ⟨by rw [HL.out, HI.out, HM.out]; rfl, new (new (same w) _) _⟩

theorem ex_mem {l : List Nat} {n : Nat} (hn : n = l.length) (x : Nat) : (∃ i, i < n ∧ ((l.getD i 0 : Nat) : Int) = (x : Int)) ↔ x ∈ l := by
  constructor
  · rintro ⟨i, hi, e⟩
    have : l.getD i 0 = x := by omega
    rw [← this]
    exact getD_mem (by omega)
  · intro h
    obtain ⟨i, hi, e⟩ := List.getElem_of_mem h
    exact ⟨i, by omega, by simp [List.getD, hi, e]⟩

theorem suI_none {F : FV} {x : Int} (h : hasL F x = false) : suI F x = [] := by
  unfold suI
  split
  · next h0 =>
    unfold su
    split
    · next hb =>
      have hx : isB F x = true := by unfold isB; simp; omega
      have : (F.B x.toNat).n = 0 := by unfold hasL at h; simpa [hx] using h
      have hled : led (F.B x.toNat) (F.I x.toNat) = ⟨none, 0, 0⟩ := by unfold led; rw [if_pos this]
      rw [hled]; rfl
    · rfl
  · rfl

set_option maxRecDepth 10000 in
set_option maxHeartbeats 2000000 in
theorem next_ref (F : FV) (x : Int) (w : World) (hF : In w F) (hl : Light F) :
    Calls Try.prog 19 #[F.val, .int .i64 x] w fun e w' => Gives (suI F x) w e w' := by
  have HF := hid hF
  have HL := hid hl
  have gb := hl.blk
  clear hF hl
  obtain ⟨LL, hLL⟩ : ∃ LL, suI F x = LL := ⟨_, rfl⟩
  rw [hLL]
  have HLL := hid hLL
  clear hLL
  go_enter Try.func19, Try.ntmps19
  go_wp2_with fail
  refine (last_ref F x _ (HF.out.on (new (same w) _))).mono ?_
  rintro e w1 ⟨rfl, hb1⟩
  have f1 : FuncAt w1 w.heap.size F := (FuncAt.alloc w F).on hb1
  have b1 := View.more (new (same w) _) hb1
  have hz := hb1.size
  simp only [World.size_alloc] at hz
  have F1 := hid f1
  have B1 := hid b1
  clear hb1 f1 b1
  by_cases hh : hasL F x = true
  case neg =>
    have hh' : hasL F x = false := by simpa using hh
    rw [hh']
    have e0 := HLL.out
    rw [suI_none hh'] at e0
    subst e0
    clear hh
    go_wp2_with fail
    go_ret
    exact gives_nil (new B1.out _)
  have hxb : isB F x = true := by unfold hasL at hh; simp at hh; exact hh.1
  obtain ⟨b, rfl⟩ : ∃ b : Nat, x = b := ⟨x.toNat, by unfold isB at hxb; simp at hxb; omega⟩
  have hb : b < F.blk.n := by unfold isB at hxb; simp at hxb; omega
  have hn0 : (F.B b).n ≠ 0 := by unfold hasL at hh; simp at hh; exact hh.2
  have hI : lastI F b = F.I b ((F.B b).n - 1) := by unfold lastI; rw [if_pos hh]; rfl
  have hsu : su F b = nxt F.blk.n (F.J b ((F.B b).n - 1)) (led (F.B b) (F.I b)).n := by rw [su, if_pos hb]
  have hled : led (F.B b) (F.I b) = if (F.I b ((F.B b).n - 1)).op = 27 ∨ (F.I b ((F.B b).n - 1)).op = 28 then (F.I b ((F.B b).n - 1)).into else ⟨none, 0, 0⟩ := by unfold led; rw [if_neg hn0]
  rw [hh, hI]
  have e0 := HLL.out
  rw [suI_nat, hsu, hled] at e0
  have HI := hid (HF.out.into b hb ((F.B b).n - 1) (by omega))
  have hle := HL.out.into b hb ((F.B b).n - 1) (by omega)
  obtain ⟨v, hv⟩ : ∃ v, F.I b ((F.B b).n - 1) = v := ⟨_, rfl⟩
  obtain ⟨f, hf⟩ : ∃ f, F.J b ((F.B b).n - 1) = f := ⟨_, rfl⟩
  rw [hv] at HI hle
  rw [hf] at HI
  rw [hv, hf] at e0
  rw [hv]
  clear HLL hh hxb hn0 hI hsu hled hv hf
  by_cases hop : v.op = 27 ∨ v.op = 28
  case neg =>
    rw [if_neg hop] at e0
    subst e0
    have t1 : (v.op != 27) = true := by simp; exact fun h => hop (.inl h)
    have t2 : (v.op != 28) = true := by simp; exact fun h => hop (.inr h)
    have HO := hid hop
    clear hop
    go_wp2_with fail
    go_ret
    exact gives_nil (new B1.out _)
  rw [if_pos hop] at e0
  have HLL := hid e0
  clear e0
  have hgo : ((v.op != 27) = false) ∨ ((v.op != 27) = true ∧ (v.op != 28) = false) := by
    rcases hop with h | h
    · left; simp [h]
    · right; simp [h]
  have IA := hid (InsAt.alloc w1 v)
  have BA := hid (new B1.out (.cells v.cells 39))
  have FA := hid (F1.out.on (new (same _) (.cells v.cells 39)))
  clear hop
  rcases hgo with t1 | ⟨t1, t2⟩
  all_goals
    go_wp2_with fail
    go_loopw [7, 8] (fun o i wr => ∃ k : Nat, k ≤ v.into.n ∧ i = .int .i64 k ∧ wr.ownsRow (w1.heap.size + 1) 3 1 o (ints (nxt F.blk.n f k)).length ((ints (nxt F.blk.n f k)).map (Value.int .i64)) ∧ InsAt wr w1.heap.size 0 v ∧ FuncAt wr w.heap.size F ∧ Below w.heap.size w wr ∧ w1.heap.size < wr.heap.size) (fun _ i _ => v.into.n - (intOf i).toNat)
    case atStart => exact ⟨0, Nat.zero_le _, rfl, World.ownsRow_nil _ _ _ _, IA.out, FA.out, BA.out, by simp⟩
    case round =>
      clear IA FA BA
      obtain ⟨k, hk, rfl, hown, hia, hfa, hbr, hwr⟩ := hrel
      have HO := hid hown
      have HIA := hid hia
      have HFA := hid hfa
      obtain ⟨i0, i1, i2, i3, i4, i5, i6⟩ := hia.head
      obtain ⟨c0, c1, c2, c3, c4⟩ := hfa
      clear hown hia
      by_cases hlt : k < v.into.n
      · obtain ⟨ib, io, hiy, hcell⟩ := (HI.out.on hbr).at hlt
        have hnl := nxt_le F.blk.n f k
        obtain ⟨X, hX⟩ : ∃ X, nxt F.blk.n f k = X := ⟨_, rfl⟩
        rw [hX] at hnl HO
        have HXX := hid hX
        clear hX
        by_cases h0 : 0 ≤ f k
        case neg =>
          have t3 : decide ((0 : Int) ≤ f k) = false := by simpa using h0
          go_wp2_with fail
          go_round
          case rel =>
            have e : nxt F.blk.n f (k + 1) = X := by rw [nxt_no (fun h => h0 h.1), HXX.out]
            exact ⟨k + 1, by omega, by go_num, by rw [e]; exact HO.out, HIA.out, HFA.out, hbr, hwr⟩
          case measure => simp [intOf]; omega
        have t3 : decide ((0 : Int) ≤ f k) = true := by simpa using h0
        by_cases h1 : f k < F.blk.n
        case neg =>
          have t4 : decide (f k < (F.blk.n : Int)) = false := by simpa using h1
          have HH := hid h1
          clear h1
          go_wp2_with fail
          go_round
          case rel =>
            have e : nxt F.blk.n f (k + 1) = X := by rw [nxt_no (fun h => HH.out h.2.1), HXX.out]
            exact ⟨k + 1, by omega, by go_num, by rw [e]; exact HO.out, HIA.out, HFA.out, hbr, hwr⟩
          case measure => simp [intOf]; omega
        have t4 : decide (f k < (F.blk.n : Int)) = true := by simpa using h1
        obtain ⟨z, hz1⟩ : ∃ z : Nat, f k = z := ⟨(f k).toNat, by omega⟩
        obtain ⟨so, rfl, hon, hoi, hom⟩ := ints_of_owns HO.out (by simp; omega)
        have OI := hid hoi
        have ON := hid hon
        have hso : so.n ≤ 1000 := by simp at hon; omega
        have HZ := hid (And.intro hz1 (And.intro h0 h1))
        rw [hz1] at hcell t3 t4
        have hzn : (z : Int) < F.blk.n := by omega
        have hzn' : z < F.blk.n := by omega
        clear hoi hon hom hz1 h0 h1
        go_wp2_with fail
        refine (in_any so _ z _ OI.out hso).mono ?_
        rintro e w3 ⟨r, rfl, hr, hb3⟩
        have hmem : r = true ↔ z ∈ X := by
          rw [hr]
          have h1 := ex_mem (l := X) (n := so.n) (by have := ON.out; simpa using this) z
          rw [← h1]
          constructor
          · rintro ⟨i, hi, e⟩; exact ⟨i, hi, by rw [← getD_ints X i (by have := ON.out; simp at this; omega)]; exact e⟩
          · rintro ⟨i, hi, e⟩; exact ⟨i, hi, by rw [getD_ints X i (by have := ON.out; simp at this; omega)]; exact e⟩
        have HM := hid hmem
        have O3 := hid (owns_on hb3 HO.out)
        have I3 := hid (HIA.out.on hb3)
        have F3 := hid (HFA.out.on hb3)
        have B3 := hid (View.more hbr hb3)
        have z3 := hb3.size
        clear hmem hr hb3 HO HIA HFA hbr c0 c1 c2 c3 c4 i0 i1 i2 i3 i4 i5 i6 hiy hcell OI
        cases r with
        | true =>
          go_wp2_with fail
          go_round
          case rel =>
            have e : nxt F.blk.n f (k + 1) = X := by rw [nxt_no (fun h => h.2.2 (by rw [HXX.out, HZ.out.1]; exact HM.out.1 (by simp))), HXX.out]
            exact ⟨k + 1, by omega, by go_num, by rw [e]; exact O3.out, I3.out, F3.out, B3.out, by omega⟩
          case measure => simp [intOf]; omega
        | false =>
          go_wp2_with (at_builtin; refine append_one rfl (.tmp 55) (.tmp 57) rfl (w1.heap.size + 1) _ (ints X) rfl (z : Int) O3.out rfl (by simp; omega) (by omega) ?_; intro v5 w5 hown5 hgr5; have OW := hid (And.intro hown5 hgr5); clear hown5 hgr5)
          go_round
          case rel =>
            obtain ⟨hown5, hgr5⟩ := OW.out
            have k4 : ∀ q, (_root_.Go.Value.ownBlock _ = some q) → w1.heap.size + 1 ≤ q := fun q hq => (O3.out.lt q hq).1
            have hs5 := hgr5.size
            simp only [World.size_alloc] at hs5
            have e : nxt F.blk.n f (k + 1) = X ++ [(f k).toNat] := by
              rw [nxt_yes HZ.out.2.1 HZ.out.2.2 (by rw [HXX.out, HZ.out.1]; exact fun h => by simpa using HM.out.2 h), HXX.out]
            have e2 : ints (X ++ [(f k).toNat]) = ints X ++ [(z : Int)] := by simp [ints, HZ.out.1]
            refine ⟨k + 1, by omega, by go_num, by rw [e, e2]; exact hown5, ?_, ?_, (new B3.out _).grown hgr5 (by simp; omega) (fun q hq => by have := k4 q hq; omega), by omega⟩
            · exact (I3.out.on (new (same _) _)).kept (p := fun k => k = w1.heap.size) ⟨hgr5.size, fun k hk => by subst hk; exact hgr5.block _ (by simp; omega) (fun e => by have := k4 _ e.symm; omega)⟩ rfl
            · exact FuncAt.grown (F3.out.on (new (same _) _)) hgr5 (fun q hq => by have := k4 q hq; omega)
          case measure => simp [intOf]; omega
      · obtain rfl : k = v.into.n := by omega
        go_wp2_with fail
        go_ret
        have e0 := HLL.out
        rw [e0] at HO
        exact gives_of_owns HO.out (by have := nxt_le F.blk.n f v.into.n; rw [e0] at this; omega) hbr (by omega)

end Go.Proofs.Ytbmfimojhcdnbaa.Flo

/-
  By the document: plnref3.from, Reach.
-/
namespace Go.Proofs.Ytbmfimojhcdnbaa.Flo
open Go.RowKit View Rd Copy Num Ty Srt

set_option linter.unusedVariables false

/-- Where block b goes, one left out. -/
def suL (F : FV) (ls : Int) (b : Nat) : List Nat := (su F b).filter (fun t => decide ((t : Int) ≠ ls))

theorem mem_suL {F : FV} {ls : Int} {b t : Nat} : t ∈ suL F ls b ↔ t ∈ su F b ∧ (t : Int) ≠ ls := by simp [suL]

theorem suL_neg {F : FV} {ls : Int} (h : ls < 0) : suL F ls = su F := by
  funext b
  unfold suL
  rw [List.filter_eq_self]
  intro t _
  simp
  omega

theorem upd_eq (m : Nat → Bool) (t i : Nat) : (Value.bool (upd m t i)) = if i = t then Value.bool true else Value.bool (m i) := by unfold upd; split <;> rfl

/-- What is met so far is met by ways, and the start is. -/
structure Met (F : FV) (ls : Int) (s0 : Nat) (f : Nat → Bool) : Prop where
  start : f s0 = true
  way : ∀ i, f i = true → Way (suL F ls) s0 i

theorem Met.more {F : FV} {ls : Int} {s0 : Nat} {f : Nat → Bool} (h : Met F ls s0 f) {b x : Nat} (hb : f b = true) (hx : x ∈ suL F ls b) : Met F ls s0 (upd f x) := by
  refine ⟨by unfold upd; split; rfl; exact h.start, fun i hi => ?_⟩
  unfold upd at hi
  split at hi
  · next e => subst e; exact (h.way b hb).step hx
  · exact h.way i hi

/-- All that goes on from those below b is met. -/
def Shut (F : FV) (ls : Int) (f : Nat → Bool) (b : Nat) : Prop := ∀ c, c < b → f c = true → ∀ t ∈ suL F ls c, f t = true

theorem met_iff {F : FV} {ls : Int} {s0 : Nat} {f : Nat → Bool} (h : Met F ls s0 f) (hs : Shut F ls f F.blk.n) (i : Nat) : f i = true ↔ Way (suL F ls) s0 i := by
  refine ⟨h.way i, fun hw => ?_⟩
  induction hw with
  | refl => exact h.start
  | @step b c _ hc ih =>
    have hb : b < F.blk.n := by
      have := (mem_suL.1 hc).1
      unfold su at this
      split at this
      · assumption
      · simp at this
    exact hs b hb ih c hc

def FromIs (F : FV) (st ls : Int) (w : World) (e : Ending) (w' : World) : Prop :=
  ∃ f : Nat → Bool, ReachIs F.blk.n f w e w' ∧ ∀ i, i < F.blk.n → (f i = true ↔ isB F st = true ∧ st ≠ ls ∧ Way (suL F ls) st.toNat i)

set_option maxRecDepth 10000 in
set_option maxHeartbeats 4000000 in
theorem from_ref (F : FV) (st ls : Int) (w : World) (hF : In w F) (hl : Light F) :
    Calls Try.prog 65 #[F.val, .int .i64 st, .int .i64 ls] w fun e w' => FromIs F st ls w e w' := by
  have HF := hid hF
  have HL := hid hl
  have gb := hl.blk
  have hmk := run_make_row' (P := Try.prog) 45 4 (.bool false) 1 underlying45 info4 rfl .i64 .i64 F.blk.n (by omega) (by omega)
  have hrow : ((w.alloc (.cells (fcells F) 33)).alloc (.cells (madeCells #[.bool false] F.blk.n) 4)).rowIs (w.heap.size + 1) 4 F.blk.n (fun _ => .bool false) := by
    have := World.rowIs_made (w.alloc (.cells (fcells F) 33)) (.bool false) F.blk.n 4
    simpa using this
  have HR := hid hrow
  have FW := hid ((FuncAt.alloc w F).on (new (same _) (.cells (madeCells #[.bool false] F.blk.n) 4)))
  clear hF hl hrow
  by_cases hgo : isB F st = true ∧ st ≠ ls
  case neg =>
    have fin : ∀ w', w'.rowIs (w.heap.size + 1) 4 F.blk.n (fun _ => .bool false) → Below w.heap.size w w' → FromIs F st ls w (.returned (.slice (some ⟨w.heap.size + 1, 0, none⟩) F.blk.n F.blk.n)) w' :=
      fun w' h1 h2 => ⟨fun _ => false, ⟨_, rfl, h1, by omega, h2⟩, fun i hi => by simp; exact fun a b => absurd ⟨a, b⟩ hgo⟩
    by_cases h0 : st < 0
    · have t1 : decide (st < 0) = true := by simpa using h0
      clear hgo
      go_enter Try.func65, Try.ntmps65
      go_wp2_with fail
      go_ret
      exact fin _ HR.out (new (new (same w) _) _)
    · have t1 : decide (st < 0) = false := by simpa using h0
      by_cases h1 : (F.blk.n : Int) ≤ st
      · have t2 : decide ((F.blk.n : Int) ≤ st) = true := by simpa using h1
        clear hgo
        go_enter Try.func65, Try.ntmps65
        go_wp2_with fail
        go_ret
        exact fin _ HR.out (new (new (same w) _) _)
      · have t2 : decide ((F.blk.n : Int) ≤ st) = false := by simpa using h1
        have h3 : st = ls := by
          refine Classical.byContradiction fun h => hgo ⟨?_, h⟩
          unfold isB; simp; omega
        have t3 : (st == ls) = true := by simpa using h3
        clear hgo h3
        go_enter Try.func65, Try.ntmps65
        go_wp2_with fail
        go_ret
        exact fin _ HR.out (new (new (same w) _) _)
  obtain ⟨hb, hne⟩ := hgo
  obtain ⟨s0, rfl⟩ : ∃ b : Nat, st = b := ⟨st.toNat, by unfold isB at hb; simp at hb; omega⟩
  have hs0 : s0 < F.blk.n := by unfold isB at hb; simp at hb; omega
  have t1 : decide ((s0 : Int) < 0) = false := by simp
  have t2 : decide ((F.blk.n : Int) ≤ (s0 : Int)) = false := by simp; omega
  have t2' : decide (F.blk.n ≤ s0) = false := by simp; omega
  have t3 : ((s0 : Int) == ls) = false := by simp; exact hne
  have HG := hid (And.intro hb hne)
  have hbz := bool_at (g := w.heap.size + 1) hs0
  have hmc : (madeCells #[Value.bool false] F.blk.n)[s0]? = some (.bool false) := by simp [madeCells, hs0, Nat.mod_one]
  have hr0 : ((w.alloc (.cells (fcells F) 33)).alloc (.cells ((madeCells #[.bool false] F.blk.n).setIfInBounds s0 (.bool true)) 4)).rowIs (w.heap.size + 1) 4 F.blk.n (fun i => .bool (upd (fun _ => false) s0 i)) := by
    refine ⟨(madeCells #[.bool false] F.blk.n).setIfInBounds s0 (.bool true), ?_, by simp [size_madeCells], fun i hi => ?_⟩
    · have := Deep.blk_alloc_new (w.alloc (.cells (fcells F) 33)) (.cells ((madeCells #[.bool false] F.blk.n).setIfInBounds s0 (.bool true)) 4)
      simpa using this
    · rw [Array.getElem?_setIfInBounds]
      by_cases e : s0 = i
      · subst e; simp [size_madeCells, hs0, upd]
      · rw [if_neg e]
        have e' : ¬ i = s0 := fun h => e h.symm
        simp [madeCells, hi, Nat.mod_one, upd, e']
  have R0 := hid hr0
  have M0 : Hid (Met F ls s0 (upd (fun _ => false) s0)) := ⟨by simp [upd], fun i hi => by
    unfold upd at hi
    split at hi
    · next e => rw [e]; exact .refl _
    · cases hi⟩
  clear hb hne hr0 HR
  go_enter Try.func65, Try.ntmps65
  go_wp2_with fail
  clear hmk hbz hmc
  go_loopg [8] (F.blk.n + 1) (fun k ag wr => ∃ (f : Nat → Bool) (g : Bool), ag = .bool g ∧ wr.rowIs (w.heap.size + 1) 4 F.blk.n (fun i => .bool (f i)) ∧ Met F ls s0 f ∧ (g = false → Shut F ls f F.blk.n) ∧ unmet f F.blk.n + (if g = true then 1 else 0) ≤ k ∧ FuncAt wr w.heap.size F ∧ Below w.heap.size w wr)
  case atStart => exact ⟨_, true, rfl, R0.out, M0.out, fun h => (by cases h), by have := unmet_mono (m := fun _ => false) (m' := upd (fun _ => false) s0) (fun x h => (by cases h)) F.blk.n; rw [unmet_none] at this; simp; exact this, (FuncAt.alloc w F).on (new (same _) _), new (new (same w) _) _⟩
  case round =>
    clear R0 M0
    obtain ⟨f, g, rfl, hr, hm, hs, hk, hf, hb⟩ := hrel
    have HR := hid hr
    have HM := hid hm
    have HS := hid hs
    have HK := hid hk
    have HFA := hid hf
    clear hr hm hs hk hf
    cases g with
    | false =>
      go_wp2_with fail
      go_ret
      exact ⟨f, ⟨_, rfl, HR.out, by omega, hb⟩, fun i hi => by
        rw [met_iff HM.out (HS.out (by simp)) i]
        exact ⟨fun h => ⟨HG.out.1, HG.out.2, h⟩, fun h => h.2.2⟩⟩
    | true =>
      go_wp2_with fail
      clear HS
      go_loopw [8, 9] (fun ag i wx => ∃ (f2 : Nat → Bool) (g : Bool) (b : Nat), b ≤ F.blk.n ∧ ag = .bool g ∧ i = .int .i64 b ∧ wx.rowIs (w.heap.size + 1) 4 F.blk.n (fun i => .bool (f2 i)) ∧ Met F ls s0 f2 ∧ (g = false → Shut F ls f2 b) ∧ unmet f2 F.blk.n + (if g = true then 1 else 0) ≤ unmet f F.blk.n ∧ FuncAt wx w.heap.size F ∧ Below w.heap.size w wx) (fun _ i _ => F.blk.n - (intOf i).toNat)
      case atStart => exact ⟨f, false, 0, Nat.zero_le _, rfl, rfl, HR.out, HM.out, fun _ c hc => by omega, by simp, HFA.out, hb⟩
      case round =>
        clear HR HM HFA hb
        obtain ⟨f2, g, b, hbn, rfl, rfl, hr, hm, hs, hu, hf, hb⟩ := hrel
        have HR := hid hr
        have HM := hid hm
        have HS := hid hs
        have HU := hid hu
        have HFA := hid hf
        obtain ⟨c0, c1, c2, c3, c4⟩ := hf
        have hwl := hr.lt
        clear hr hm hs hu
        by_cases hlt : b < F.blk.n
        · have hbb := bool_at (g := w.heap.size + 1) hlt
          have hrc := HR.out.cell hlt
          by_cases hfb : f2 b = true
          · rw [hfb] at hrc
            have FB := hid hfb
            clear hfb
            go_wp2_with fail
            refine (next_ref F b _ (HF.out.on hb) HL.out).mono ?_
            rintro e w3 ⟨s3, rfl, hsn, hsi, hsm, hb3⟩
            rw [suI_nat] at hsn hsi
            have hle := su_le HL.out b
            have hs20 : s3.n ≤ 20 := by omega
            have SN := hid hsn
            have SI := hid hsi
            have SM := hid hsm
            have R3 := hid (HR.out.of_block (hb3.block _ HR.out.lt))
            have F3 := hid (HFA.out.on hb3)
            have B3 := hid (View.more hb hb3)
            have z3 := hb3.size
            clear hsn hsi hsm hb3 hle HR HFA hb hbb hrc c0 c1 c2 c3 c4
            go_wp2_with fail
            go_loopw [8, 11] (fun ag i wy => ∃ (f3 : Nat → Bool) (g : Bool) (t : Nat), t ≤ s3.n ∧ ag = .bool g ∧ i = .int .i64 t ∧ wy.rowIs (w.heap.size + 1) 4 F.blk.n (fun i => .bool (f3 i)) ∧ Met F ls s0 f3 ∧ f3 b = true ∧ (g = false → Shut F ls f3 b ∧ ∀ j, j < t → ((su F b).getD j 0 : Int) ≠ ls → f3 ((su F b).getD j 0) = true) ∧ unmet f3 F.blk.n + (if g = true then 1 else 0) ≤ unmet f F.blk.n ∧ FuncAt wy w.heap.size F ∧ Below w.heap.size w wy ∧ Ints wy s3 (fun i => (((su F b).getD i 0 : Nat) : Int))) (fun _ i _ => s3.n - (intOf i).toNat)
            case atStart => exact ⟨f2, g, 0, Nat.zero_le _, rfl, rfl, R3.out, HM.out, FB.out, fun h => ⟨HS.out h, fun j hj => by omega⟩, HU.out, F3.out, B3.out, SI.out⟩
            case round =>
              clear R3 F3 B3 SI HM HS HU FB
              obtain ⟨f3, g, t, ht, rfl, rfl, hr, hm, hfb, hs, hu, hf, hb, hi⟩ := hrel
              have HR := hid hr
              have HM := hid hm
              have FB := hid hfb
              have HS := hid hs
              have HU := hid hu
              have HFA := hid hf
              have HI := hid hi
              have hwl2 := hr.lt
              clear hr hm hs hu hf hfb hi
              by_cases hlt2 : t < s3.n
              · obtain ⟨ib, io, hiy, hcell⟩ := HI.out.at hlt2
                have htl : t < (su F b).length := by have := SN.out; omega
                have hmX := getD_mem htl
                have hx := su_lt F b _ hmX
                obtain ⟨X, hX⟩ : ∃ X, (su F b).getD t 0 = X := ⟨_, rfl⟩
                rw [hX] at hmX hx
                simp only [hX] at hcell
                have hbx := bool_at (g := w.heap.size + 1) hx
                have hrx := HR.out.cell hx
                have hrf := HR.out.frozen X
                have HX := hid (And.intro hX hmX)
                clear hX hmX
                by_cases hls : (X : Int) = ls
                · have t5 : ((X : Int) != ls) = false := by simp [hls]
                  have HLS := hid hls
                  clear hls
                  go_wp2_with fail
                  go_round
                  case rel =>
                    refine ⟨f3, g, t + 1, by omega, rfl, by go_num, HR.out, HM.out, FB.out, fun h => ⟨(HS.out h).1, fun j hj hne => ?_⟩, HU.out, HFA.out, hb, HI.out⟩
                    by_cases e : j = t
                    · subst e; rw [HX.out.1] at hne; exact absurd HLS.out hne
                    · exact (HS.out h).2 j (by omega) hne
                  case measure => simp [intOf]; omega
                · have t5 : ((X : Int) != ls) = true := by simp [hls]
                  have HLS := hid hls
                  clear hls
                  by_cases hfx : f3 X = true
                  · rw [hfx] at hrx
                    have FX := hid hfx
                    clear hfx
                    go_wp2_with fail
                    go_round
                    case rel =>
                      refine ⟨f3, g, t + 1, by omega, rfl, by go_num, HR.out, HM.out, FB.out, fun h => ⟨(HS.out h).1, fun j hj hne => ?_⟩, HU.out, HFA.out, hb, HI.out⟩
                      by_cases e : j = t
                      · subst e; rw [HX.out.1]; exact FX.out
                      · exact (HS.out h).2 j (by omega) hne
                    case measure => simp [intOf]; omega
                  · have hfx' : f3 X = false := by simpa using hfx
                    rw [hfx'] at hrx
                    have FX := hid hfx'
                    clear hfx hfx'
                    go_wp2_with fail
                    go_round
                    case rel =>
                      have hmore := HM.out.more FB.out (mem_suL.2 ⟨HX.out.2, HLS.out⟩)
                      have hun := unmet_upd FX.out (n := F.blk.n)
                      rw [if_pos hx] at hun
                      refine ⟨upd f3 X, true, t + 1, by omega, rfl, by go_num, (HR.out.set X (.bool true)).congr (fun i hi => (upd_eq f3 X i).symm), hmore, by unfold upd; split; rfl; exact FB.out, fun h => (by cases h), ?_, HFA.out.kept ((Kept.refl (fun b => b ≠ w.heap.size + 1) wr).setCell (fun h => h rfl) _) (by show _ ≠ _; omega), hb.setCell (by show _ ≤ w.heap.size + 1; omega) _, HI.out.kept ((Kept.refl (fun b => b ≠ w.heap.size + 1) wr).setCell (fun h => h rfl) _) (fun b off h h0 => by have := (SM.out.ge b off h h0).1; omega)⟩
                      have := HU.out
                      simp
                      split at this <;> omega
                    case measure => simp [intOf]; omega
              · obtain rfl : t = s3.n := by omega
                go_wp2_with fail
                go_round
                case rel =>
                  refine ⟨f3, g, b + 1, by omega, rfl, by go_num, HR.out, HM.out, fun h c hc hfc x hx => ?_, HU.out, HFA.out, hb⟩
                  by_cases e : c = b
                  · subst e
                    obtain ⟨h1, h2⟩ := mem_suL.1 hx
                    obtain ⟨j, hj, e'⟩ := List.getElem_of_mem h1
                    have h3 := (HS.out h).2 j (by rw [SN.out]; exact hj)
                    have hg : (su F c).getD j 0 = x := by simp only [List.getD, List.getElem?_eq_getElem hj, e', Option.getD_some]
                    rw [hg] at h3
                    exact h3 h2
                  · exact (HS.out h).1 c (by omega) hfc x hx
                case measure => simp [intOf]; omega
          · have hfb' : f2 b = false := by simpa using hfb
            rw [hfb'] at hrc
            have FB := hid hfb'
            clear hfb hfb'
            go_wp2_with fail
            go_round
            case rel =>
              refine ⟨f2, g, b + 1, by omega, rfl, by go_num, HR.out, HM.out, fun h c hc hfc x hx => ?_, HU.out, HFA.out, hb⟩
              by_cases e : c = b
              · subst e; rw [FB.out] at hfc; cases hfc
              · exact HS.out h c (by omega) hfc x hx
            case measure => simp [intOf]; omega
        · obtain rfl : b = F.blk.n := by omega
          go_wp2_with fail
          go_roundg (unmet f2 F.blk.n + (if g = true then 1 else 0))
          case measure => have h1 := HK.out; have h2 := HU.out; simp at h1; omega
          case rel => exact ⟨f2, g, rfl, HR.out, HM.out, HS.out, Nat.le_refl _, HFA.out, hb⟩

theorem reach_ref (F : FV) (w : World) (hF : In w F) (hl : Light F) :
    Calls Try.prog 33 #[F.val] w fun e w' => FromIs F 0 (-1) w e w' := by
  have HF := hid hF
  have HL := hid hl
  clear hF hl
  go_enter Try.func33, Try.ntmps33
  go_wp2_with fail
  refine (from_ref F 0 (-1) _ (HF.out.on (new (same w) _)) HL.out).mono ?_
  rintro e w1 ⟨f, ⟨M, rfl, hr, hM, hb⟩, hf⟩
  have FIN := hid (And.intro hr (And.intro hM (And.intro hb hf)))
  clear hr hM hb hf
  go_wp2_with fail
  go_ret
  obtain ⟨hr, hM, hb, hf⟩ := FIN.out
  simp only [World.size_alloc] at hM
  exact ⟨f, ⟨M, rfl, hr, by omega, View.more (new (same w) _) hb⟩, hf⟩

end Go.Proofs.Ytbmfimojhcdnbaa.Flo

/-
  By the document: plnref3.Prev; plnkeep.Rows.
-/
namespace Go.Proofs.Ytbmfimojhcdnbaa.Flo
open Go.RowKit View Rd Copy Num Ty Srt

set_option linter.unusedVariables false

theorem wp_app {P : Program} {o : Oper} {a : Act} {w w' : World} {v' v u : Value} {t : TypeId} {s x : Operand} {K : Act → World → Prop} {Q : Exit → Act → World → Prop} {d : Option Tmp} (ho : o.op = .call { callee := .builtin .append, args := #[s, x], argTypes := #[t, t] }) (hd : o.dst = d) (hs : a.eval s = v) (hx : a.eval x = u) (hr : (Builtin.append_ #[t, t] o.type #[v, u]).run P w = .ok v' w') (h : K (a.put d v') w') : o.wp P a w K Q := by
  subst hd
  unfold Oper.wp execOp
  simp only [ho, resolve, invoke, builtin, Sem.run_bind, Sem.run_pure, Result.andThen_ok, List.map_toArray, List.map_cons, List.map_nil, hs, hx, hr]
  exact h

set_option maxRecDepth 10000 in
set_option maxHeartbeats 1000000 in
theorem prev_ref (F : FV) (w : World) (hF : In w F) (hl : Light F) :
    Calls Try.prog 34 #[F.val] w fun e w' => PrevIs F w e w' := by
  have HF := hid hF
  have HL := hid hl
  have gb := hl.blk
  have hmk := run_make_row' (P := Try.prog) 59 28 (.slice none 0 0) 24 underlying59 info28 rfl .i64 .i64 F.blk.n (by omega) (by omega)
  clear hF hl
  go_enter Try.func34, Try.ntmps34
  go_wp2_with fail
  have p0 : Pv ((w.alloc (.cells (fcells F) 33)).alloc (.cells (madeCells #[.slice none 0 0] F.blk.n) 28)) (w.heap.size + 1) F.blk.n (fun _ => ⟨none, 0, 0⟩) (pvL F 0) := by
    refine ⟨?_, fun i hi => by simp [pvL]; exact World.ownsRow_nil _ _ _ _, fun i j _ _ _ g h => by simp [Value.ownBlock] at h⟩
    have := World.rowIs_made (w.alloc (.cells (fcells F) 33)) (.slice none 0 0) F.blk.n 28
    simpa using this
  have P0 := hid p0
  clear hmk p0
  go_loopw [4] (fun i wr => ∃ b : Nat, b ≤ F.blk.n ∧ i = .int .i64 b ∧ (∃ R, Pv wr (w.heap.size + 1) F.blk.n R (pvL F b)) ∧ FuncAt wr w.heap.size F ∧ Below w.heap.size w wr) (fun i _ => F.blk.n - (intOf i).toNat)
  case atStart => exact ⟨0, Nat.zero_le _, rfl, ⟨_, P0.out⟩, (FuncAt.alloc w F).on (new (same _) _), new (new (same w) _) _⟩
  case round =>
    clear P0
    obtain ⟨b, hb, rfl, ⟨R, hp⟩, hf, hbr⟩ := hrel
    have HP := hid hp
    have HFA := hid hf
    obtain ⟨c0, c1, c2, c3, c4⟩ := hf
    have hwl : w.heap.size + 1 < wr.heap.size := hp.row.lt
    clear hp
    by_cases hlt : b < F.blk.n
    · go_wp2_with fail
      refine (next_ref F b _ (HF.out.on hbr) HL.out).mono ?_
      rintro e w1 ⟨s, rfl, hsn, hsi, hsm, hb1⟩
      rw [suI_nat] at hsn hsi
      have far : Far s R F.blk.n := fun h0 g hg i hi e => by
        obtain ⟨g1, h1, h2, h3, _⟩ := hsm h0
        rw [h1] at hg
        have h4 := ((HP.out.own i hi).lt g e).2
        simp at hg
      have FAR := hid far
      clear far
      have p1 := HP.out.on hb1
      have f1 := HFA.out.on hb1
      have hb2 := View.more hbr hb1
      have hz := hb1.size
      have hle := su_le HL.out b
      have SI := hid hsi
      have SM := hid hsm
      have P1 := hid p1
      have F1 := hid f1
      have B2 := hid hb2
      have SN := hid hsn
      have hsn2 : s.n ≤ 20 := by omega
      clear hsi hsm p1 f1 hb2 hb1 HP HFA c0 c1 c2 c3 c4 hsn hbr
      go_wp2_with fail
      go_loopw [6] (fun i wx => ∃ t : Nat, t ≤ s.n ∧ i = .int .i64 t ∧ (∃ R, Pv wx (w.heap.size + 1) F.blk.n R (pvn F b t) ∧ Far s R F.blk.n) ∧ w1.heap.size ≤ wx.heap.size ∧ Ints wx s (fun i => (((su F b).getD i 0 : Nat) : Int)) ∧ FuncAt wx w.heap.size F ∧ Below w.heap.size w wx) (fun i _ => s.n - (intOf i).toNat)
      case atStart => exact ⟨0, Nat.zero_le _, rfl, ⟨R, P1.out.congr (fun i _ => (pvn_zero F b i).symm), FAR.out⟩, Nat.le_refl _, SI.out, F1.out, B2.out⟩
      case round =>
        clear P1 F1 B2 SI FAR
        obtain ⟨t, ht, rfl, ⟨R2, hp, hfar⟩, hw1, hsi, hf, hbr⟩ := hrel
        have FR := hid hfar
        have HP := hid hp
        have HFA := hid hf
        have SI := hid hsi
        have hwl2 : w.heap.size + 1 < wr.heap.size := hp.row.lt
        clear hp hf hsi hfar
        by_cases htl : t < s.n
        · have htl2 : t < (su F b).length := by have := SN.out; omega
          obtain ⟨g1, ga, gl, gt, _⟩ := SM.out (by omega)
          have GA := hid ga
          clear ga
          obtain ⟨hiy, hcell⟩ := own_at SI.out GA.out htl
          have hx : (su F b).getD t 0 < F.blk.n := su_lt F b _ (getD_mem htl2)
          have hstep := pvn_step htl2
          obtain ⟨X, hX⟩ : ∃ X, (su F b).getD t 0 = X := ⟨_, rfl⟩
          simp only [hX] at hcell hx hstep
          have hrow := row_at (M := w.heap.size + 1) hx
          have hrc := HP.out.row.cell hx
          have hrf := HP.out.row.frozen X
          have hpl := pvn_le F b t X
          have STP := hid hstep
          clear hX hstep
          obtain ⟨i0, hi, hz0, hz1, hz2x⟩ := info_parts info3
          obtain ⟨v2, w2, hrun, hown2, hgr2, _, hat2⟩ := run_append_own_at (P := Try.prog) (wr.drew.alloc (.cells #[.int .i64 b] 3)) (w.heap.size + 1 + 1) 28 28 3 i0 (.int .i64 0) 1 8 underlying28 hi hz0 hz1 hz2x rfl (by decide) (.slice (R2 X).a (R2 X).n (R2 X).c) _ _ ((owns_on (Below.drew (same _)) (HP.out.own X hx)).alloc _) ⟨wr.heap.size, 0, none⟩ 1 1 [.int .i64 b] rfl (cell_one_new wr.drew _ _) (by intro u hu; simp at hu; subst hu; rfl) (by simp only [maxLen]; simp; omega) (by simp; omega) (by show _ ≤ (wr.drew.alloc _).heap.size; simp; omega)
          obtain ⟨s2, rfl⟩ := owns_sl hown2
          have hk : w2.heap[w.heap.size + 1]? = (wr.drew.alloc (.cells #[.int .i64 b] 3)).heap[w.heap.size + 1]? := hgr2.block _ (by show _ < (wr.drew.alloc _).heap.size; simp; omega) (fun e => by have := ((HP.out.own X hx).lt _ e.symm).1; omega)
          have hr2 : w2.rowIs (w.heap.size + 1) 28 F.blk.n (fun i => Sl.val (R2 i)) := World.rowIs.of_block (World.rowIs.alloc (w := wr.drew) (HP.out.row.of_block rfl) (.cells #[.int .i64 b] 3)) hk
          have hrc2 := hr2.cell hx
          have hrf2 := hr2.frozen X
          have hS0 : wr.drew.cell? ⟨g1, t, none⟩ = some (.int .i64 X) := hcell
          have hS1 : (wr.drew.alloc (.cells #[.int .i64 b] 3)).cell? ⟨g1, t, none⟩ = some (.int .i64 X) := cell_on (new (same _) _) hS0
          have hS2 : w2.cell? ⟨g1, t, none⟩ = some (.int .i64 X) := by
            rw [World.cell?_of_block (w := wr.drew.alloc (.cells #[.int .i64 b] 3)) (hgr2.block g1 (by show _ < (wr.drew.alloc _).heap.size; simp; omega) (fun e => FR.out (by omega) _ GA.out X hx e.symm))]
            exact hS1
          have hS3 : (w2.setCell ⟨w.heap.size + 1, X, none⟩ (.slice s2.a s2.n s2.c)).cell? ⟨g1, t, none⟩ = some (.int .i64 X) := cell_other (fun e => by have := congrArg Addr.block e; simp at this; omega) hS2
          have hown3 : w2.ownsRow (w.heap.size + 1 + 1) 3 1 (Sl.val s2) (ints (pvn F b t X) ++ [(b : Int)]).length ((ints (pvn F b t X) ++ [(b : Int)]).map (Value.int .i64)) := by simpa using hown2
          have hat3 : (Sl.val s2).ownBlock = (Sl.val (R2 X)).ownBlock ∨ (Sl.val s2).ownBlock = some (wr.drew.heap.size + 1) := by simpa using hat2
          have OW := hid (And.intro hown3 (And.intro hgr2 hat3))
          clear hown2 hown3 hgr2 hat2 hat3 hk hr2 hi hz0 hz1 hz2x
          go_wp2_with fail
          refine wp_region_noPanic ?_
          refine wp_region_held_drew (S := fun wx => wx.cell? ⟨g1, t, none⟩ = some (.int .i64 X)) (by kernel_rfl) hS0 (fun hS => ?_)
          refine takeAt (i := 0) (d := some 27) (v := ?v0) rfl (by rfl) (by kernel_rfl) (by kernel_rfl) (by kernel_rfl) (fun _ _ _ h => h) (Or.inl ⟨by rfl, ?y0⟩) hS ?_
          case y0 => intro wx hSw; (go_simp) <;> with_reducible rfl
          simp only [Act.put, List.setIfInBounds_toArray, List.set_cons_zero, List.set_cons_succ]
          refine takeAt (i := 1) (d := some 28) (v := ?v1) rfl (by rfl) (by kernel_rfl) (by kernel_rfl) (by kernel_rfl) (fun _ _ _ h => h) (Or.inl ⟨by rfl, ?y1⟩) hS ?_
          case y1 => intro wx hSw; (go_simp) <;> with_reducible rfl
          simp only [Act.put, List.setIfInBounds_toArray, List.set_cons_zero, List.set_cons_succ]
          refine takeAt (i := 2) (d := some 29) (v := ?v2) rfl (by rfl) (by kernel_rfl) (by kernel_rfl) (by kernel_rfl) (fun _ _ _ h => h) (Or.inl ⟨by rfl, ?y2⟩) hS ?_
          case y2 => intro wx hSw; (go_simp) <;> with_reducible rfl
          simp only [Act.put, List.setIfInBounds_toArray, List.set_cons_zero, List.set_cons_succ]
          refine takeAt (i := 3) (d := some 30) (v := ?v3) rfl (by rfl) (by kernel_rfl) (by kernel_rfl) (by kernel_rfl) (fun _ _ _ h => h) (Or.inl ⟨by rfl, ?y3⟩) hS ?_
          case y3 => intro wx hSw; (go_simp) <;> with_reducible rfl
          simp only [Act.put, List.setIfInBounds_toArray, List.set_cons_zero, List.set_cons_succ]
          refine takeAt (i := 4) (d := some 31) (v := ?v4) rfl (by rfl) (by kernel_rfl) (by kernel_rfl) (by kernel_rfl) (fun _ _ _ h => h) (Or.inl ⟨by rfl, ?y4⟩) hS ?_
          case y4 => intro wx hSw; (go_simp) <;> with_reducible rfl
          simp only [Act.put, List.setIfInBounds_toArray, List.set_cons_zero, List.set_cons_succ]
          refine takeAt (i := 5) (d := some 32) (v := ?v5) rfl (by rfl) (by kernel_rfl) (by kernel_rfl) (by kernel_rfl) (fun _ _ _ h => h) (Or.inl ⟨by rfl, ?y5⟩) hS ?_
          case y5 => intro wx hSw; (go_simp) <;> with_reducible rfl
          simp only [Act.put, List.setIfInBounds_toArray, List.set_cons_zero, List.set_cons_succ]
          refine takeAt (i := 6) (d := some 33) (v := ?v6) rfl (by rfl) (by kernel_rfl) (by kernel_rfl) (by kernel_rfl) (fun _ _ _ h => h) (Or.inl ⟨by rfl, ?y6⟩) hS ?_
          case y6 => intro wx hSw; (go_simp) <;> with_reducible rfl
          simp only [Act.put, List.setIfInBounds_toArray, List.set_cons_zero, List.set_cons_succ]
          refine takeAt (i := 7) (d := some 34) (v := ?v7) rfl (by rfl) (by kernel_rfl) (by kernel_rfl) (by kernel_rfl) (fun _ _ _ h => h) (Or.inl ⟨by rfl, ?y7⟩) hS ?_
          case y7 => intro wx hSw; (go_simp) <;> with_reducible rfl
          simp only [Act.put, List.setIfInBounds_toArray, List.set_cons_zero, List.set_cons_succ]
          refine takeAt (i := 8) (d := some 35) (v := ?v8) rfl (by rfl) (by kernel_rfl) (by kernel_rfl) (by kernel_rfl) (fun _ _ _ h => h) (Or.inl ⟨by rfl, ?y8⟩) hS ?_
          case y8 => intro wx hSw; (go_simp) <;> with_reducible rfl
          simp only [Act.put, List.setIfInBounds_toArray, List.set_cons_zero, List.set_cons_succ]
          refine takeAt (i := 9) (d := some 36) (v := ?v9) rfl (by rfl) (by kernel_rfl) (by kernel_rfl) (by kernel_rfl) (fun _ _ _ h => h) (Or.inl ⟨by rfl, ?y9⟩) hS ?_
          case y9 => intro wx hSw; (go_simp) <;> with_reducible rfl
          simp only [Act.put, List.setIfInBounds_toArray, List.set_cons_zero, List.set_cons_succ]
          refine takeAt (i := 10) (d := some 37) (v := ?v10) rfl (by rfl) (by kernel_rfl) (by kernel_rfl) (by kernel_rfl) (fun _ _ _ h => h) (Or.inl ⟨by rfl, ?y10⟩) hS ?_
          case y10 => intro wx hSw; (go_simp) <;> with_reducible rfl
          simp only [Act.put, List.setIfInBounds_toArray, List.set_cons_zero, List.set_cons_succ]
          refine takeAt (i := 12) (d := some 39) (v := ?v12) rfl (by rfl) (by kernel_rfl) (by kernel_rfl) (by kernel_rfl) (fun _ _ _ h => h) (Or.inl ⟨by rfl, ?y12⟩) hS ?_
          case y12 => intro wx hSw; (go_simp) <;> with_reducible rfl
          simp only [Act.put, List.setIfInBounds_toArray, List.set_cons_zero, List.set_cons_succ]
          refine wpAnyH_ready (rs := [11, 13]) (by kernel_rfl) (by simp) ?_
          refine AllReadyH.cons rfl (fun K hK => ?_) (AllReadyH.cons rfl (fun K hK => ?_) AllReadyH.nil)
          · go_simp
            refine hK.out _ _ hS0 (fun _ => ?_)
            clear hK K
            replace hS := hS0
            try simp only [Act.put, List.setIfInBounds_toArray, List.set_cons_zero, List.set_cons_succ]
            refine wpAnyH_ready (rs := [13]) (by kernel_rfl) (by simp) ?_
            refine AllReadyH.cons rfl (fun K hK => ?_) AllReadyH.nil
            go_simp
            refine hK.out _ _ hS1 (fun _ => ?_)
            clear hK K
            replace hS := hS1
            try simp only [Act.put, List.setIfInBounds_toArray, List.set_cons_zero, List.set_cons_succ]
            refine wpAnyH_ready (rs := [14]) (by kernel_rfl) (by simp) ?_
            refine AllReadyH.cons rfl (fun K hK => ?_) AllReadyH.nil
            rw [if_pos (by rfl)]
            refine wp_app (s := .tmp 38) (x := .tmp 40) (t := 28) (d := some 41) rfl rfl rfl rfl hrun ?_
            try simp only [Act.put, List.setIfInBounds_toArray, List.set_cons_zero, List.set_cons_succ]
            refine hK.out _ _ hS2 (fun _ => ?_)
            clear hK K
            replace hS := hS2
            try simp only [Act.put, List.setIfInBounds_toArray, List.set_cons_zero, List.set_cons_succ]
            refine takeAt (i := 15) (d := some 42) (v := ?vp15) rfl (by rfl) (by kernel_rfl) (by kernel_rfl) (by kernel_rfl) (fun _ _ _ h => h) (Or.inl ⟨by rfl, ?yp15⟩) hS ?_
            case yp15 => intro wx hSw; (go_simp) <;> with_reducible rfl
            simp only [Act.put, List.setIfInBounds_toArray, List.set_cons_zero, List.set_cons_succ]
            refine wpAnyH_ready (rs := [16]) (by kernel_rfl) (by simp) ?_
            refine AllReadyH.cons rfl (fun K hK => ?_) AllReadyH.nil
            go_simp
            refine hK.out _ _ hS3 (fun _ => ?_)
            clear hK K
            replace hS := hS3
            try simp only [Act.put, List.setIfInBounds_toArray, List.set_cons_zero, List.set_cons_succ]
            refine wpAnyH_done (by kernel_rfl) ?_ _
            refine NoPanic.normal ?_
            clear hS hS0 hS1 hS2 hS3 hrun hrc hrf hcell
            go_wp2_with fail
            have hz2 := OW.out.2.1.size
            simp only [World.size_alloc] at hz2
            have hz3 : wr.heap.size + 1 ≤ w2.heap.size := hz2
            go_round
            case rel =>
              obtain ⟨o1, o2, o3⟩ := OW.out
              have hP := (HP.out.on (Below.drew (same wr))).step hx o1 o2 o3
              have hb2 : Below w.heap.size w w2 := (new (Below.drew hbr) _).grown o2 (by simp; omega) (fun q hq => by have := ((HP.out.own X hx).lt q hq).1; omega)
              have hf2 : FuncAt w2 w.heap.size F := FuncAt.grown (HFA.out.on (new (Below.drew (same _)) _)) o2 (fun q hq => by have := ((HP.out.own X hx).lt q hq).1; omega)
              have hi2 : Ints w2 s (fun i => (((su F b).getD i 0 : Nat) : Int)) := by
                refine (SI.out.on (new (Below.drew (same _)) (.cells #[.int .i64 b] 3))).kept (p := fun k => k = g1) ⟨o2.size, fun k hk => by subst hk; exact o2.block _ (by simp; omega) (fun e => FR.out (by omega) _ GA.out X hx e.symm)⟩ (fun q off h h0 => ?_)
                rw [GA.out] at h
                simp at h
                exact h.1.symm
              have hi3 : Ints (w2.setCell ⟨w.heap.size + 1, X, none⟩ (Sl.val s2)) s (fun i => (((su F b).getD i 0 : Nat) : Int)) := by
                refine hi2.kept (p := fun k => k = g1) ((Kept.refl _ _).setCell (by show ¬ (w.heap.size + 1 = g1); omega) _) (fun q off h h0 => ?_)
                rw [GA.out] at h
                simp at h
                exact h.1.symm
              refine ⟨t + 1, by omega, by go_num, ⟨_, hP.congr (fun i _ => by rw [STP.out i]; by_cases e : i = X <;> simp [e]), fun h0 g hg i hi e => ?_⟩, by simp; omega, hi3, ?_, hb2.setCell (by simp) _⟩
              · rw [GA.out] at hg
                simp at hg
                subst hg
                by_cases e1 : i = X
                · simp only [e1, if_true] at e
                  rcases o3 with h | h
                  · rw [h] at e; exact FR.out h0 _ GA.out X hx e
                  · rw [h] at e; simp at e; omega
                · simp only [e1, if_false] at e
                  exact FR.out h0 _ GA.out i hi e
              · exact hf2.kept ((Kept.refl (fun k => k ≠ w.heap.size + 1) w2).setCell (fun h => h rfl) _) (by show _ ≠ _; omega)
            case measure => simp [intOf]; omega
          · go_simp
            refine hK.out _ _ hS1 (fun _ => ?_)
            clear hK K
            replace hS := hS1
            try simp only [Act.put, List.setIfInBounds_toArray, List.set_cons_zero, List.set_cons_succ]
            refine wpAnyH_ready (rs := [11]) (by kernel_rfl) (by simp) ?_
            refine AllReadyH.cons rfl (fun K hK => ?_) AllReadyH.nil
            go_simp
            refine hK.out _ _ hS1 (fun _ => ?_)
            clear hK K
            replace hS := hS1
            try simp only [Act.put, List.setIfInBounds_toArray, List.set_cons_zero, List.set_cons_succ]
            refine wpAnyH_ready (rs := [14]) (by kernel_rfl) (by simp) ?_
            refine AllReadyH.cons rfl (fun K hK => ?_) AllReadyH.nil
            rw [if_pos (by rfl)]
            refine wp_app (s := .tmp 38) (x := .tmp 40) (t := 28) (d := some 41) rfl rfl rfl rfl hrun ?_
            try simp only [Act.put, List.setIfInBounds_toArray, List.set_cons_zero, List.set_cons_succ]
            refine hK.out _ _ hS2 (fun _ => ?_)
            clear hK K
            replace hS := hS2
            try simp only [Act.put, List.setIfInBounds_toArray, List.set_cons_zero, List.set_cons_succ]
            refine takeAt (i := 15) (d := some 42) (v := ?vq15) rfl (by rfl) (by kernel_rfl) (by kernel_rfl) (by kernel_rfl) (fun _ _ _ h => h) (Or.inl ⟨by rfl, ?yq15⟩) hS ?_
            case yq15 => intro wx hSw; (go_simp) <;> with_reducible rfl
            simp only [Act.put, List.setIfInBounds_toArray, List.set_cons_zero, List.set_cons_succ]
            refine wpAnyH_ready (rs := [16]) (by kernel_rfl) (by simp) ?_
            refine AllReadyH.cons rfl (fun K hK => ?_) AllReadyH.nil
            go_simp
            refine hK.out _ _ hS3 (fun _ => ?_)
            clear hK K
            replace hS := hS3
            try simp only [Act.put, List.setIfInBounds_toArray, List.set_cons_zero, List.set_cons_succ]
            refine wpAnyH_done (by kernel_rfl) ?_ _
            refine NoPanic.normal ?_
            clear hS hS0 hS1 hS2 hS3 hrun hrc hrf hcell
            go_wp2_with fail
            have hz2 := OW.out.2.1.size
            simp only [World.size_alloc] at hz2
            have hz3 : wr.heap.size + 1 ≤ w2.heap.size := hz2
            go_round
            case rel =>
              obtain ⟨o1, o2, o3⟩ := OW.out
              have hP := (HP.out.on (Below.drew (same wr))).step hx o1 o2 o3
              have hb2 : Below w.heap.size w w2 := (new (Below.drew hbr) _).grown o2 (by simp; omega) (fun q hq => by have := ((HP.out.own X hx).lt q hq).1; omega)
              have hf2 : FuncAt w2 w.heap.size F := FuncAt.grown (HFA.out.on (new (Below.drew (same _)) _)) o2 (fun q hq => by have := ((HP.out.own X hx).lt q hq).1; omega)
              have hi2 : Ints w2 s (fun i => (((su F b).getD i 0 : Nat) : Int)) := by
                refine (SI.out.on (new (Below.drew (same _)) (.cells #[.int .i64 b] 3))).kept (p := fun k => k = g1) ⟨o2.size, fun k hk => by subst hk; exact o2.block _ (by simp; omega) (fun e => FR.out (by omega) _ GA.out X hx e.symm)⟩ (fun q off h h0 => ?_)
                rw [GA.out] at h
                simp at h
                exact h.1.symm
              have hi3 : Ints (w2.setCell ⟨w.heap.size + 1, X, none⟩ (Sl.val s2)) s (fun i => (((su F b).getD i 0 : Nat) : Int)) := by
                refine hi2.kept (p := fun k => k = g1) ((Kept.refl _ _).setCell (by show ¬ (w.heap.size + 1 = g1); omega) _) (fun q off h h0 => ?_)
                rw [GA.out] at h
                simp at h
                exact h.1.symm
              refine ⟨t + 1, by omega, by go_num, ⟨_, hP.congr (fun i _ => by rw [STP.out i]; by_cases e : i = X <;> simp [e]), fun h0 g hg i hi e => ?_⟩, by simp; omega, hi3, ?_, hb2.setCell (by simp) _⟩
              · rw [GA.out] at hg
                simp at hg
                subst hg
                by_cases e1 : i = X
                · simp only [e1, if_true] at e
                  rcases o3 with h | h
                  · rw [h] at e; exact FR.out h0 _ GA.out X hx e
                  · rw [h] at e; simp at e; omega
                · simp only [e1, if_false] at e
                  exact FR.out h0 _ GA.out i hi e
              · exact hf2.kept ((Kept.refl (fun k => k ≠ w.heap.size + 1) w2).setCell (fun h => h rfl) _) (by show _ ≠ _; omega)
            case measure => simp [intOf]; omega
        · obtain rfl : t = s.n := by omega
          go_wp2_with fail
          go_round
          case rel => exact ⟨b + 1, by omega, by go_num, ⟨R2, HP.out.congr (fun i _ => by rw [SN.out]; exact pvn_all F b i)⟩, HFA.out, hbr⟩
          case measure => simp [intOf]; omega
    · obtain rfl : b = F.blk.n := by omega
      go_wp2_with fail
      go_ret
      exact ⟨w.heap.size + 1, R, rfl, HP.out, by omega, hbr⟩

theorem Pv.ints {w : World} {M n : Nat} {R : Nat → Sl} {L : Nat → List Nat} (h : Pv w M n R L) {i : Nat} (hi : i < n) (hl : (L i).length ≤ 1000) : Ints w (R i) (fun k => (((L i).getD k 0 : Nat) : Int)) ∧ (R i).n = (L i).length := by
  obtain ⟨s, hs, hn, hI, _⟩ := ints_of_owns (h.own i hi) (by simp; omega)
  have e : R i = s := by
    have h1 : (R i).a = s.a ∧ (R i).n = s.n ∧ (R i).c = s.c := by simpa [Sl.val] using hs
    cases hR : R i; cases s; rw [hR] at h1; simp at h1; simp [h1]
  rw [e]
  exact ⟨hI.congr (fun k hk => getD_ints _ _ (by rw [hn] at hk; simpa using hk)), by simpa using hn⟩

end Go.Proofs.Ytbmfimojhcdnbaa.Flo

/-
  Blocks that fit together, by the document: plnref3.flows.
-/
namespace Go.Proofs.Ytbmfimojhcdnbaa.Chk
open Go.RowKit View Rd Num Opn Copy Go.Proofs.Ytbmfimojhcdnbaa.Mod Go.Proofs.Ytbmfimojhcdnbaa.Flo

set_option linter.unusedVariables false

/-- An Ins at its place. -/
def FlowI (F : FV) (b k : Nat) : Prop := endB (F.I b k).op = decide (k = (F.B b).n - 1) ∧ ¬ (0 < k ∧ (F.I b k).op = 26 ∧ (F.I b (k - 1)).op ≠ 26)

/-- A block's end. -/
def FlowE (F : FV) (b : Nat) : Prop := (∀ i, i < (F.I b ((F.B b).n - 1)).into.n → 1 ≤ F.J b ((F.B b).n - 1) i ∧ F.J b ((F.B b).n - 1) i < F.blk.n) ∧ ((F.I b ((F.B b).n - 1)).op = 28 → F.J b ((F.B b).n - 1) 0 ≠ F.J b ((F.B b).n - 1) 1)

def FlowB (F : FV) (b : Nat) : Prop := 1 ≤ (F.B b).n ∧ (∀ k, k < (F.B b).n → FlowI F b k) ∧ FlowE F b

/-- What comes from where. -/
def FlowP (F : FV) (b k : Nat) : Prop := (F.I b k).op = 26 → b ≠ 0 ∧ (F.I b k).into.n = (pvL F F.blk.n b).length ∧ ∀ i, i < (F.I b k).into.n → F.J b k i = ((pvL F F.blk.n b).getD i 0 : Nat)

def FlowR (F : FV) (b : Nat) : Prop := Go.Proofs.Ytbmfimojhcdnbaa.Flo.Way (su F) 0 b ∧ ∀ k, k < (F.B b).n → FlowP F b k

def FlowF (F : FV) : Prop := (∀ b, b < F.blk.n → FlowB F b) ∧ ∀ b, b < F.blk.n → FlowR F b

theorem prevs_at {g n x : Nat} (hx : x < n) : ∀ wx, (Instr.indexAt 59 (.slice (some ⟨g, 0, none⟩) n n) (.int .i64 x)).run Try.prog wx = .ok (.pointer (some ⟨g, x, none⟩)) wx := by
  have := index_row (s := ⟨some ⟨g, 0, none⟩, n, n⟩) rfl underlying59 size28 hx
  simpa using this

theorem br_two {v : IV} (h : formB v = true) (ho : v.op = 28) : v.into.n = 2 := by
  unfold formB at h
  rw [ho] at h
  simp [mk] at h
  omega

set_option maxRecDepth 10000 in
set_option maxHeartbeats 8000000 in
theorem flows_any (F : FV) (w : World) (hF : In w F) (hl : Light F) (hf : FormF F) : Calls Try.prog 41 #[F.val] w fun e w' => Ans (fun r => r = true ↔ FlowF F) w e w' := by
  have gb := hl.blk
  obtain ⟨W, hW⟩ : ∃ W, w.alloc (.cells (fcells F) 33) = W := ⟨_, rfl⟩
  have FW := hid (show FuncAt W w.heap.size F by rw [← hW]; exact FuncAt.alloc w F)
  have HF := hid (show In W F by rw [← hW]; exact hF.on (new (same w) _))
  have LW := hid (show Below w.heap.size w W by rw [← hW]; exact new (same w) _)
  have HL := hid hl
  have HFO := hid hf
  have HWW := hid hW
  have NO := hid (show ∀ wx, Below W.heap.size W wx → ¬ FlowF F → Ans (fun r => r = true ↔ FlowF F) w (.returned (.bool false)) wx from fun wx h hn => ⟨false, rfl, by simp [hn], View.more LW.out h⟩)
  clear hF hl hf hW
  go_enter Try.func41, Try.ntmps41
  go_wp2_with fail
  simp only [HWW.out]
  clear HWW
  go_loopw [3] (fun iv wr => ∃ b : Nat, b ≤ F.blk.n ∧ iv = .int .i64 b ∧ (∀ t, t < b → FlowB F t) ∧ Below W.heap.size W wr) (fun iv _ => F.blk.n - (intOf iv).toNat)
  case atStart => exact ⟨0, Nat.zero_le _, rfl, fun t ht => by omega, same _⟩
  case round =>
    obtain ⟨b, hb0, rfl, hall, hb⟩ := hrel
    have HA := hid (And.intro hall hb)
    obtain ⟨c0, c1, c2, c3, c4⟩ := FW.out.on hb
    by_cases lb : b < F.blk.n
    · obtain ⟨rb, ro, hrx, hrc0⟩ := HF.out.blk.at lb
      have hrc := cell_on hb hrc0
      have gi := HL.out.ins b lb
      clear hall hb hrc0
      by_cases hn0 : (F.B b).n = 0
      · have t0 : (((F.B b).n : Int) == 0) = true := by simp [hn0]
        have HN := hid (show ¬ FlowF F from fun h => by have := (h.1 b lb).1; omega)
        clear hn0
        go_wp2_with fail
        go_ret
        exact NO.out _ HA.out.2 HN.out
      have t0 : (((F.B b).n : Int) == 0) = false := by simp; omega
      have hn1 : 1 ≤ (F.B b).n := by omega
      clear hn0
      go_wp2_with fail
      clear c0 c1 c2 c3 c4 hrc t0
      obtain ⟨l, hlq⟩ : ∃ l, (F.B b).n - 1 = l := ⟨_, rfl⟩
      have hl1 : (F.B b).n = l + 1 := by omega
      have HLQ := hid hlq
      have HL1 := hid hl1
      clear hlq hl1
      go_loopw [5] (fun iv wx => ∃ k : Nat, k ≤ (F.B b).n ∧ iv = .int .i64 k ∧ (∀ t, t < k → FlowI F b t) ∧ Below W.heap.size W wx) (fun iv _ => (F.B b).n - (intOf iv).toNat)
      case atStart => exact ⟨0, Nat.zero_le _, rfl, fun t ht => by omega, HA.out.2⟩
      case round =>
        obtain ⟨k, hk0, rfl, hall, hb⟩ := hrel
        have HK := hid (And.intro hall hb)
        by_cases lk : k < (F.B b).n
        · obtain ⟨ib, io, hiy, c0, c1, c2, c3, c4, c5, c6⟩ := ((HF.out.ins b lb).on hb).at lk
          clear hall hb
          obtain ⟨op, hop⟩ : ∃ op, (F.I b k).op = op := ⟨_, rfl⟩
          rw [hop] at c0
          have HOP := hid hop
          clear hop
          have ENDS := hid (ends_any op wr)
          have wr1 : IntKind.i64.wrap (((F.B b).n : Int) - 1) = ((F.B b).n : Int) - 1 := by simp only [IntKind.wrap_i64]; omega
          have wr2 : wrap64 (((F.B b).n : Int) - 1) = ((F.B b).n : Int) - 1 := by unfold wrap64; omega
          by_cases hkl : k = (F.B b).n - 1
          · have qk : ((k : Int) == ((F.B b).n : Int) - 1) = true := by simp; omega
            cases hE : endB op with
            | false =>
              have HN := hid (show ¬ FlowF F from fun h => by have := ((h.1 b lb).2.1 k lk).1; rw [HOP.out, hE] at this; simp [hkl] at this)
              clear hkl
              go_wp2_with fail
              refine ENDS.out.mono ?_
              rintro e w9 ⟨rfl, rfl⟩
              rw [hE]
              go_wp2_with fail
              go_ret
              exact NO.out _ HK.out.2 HN.out
            | true =>
              have HEQ := hid (show endB (F.I b k).op = decide (k = (F.B b).n - 1) by rw [HOP.out, hE]; simp [hkl])
              clear hkl
              rcases Nat.eq_zero_or_pos k with hkz | hk1
              · have d0 : decide ((0 : Int) < (k : Int)) = false := by simp; omega
                have d1 : decide (0 < k) = false := by simp; omega
                have p0 : (k : Int) ≤ 0 := by omega
                have HI := hid (show FlowI F b k from ⟨HEQ.out, fun h => absurd h.1 (by omega)⟩)
                clear hkz
                go_wp2_with fail
                refine ENDS.out.mono ?_
                rintro e w9 ⟨rfl, rfl⟩
                rw [hE]
                go_wp2_with fail
                go_round
                case rel => exact ⟨k + 1, by omega, by go_num, upto1 HK.out.1 HI.out, HK.out.2⟩
                case measure => simp [intOf]; omega
              · have d0 : decide ((0 : Int) < (k : Int)) = true := by simp; omega
                by_cases h26 : op = 26
                · have t26 : (op == 26) = true := by simp [h26]
                  obtain ⟨i, hi⟩ : ∃ i, k = i + 1 := ⟨k - 1, by omega⟩
                  obtain ⟨jb, jo, hjy, j0, _⟩ := ((HF.out.ins b lb).on HK.out.2).at (show i < (F.B b).n by omega)
                  have b5 : IntKind.i64.wrap ((k : Int) - 1) = (i : Int) := by simp only [IntKind.wrap_i64]; omega
                  have b6 : wrap64 ((k : Int) - 1) = (i : Int) := by unfold wrap64; omega
                  have b7 : (k : Int) - 1 = (i : Int) := by omega
                  have HIK := hid hi
                  have HOP2 := hid (show (F.I b k).op = 26 by rw [HOP.out]; exact h26)
                  clear hi h26
                  by_cases hp : (F.I b i).op = 26
                  · have t5 : ((F.I b i).op != 26) = false := by simp [hp]
                    have HI := hid (show FlowI F b k from ⟨HEQ.out, fun h => h.2.2 (by rw [HIK.out, Nat.add_sub_cancel]; exact hp)⟩)
                    clear hp
                    go_wp2_with fail
                    refine ENDS.out.mono ?_
                    rintro e w9 ⟨rfl, rfl⟩
                    rw [hE]
                    go_wp2_with fail
                    go_round
                    case rel => exact ⟨k + 1, by omega, by go_num, upto1 HK.out.1 HI.out, HK.out.2⟩
                    case measure => simp [intOf]; omega
                  · have t5 : ((F.I b i).op != 26) = true := by simp [hp]
                    have HN := hid (show ¬ FlowF F from fun h => ((h.1 b lb).2.1 k lk).2 ⟨hk1, HOP2.out, by rw [HIK.out, Nat.add_sub_cancel]; exact hp⟩)
                    clear hp
                    go_wp2_with fail
                    refine ENDS.out.mono ?_
                    rintro e w9 ⟨rfl, rfl⟩
                    rw [hE]
                    go_wp2_with fail
                    go_ret
                    exact NO.out _ HK.out.2 HN.out
                · have t26 : (op == 26) = false := by simp [h26]
                  have HI := hid (show FlowI F b k from ⟨HEQ.out, fun h => h26 (by rw [← HOP.out]; exact h.2.1)⟩)
                  clear h26
                  go_wp2_with fail
                  refine ENDS.out.mono ?_
                  rintro e w9 ⟨rfl, rfl⟩
                  rw [hE]
                  go_wp2_with fail
                  go_round
                  case rel => exact ⟨k + 1, by omega, by go_num, upto1 HK.out.1 HI.out, HK.out.2⟩
                  case measure => simp [intOf]; omega
          · have qk : ((k : Int) == ((F.B b).n : Int) - 1) = false := by simp; omega
            cases hE : endB op with
            | true =>
              have HN := hid (show ¬ FlowF F from fun h => by have := ((h.1 b lb).2.1 k lk).1; rw [HOP.out, hE] at this; simp [hkl] at this)
              clear hkl
              go_wp2_with fail
              refine ENDS.out.mono ?_
              rintro e w9 ⟨rfl, rfl⟩
              rw [hE]
              go_wp2_with fail
              go_ret
              exact NO.out _ HK.out.2 HN.out
            | false =>
              have HEQ := hid (show endB (F.I b k).op = decide (k = (F.B b).n - 1) by rw [HOP.out, hE]; simp [hkl])
              clear hkl
              rcases Nat.eq_zero_or_pos k with hkz | hk1
              · have d0 : decide ((0 : Int) < (k : Int)) = false := by simp; omega
                have d1 : decide (0 < k) = false := by simp; omega
                have p0 : (k : Int) ≤ 0 := by omega
                have HI := hid (show FlowI F b k from ⟨HEQ.out, fun h => absurd h.1 (by omega)⟩)
                clear hkz
                go_wp2_with fail
                refine ENDS.out.mono ?_
                rintro e w9 ⟨rfl, rfl⟩
                rw [hE]
                go_wp2_with fail
                go_round
                case rel => exact ⟨k + 1, by omega, by go_num, upto1 HK.out.1 HI.out, HK.out.2⟩
                case measure => simp [intOf]; omega
              · have d0 : decide ((0 : Int) < (k : Int)) = true := by simp; omega
                by_cases h26 : op = 26
                · have t26 : (op == 26) = true := by simp [h26]
                  obtain ⟨i, hi⟩ : ∃ i, k = i + 1 := ⟨k - 1, by omega⟩
                  obtain ⟨jb, jo, hjy, j0, _⟩ := ((HF.out.ins b lb).on HK.out.2).at (show i < (F.B b).n by omega)
                  have b5 : IntKind.i64.wrap ((k : Int) - 1) = (i : Int) := by simp only [IntKind.wrap_i64]; omega
                  have b6 : wrap64 ((k : Int) - 1) = (i : Int) := by unfold wrap64; omega
                  have b7 : (k : Int) - 1 = (i : Int) := by omega
                  have HIK := hid hi
                  have HOP2 := hid (show (F.I b k).op = 26 by rw [HOP.out]; exact h26)
                  clear hi h26
                  by_cases hp : (F.I b i).op = 26
                  · have t5 : ((F.I b i).op != 26) = false := by simp [hp]
                    have HI := hid (show FlowI F b k from ⟨HEQ.out, fun h => h.2.2 (by rw [HIK.out, Nat.add_sub_cancel]; exact hp)⟩)
                    clear hp
                    go_wp2_with fail
                    refine ENDS.out.mono ?_
                    rintro e w9 ⟨rfl, rfl⟩
                    rw [hE]
                    go_wp2_with fail
                    go_round
                    case rel => exact ⟨k + 1, by omega, by go_num, upto1 HK.out.1 HI.out, HK.out.2⟩
                    case measure => simp [intOf]; omega
                  · have t5 : ((F.I b i).op != 26) = true := by simp [hp]
                    have HN := hid (show ¬ FlowF F from fun h => ((h.1 b lb).2.1 k lk).2 ⟨hk1, HOP2.out, by rw [HIK.out, Nat.add_sub_cancel]; exact hp⟩)
                    clear hp
                    go_wp2_with fail
                    refine ENDS.out.mono ?_
                    rintro e w9 ⟨rfl, rfl⟩
                    rw [hE]
                    go_wp2_with fail
                    go_ret
                    exact NO.out _ HK.out.2 HN.out
                · have t26 : (op == 26) = false := by simp [h26]
                  have HI := hid (show FlowI F b k from ⟨HEQ.out, fun h => h26 (by rw [← HOP.out]; exact h.2.1)⟩)
                  clear h26
                  go_wp2_with fail
                  refine ENDS.out.mono ?_
                  rintro e w9 ⟨rfl, rfl⟩
                  rw [hE]
                  go_wp2_with fail
                  go_round
                  case rel => exact ⟨k + 1, by omega, by go_num, upto1 HK.out.1 HI.out, HK.out.2⟩
                  case measure => simp [intOf]; omega
        · obtain rfl : k = (F.B b).n := by omega
          clear hall hb
          have hl2 : l < (F.B b).n := by have := HL1.out; omega
          obtain ⟨ib, io, hiy, c0, c1, c2, c3, c4, c5, c6⟩ := ((HF.out.ins b lb).on HK.out.2).at hl2
          have b5 : IntKind.i64.wrap (((F.B b).n : Int) - 1) = (l : Int) := by simp only [IntKind.wrap_i64]; have := HL1.out; omega
          have b6 : wrap64 (((F.B b).n : Int) - 1) = (l : Int) := by unfold wrap64; have := HL1.out; omega
          have b7 : ((F.B b).n : Int) - 1 = (l : Int) := by have := HL1.out; omega
          have gx := HL.out.into b lb l hl2
          go_wp2_with fail
          obtain ⟨N6, hN6⟩ : ∃ N6, wr.heap.size = N6 := ⟨_, rfl⟩
          obtain ⟨W6, hW6⟩ : ∃ W6, wr.alloc (.cells (F.I b l).cells 39) = W6 := ⟨_, rfl⟩
          have X6 := hid (show W6.cell? ⟨N6, 0, none⟩ = some (.int .i64 (F.I b l).op) ∧ W6.cell? ⟨N6, 6, none⟩ = some (.slice (F.I b l).into.a (F.I b l).into.n (F.I b l).into.c) by rw [← hW6, ← hN6]; exact ⟨by simp, by simp⟩)
          have L6 := hid (show Below W.heap.size W W6 by rw [← hW6]; exact new HK.out.2 _)
          have FI := hid HK.out.1
          rw [hW6, hN6]
          clear hW6 hN6 c0 c1 c2 c3 c4 c5 c6 b5 b6 b7 hiy HK
          go_loopw [7] (fun iv wx => ∃ k : Nat, k ≤ (F.I b l).into.n ∧ iv = .int .i64 k ∧ (∀ t, t < k → 1 ≤ F.J b l t ∧ F.J b l t < F.blk.n) ∧ Below W6.heap.size W6 wx) (fun iv _ => (F.I b l).into.n - (intOf iv).toNat)
          case atStart => exact ⟨0, Nat.zero_le _, rfl, fun t ht => by omega, same _⟩
          case round =>
            obtain ⟨k, hk0, rfl, hall, hb⟩ := hrel
            have HK := hid (And.intro hall hb)
            have x0 := cell_on hb X6.out.1
            have x6 := cell_on hb X6.out.2
            obtain ⟨f0, f1, f2, f3, f4⟩ := FW.out.on (View.more L6.out hb)
            have II := ((HF.out.into b lb l hl2).on (View.more L6.out hb))
            by_cases lk : k < (F.I b l).into.n
            · obtain ⟨pb, po, hpx, hpc⟩ := II.at lk
              clear hall hb II
              by_cases h1 : F.J b l k < 1
              · have t1 : decide (F.J b l k < 1) = true := by simpa using h1
                have HN := hid (show ¬ FlowF F from fun h => by have := ((h.1 b lb).2.2.1 k (by rw [HLQ.out]; exact lk)).1; rw [HLQ.out] at this; omega)
                clear h1
                go_wp2_with fail
                go_quiet (fail)
                go_wp2_with fail
                go_ret
                exact NO.out _ (View.more L6.out (View.more HK.out.2 (below_drewN' _ _))) HN.out
              have t1 : decide (F.J b l k < 1) = false := by simpa using h1
              by_cases h2 : (F.blk.n : Int) ≤ F.J b l k
              · have t2 : decide ((F.blk.n : Int) ≤ F.J b l k) = true := by simpa using h2
                have HN := hid (show ¬ FlowF F from fun h => by have := ((h.1 b lb).2.2.1 k (by rw [HLQ.out]; exact lk)).2; rw [HLQ.out] at this; omega)
                clear h1 h2
                go_wp2_with fail
                go_quiet (fail)
                go_wp2_with fail
                go_ret
                exact NO.out _ (View.more L6.out (View.more HK.out.2 (below_drewN' _ _))) HN.out
              have t2 : decide ((F.blk.n : Int) ≤ F.J b l k) = false := by simpa using h2
              have HP := hid (show 1 ≤ F.J b l k ∧ F.J b l k < F.blk.n by omega)
              clear h1 h2
              go_wp2_with fail
              go_quiet (fail)
              go_wp2_with fail
              go_round
              case rel => exact ⟨k + 1, by omega, by go_num, upto1 HK.out.1 HP.out, View.more HK.out.2 (below_drewN' _ _)⟩
              case measure => simp [intOf]; omega
            · obtain rfl : k = (F.I b l).into.n := by omega
              clear hall hb
              have GO := hid (show ((F.I b l).op = 28 → F.J b l 0 ≠ F.J b l 1) → FlowB F b from fun h => ⟨hn1, FI.out, by unfold FlowE; rw [HLQ.out]; exact ⟨HK.out.1, h⟩⟩)
              by_cases h28 : (F.I b l).op = 28
              · have t8 : ((F.I b l).op == 28) = true := by simp [h28]
                have h2n := br_two (HFO.out.2.2 b lb l hl2) h28
                obtain ⟨pb, po, hpx, hpc⟩ := II.at (k := 0) (by omega)
                obtain ⟨qb, qo, hqx, hqc⟩ := II.at (k := 1) (by omega)
                have hpx' : ∀ wx, (Instr.indexAt 28 (.slice (F.I b l).into.a (F.I b l).into.n (F.I b l).into.c) (.int .i64 0)).run Try.prog wx = .ok (.pointer (some ⟨pb, po, none⟩)) wx := hpx
                have hqx' : ∀ wx, (Instr.indexAt 28 (.slice (F.I b l).into.a (F.I b l).into.n (F.I b l).into.c) (.int .i64 1)).run Try.prog wx = .ok (.pointer (some ⟨qb, qo, none⟩)) wx := hqx
                have H28 := hid h28
                clear h28 h2n II hpx hqx
                by_cases he : F.J b l 0 = F.J b l 1
                · have te : (F.J b l 0 == F.J b l 1) = true := by simp [he]
                  have HN := hid (show ¬ FlowF F from fun h => by have := (h.1 b lb).2.2.2; rw [HLQ.out] at this; exact this H28.out he)
                  clear he
                  go_wp2_with fail
                  go_quiet (fail)
                  go_wp2_with fail
                  go_ret
                  exact NO.out _ (View.more L6.out (View.more HK.out.2 (below_drewN' _ _))) HN.out
                · have te : (F.J b l 0 == F.J b l 1) = false := by simp [he]
                  have HBB := hid (GO.out fun _ => he)
                  clear he
                  go_wp2_with fail
                  go_quiet (fail)
                  go_wp2_with fail
                  go_round
                  case rel =>
                    have f := upto1 HA.out.1 HBB.out
                    first
                      | exact ⟨b + 1, by omega, by go_num, f, View.more L6.out (View.more HK.out.2 (below_drewN' _ _))⟩
                      | ((repeat apply Exists.intro); exact ⟨⟨b + 1, by omega, by go_num, f, View.more L6.out (View.more HK.out.2 (below_drewN' _ _))⟩, rfl⟩)
                  case measure => simp [intOf]; omega
              · have t8 : ((F.I b l).op == 28) = false := by simp [h28]
                have HBB := hid (GO.out fun h => absurd h h28)
                clear h28 II
                go_wp2_with fail
                go_quiet (fail)
                go_wp2_with fail
                go_round
                case rel =>
                  have f := upto1 HA.out.1 HBB.out
                  first
                    | exact ⟨b + 1, by omega, by go_num, f, View.more L6.out (View.more HK.out.2 (below_drewN' _ _))⟩
                    | ((repeat apply Exists.intro); exact ⟨⟨b + 1, by omega, by go_num, f, View.more L6.out (View.more HK.out.2 (below_drewN' _ _))⟩, rfl⟩)
                case measure => simp [intOf]; omega
    · obtain rfl : b = F.blk.n := by omega
      have fw := FW.out.on hb
      clear hall hb
      go_upto_region 20 with fail
      clear c0 c1 c2 c3 c4
      have st0 : Below wr.heap.size wr wr.drew := Below.drew (same _)
      have A0 : ∀ wx, Below wr.heap.size wr wx → wx.cell? ⟨w.heap.size, 0, none⟩ = some (.string F.name) := fun wx h => cell_on h fw.c0
      have A1 : ∀ wx, Below wr.heap.size wr wx → wx.cell? ⟨w.heap.size, 1, none⟩ = some (.bool F.out) := fun wx h => cell_on h fw.c1
      have A2 : ∀ wx, Below wr.heap.size wr wx → wx.cell? ⟨w.heap.size, 2, none⟩ = some (.slice F.par.a F.par.n F.par.c) := fun wx h => cell_on h fw.c2
      have A3 : ∀ wx, Below wr.heap.size wr wx → wx.cell? ⟨w.heap.size, 3, none⟩ = some (.int .i64 F.res) := fun wx h => cell_on h fw.c3
      have A4 : ∀ wx, Below wr.heap.size wr wx → wx.cell? ⟨w.heap.size, 4, none⟩ = some (.slice F.blk.a F.blk.n F.blk.c) := fun wx h => cell_on h fw.c4
      refine wp_region_noPanic ?_
      refine wp_region_held_drew (S := fun wx => Below wr.heap.size wr wx) (by kernel_rfl) st0 (fun hS => ?_)
      refine Go.Proofs.Ytbmfimojhcdnbaa.Flo.takeAt (i := 0) (d := some 112) (v := ?vv0) rfl (by rfl) (by kernel_rfl) (by kernel_rfl) (by kernel_rfl) (fun _ _ _ h => h) (Or.inl ⟨by rfl, ?yv0⟩) hS ?_
      case yv0 => intro wx hSw; (go_simp) <;> with_reducible rfl
      simp only [Act.put, List.setIfInBounds_toArray, List.set_cons_zero, List.set_cons_succ]
      refine Go.Proofs.Ytbmfimojhcdnbaa.Flo.takeAt (i := 2) (d := some 114) (v := ?vv2) rfl (by rfl) (by kernel_rfl) (by kernel_rfl) (by kernel_rfl) (fun _ _ _ h => h) (Or.inl ⟨by rfl, ?yv2⟩) hS ?_
      case yv2 => intro wx hSw; (go_simp) <;> with_reducible rfl
      simp only [Act.put, List.setIfInBounds_toArray, List.set_cons_zero, List.set_cons_succ]
      refine wpAnyH_ready (rs := [1]) (by kernel_rfl) (by simp) ?_
      refine AllReadyH.cons rfl (fun K hK => ?_) AllReadyH.nil
      go_simp
      refine (reach_ref F _ (HF.out.on (View.more HA.out.2 st0)) HL.out).mono ?_
      rintro e wp1 ⟨f, ⟨RM, rfl, hr1, hM1, hbp1⟩, hf1⟩
      have p1 : Below wr.heap.size wr wp1 := View.more st0 hbp1
      have HR1 := hid (And.intro hr1 hf1)
      clear hr1 hM1 hbp1 hf1
      go_wp2_with fail
      refine hK.out _ _ p1 (fun _ => ?_)
      clear hK K
      replace hS := p1
      try simp only [Act.put, List.setIfInBounds_toArray, List.set_cons_zero, List.set_cons_succ]
      refine wpAnyH_ready (rs := [3]) (by kernel_rfl) (by simp) ?_
      refine AllReadyH.cons rfl (fun K hK => ?_) AllReadyH.nil
      go_simp
      refine (prev_ref F _ (HF.out.on (View.more HA.out.2 p1)) HL.out).mono ?_
      rintro e wp2 ⟨PM, R, rfl, hpv, hM2, hbp2⟩
      have p2 : Below wr.heap.size wr wp2 := View.more p1 hbp2
      have HR2 := hid (And.intro hpv (HR1.out.1.of_block (hbp2.block _ HR1.out.1.lt)))
      clear hpv hM2 hbp2
      go_wp2_with fail
      refine hK.out _ _ p2 (fun _ => ?_)
      clear hK K
      replace hS := p2
      try simp only [Act.put, List.setIfInBounds_toArray, List.set_cons_zero, List.set_cons_succ]
      refine Go.Proofs.Ytbmfimojhcdnbaa.Flo.takeAt (i := 4) (d := some 8) (v := ?vv4) rfl (by rfl) (by kernel_rfl) (by kernel_rfl) (by kernel_rfl) (fun _ _ _ h => h) (Or.inl ⟨by rfl, ?yv4⟩) hS ?_
      case yv4 => intro wx hSw; (go_simp) <;> with_reducible rfl
      simp only [Act.put, List.setIfInBounds_toArray, List.set_cons_zero, List.set_cons_succ]
      refine Go.Proofs.Ytbmfimojhcdnbaa.Flo.takeAt (i := 5) (d := some 9) (v := ?vv5) rfl (by rfl) (by kernel_rfl) (by kernel_rfl) (by kernel_rfl) (fun _ _ _ h => h) (Or.inl ⟨by rfl, ?yv5⟩) hS ?_
      case yv5 => intro wx hSw; (go_simp) <;> with_reducible rfl
      simp only [Act.put, List.setIfInBounds_toArray, List.set_cons_zero, List.set_cons_succ]
      refine wpAnyH_done (by kernel_rfl) ?_ _
      refine NoPanic.normal ?_
      have ST := hid (View.more HA.out.2 p2)
      have HB0 := hid HA.out.1
      have HFB := hid (show ∀ i, i < F.blk.n → (f i = true ↔ Go.Proofs.Ytbmfimojhcdnbaa.Flo.Way (su F) 0 i) from fun i hi => by
        rw [HR1.out.2 i hi, suL_neg (show (-1 : Int) < 0 by decide)]
        exact ⟨fun h => h.2.2, fun h => ⟨by unfold isB; simp; omega, by decide, h⟩⟩)
      clear hS st0 p1 p2 A0 A1 A2 A3 A4 fw HR1
      go_wp2_with fail
      go_loopw [10] (fun iv wx => ∃ b : Nat, b ≤ F.blk.n ∧ iv = .int .i64 b ∧ (∀ t, t < b → FlowR F t) ∧ Below wp2.heap.size wp2 wx) (fun iv _ => F.blk.n - (intOf iv).toNat)
      case atStart => exact ⟨0, Nat.zero_le _, rfl, fun t ht => by omega, same _⟩
      case round =>
        obtain ⟨b, hb0, rfl, hall, hb⟩ := hrel
        have HC := hid (And.intro hall hb)
        obtain ⟨c0, c1, c2, c3, c4⟩ := FW.out.on (View.more ST.out hb)
        by_cases lb : b < F.blk.n
        · obtain ⟨rb, ro, hrx, hrc0⟩ := HF.out.blk.at lb
          have hrc := cell_on (View.more ST.out hb) hrc0
          have hrb := cell_on hb (HR2.out.2.cell lb)
          have hba := bool_at (g := RM) lb
          have gi := HL.out.ins b lb
          clear hall hb hrc0
          cases hfb : f b with
          | false =>
            rw [hfb] at hrb
            have HN := hid (show ¬ FlowF F from fun h => by have := (HFB.out b lb).2 (h.2 b lb).1; rw [hfb] at this; cases this)
            clear hfb
            go_wp2_with fail
            go_ret
            exact NO.out _ (View.more ST.out HC.out.2) HN.out
          | true =>
            rw [hfb] at hrb
            have HWY := hid ((HFB.out b lb).1 hfb)
            clear hfb
            go_wp2_with fail
            clear c0 c1 c2 c3 c4 hrc hrb hba
            go_loopw [12] (fun iv wx => ∃ k : Nat, k ≤ (F.B b).n ∧ iv = .int .i64 k ∧ (∀ t, t < k → FlowP F b t) ∧ Below wp2.heap.size wp2 wx) (fun iv _ => (F.B b).n - (intOf iv).toNat)
            case atStart => exact ⟨0, Nat.zero_le _, rfl, fun t ht => by omega, HC.out.2⟩
            case round =>
              obtain ⟨k, hk0, rfl, hall, hb⟩ := hrel
              have HK := hid (And.intro hall hb)
              by_cases lk : k < (F.B b).n
              · obtain ⟨ib, io, hiy, c0, c1, c2, c3, c4, c5, c6⟩ := ((HF.out.ins b lb).on (View.more ST.out hb)).at lk
                have hpc := cell_on hb (HR2.out.1.row.cell lb)
                have hpx := prevs_at (g := PM) lb
                have hPL := pvL_le F F.blk.n b
                obtain ⟨hPI, hPN⟩ := HR2.out.1.ints lb (by omega)
                have IPV := hid (hPI.on hb)
                have IIN := hid ((HF.out.into b lb k lk).on (View.more ST.out hb))
                have NPV := hid hPN
                have g20 := HL.out.into b lb k lk
                clear hall hb hPI hPN hPL
                by_cases h26 : (F.I b k).op = 26
                · have t26 : ((F.I b k).op == 26) = true := by simp [h26]
                  have H26 := hid h26
                  clear h26
                  by_cases hz : b = 0
                  · have tz : ((b : Int) == 0) = true := by simp [hz]
                    have HN := hid (show ¬ FlowF F from fun h => ((h.2 b lb).2 k lk H26.out).1 hz)
                    clear hz
                    go_wp2_with fail
                    go_quiet (fail)
                    go_wp2_with fail
                    go_ret
                    exact NO.out _ (View.more ST.out (View.more HK.out.2 (below_drewN' _ _))) HN.out
                  · have tz : ((b : Int) == 0) = false := by simp [hz]
                    have HZ := hid hz
                    clear hz
                    by_cases hq : Eqs (F.I b k).into (R b) (F.J b k) (fun i => (((pvL F F.blk.n b).getD i 0 : Nat) : Int))
                    · have HQ := hid hq
                      have HP := hid (show FlowP F b k from fun _ => ⟨HZ.out, by rw [hq.1]; exact NPV.out, hq.2⟩)
                      clear hq
                      go_wp2_with fail
                      go_quiet (first | (go_at_call 21; refine Calls.quiet_of (ints_yes (F.I b k).into (R b) (F.J b k) _ _ (IIN.out.on (below_drewN' _ _)) (IPV.out.on (below_drewN' _ _)) (by omega) HQ.out)))
                      go_wp2_with fail
                      go_round
                      case rel => exact ⟨k + 1, by omega, by go_num, upto1 HK.out.1 HP.out, View.more HK.out.2 (below_drewN' _ _)⟩
                      case measure => simp [intOf]; omega
                    · have HQ := hid hq
                      have HN := hid (show ¬ FlowF F from fun h => hq (by have := (h.2 b lb).2 k lk H26.out; exact ⟨by rw [this.2.1]; exact NPV.out.symm, this.2.2⟩))
                      clear hq
                      go_wp2_with fail
                      go_quiet (first | (go_at_call 21; refine Calls.quiet_of (ints_no (F.I b k).into (R b) (F.J b k) _ _ (IIN.out.on (below_drewN' _ _)) (IPV.out.on (below_drewN' _ _)) (by omega) HQ.out)))
                      go_wp2_with fail
                      go_ret
                      exact NO.out _ (View.more ST.out (View.more HK.out.2 (below_drewN' _ _))) HN.out
                · have t26 : ((F.I b k).op == 26) = false := by simp [h26]
                  have HP := hid (show FlowP F b k from fun h => absurd h h26)
                  clear h26
                  go_wp2_with fail
                  go_quiet (fail)
                  go_wp2_with fail
                  go_round
                  case rel => exact ⟨k + 1, by omega, by go_num, upto1 HK.out.1 HP.out, View.more HK.out.2 (below_drewN' _ _)⟩
                  case measure => simp [intOf]; omega
              · obtain rfl : k = (F.B b).n := by omega
                clear hall hb
                go_wp2_with fail
                go_round
                case rel =>
                  have g := upto1 HC.out.1 (show FlowR F b from ⟨HWY.out, HK.out.1⟩)
                  first
                    | exact ⟨b + 1, by omega, by go_num, g, HK.out.2⟩
                    | ((repeat apply Exists.intro); exact ⟨⟨b + 1, by omega, by go_num, g, HK.out.2⟩, rfl⟩)
                case measure => simp [intOf]; omega
        · obtain rfl : b = F.blk.n := by omega
          clear hall hb
          go_wp2_with fail
          go_ret
          exact ⟨true, rfl, by simp; exact ⟨HB0.out, HC.out.1⟩, View.more LW.out (View.more ST.out HC.out.2)⟩

end Go.Proofs.Ytbmfimojhcdnbaa.Chk

/-
  What is over what, by the document: plnref3.Doms.
-/
namespace Go.Proofs.Ytbmfimojhcdnbaa.Flo
open Go.RowKit View Rd Copy Num Ty Srt

set_option linter.unusedVariables false

/-- Block a is over block b. -/
def DomR (F : FV) (a b : Nat) : Prop := Way (su F) 0 a ∧ Way (su F) 0 b ∧ (a = b ∨ ¬ (a ≠ 0 ∧ Way (suL F a) 0 b))

theorem underlying97 : Try.prog.underlying 97 = some (.slice 45) := by kernel_rfl
theorem info45 : (Try.prog.info? 45).map (fun i => (i.zero, i.size, i.bytes)) = some (some (.slice none 0 0), 1, 24) := by kernel_rfl
theorem size45 : (Try.prog.info? 45).map (fun i => i.size) = some 1 := by kernel_rfl

theorem rows_at {g n x : Nat} (hx : x < n) : ∀ wx, (Instr.indexAt 97 (.slice (some ⟨g, 0, none⟩) n n) (.int .i64 x)).run Try.prog wx = .ok (.pointer (some ⟨g, x, none⟩)) wx := by
  have := index_row (s := ⟨some ⟨g, 0, none⟩, n, n⟩) rfl underlying97 size45 hx
  simpa using this

/-- A square of answers: its rows below a are there. -/
structure Sq (w : World) (O lo n a : Nat) (R : Nat → Nat) (D : Nat → Nat → Bool) : Prop where
  row : w.rowIs O 45 n (fun i => if i < a then .slice (some ⟨R i, 0, none⟩) n n else .slice none 0 0)
  rows : ∀ i, i < a → w.rowIs (R i) 4 n (fun b => .bool (D i b))
  ge : ∀ i, i < a → lo ≤ R i
  inj : ∀ i j, i < a → j < a → R i = R j → i = j

theorem Sq.keep {w w' : World} {O lo n a : Nat} {R : Nat → Nat} {D : Nat → Nat → Bool} (h : Sq w O lo n a R D) (hb : ∀ b, (b = O ∨ ∃ i, i < a ∧ b = R i) → w'.heap[b]? = w.heap[b]?) : Sq w' O lo n a R D :=
  ⟨h.row.of_block (hb O (.inl rfl)), fun i hi => (h.rows i hi).of_block (hb _ (.inr ⟨i, hi, rfl⟩)), h.ge, h.inj⟩

theorem Sq.on {w w' : World} {O lo n a : Nat} {R : Nat → Nat} {D : Nat → Nat → Bool} (h : Sq w O lo n a R D) (hb : Below w.heap.size w w') : Sq w' O lo n a R D :=
  h.keep (fun b hbb => by
    rcases hbb with rfl | ⟨i, hi, rfl⟩
    · exact hb.block _ h.row.lt
    · exact hb.block _ (h.rows i hi).lt)

theorem Sq.off {w : World} {O lo n a : Nat} {R : Nat → Nat} {D : Nat → Nat → Bool} (h : Sq w O lo n a R D) {i : Nat} (hi : i < a) : R i ≠ O := by
  intro eq
  have q1 := h.rows i hi
  have q2 := h.row
  rw [eq] at q1
  obtain ⟨c1, e1, _⟩ := q1
  obtain ⟨c2, e2, _⟩ := q2
  rw [e1] at e2
  simp at e2

/-- One row more is laid. -/
theorem Sq.more {w : World} {O lo n a : Nat} {R : Nat → Nat} {D : Nat → Nat → Bool} (h : Sq w O lo n a R D) (ha : a < n) (hlo : lo ≤ w.heap.size) (hO : O < w.heap.size) :
    Sq ((w.alloc (.cells (madeCells #[.bool false] n) 4)).setCell ⟨O, a, none⟩ (.slice (some ⟨w.heap.size, 0, none⟩) n n)) O lo n (a + 1) (fun i => if i = a then w.heap.size else R i) (fun i => if i = a then fun _ => false else D i) := by
  have h1 := h.on (new (same w) (.cells (madeCells #[.bool false] n) 4))
  refine ⟨(h1.row.set a _).congr (fun i hi => ?_), fun i hi => ?_, fun i hi => ?_, fun i j hi hj e => ?_⟩
  · by_cases e : i = a
    · subst e; simp
    · rw [if_neg e]
      by_cases e2 : i < a
      · rw [if_pos e2, if_pos (by omega)]; simp [e]
      · rw [if_neg e2, if_neg (by omega)]
  · by_cases e : i = a
    · subst e
      simp only [if_true]
      exact (World.rowIs_made w (.bool false) n 4).of_block (Below.heap_setCell _ _ _ _ (by show w.heap.size ≠ O; omega))
    · simp only [if_neg e]
      have hi' : i < a := by omega
      exact (h1.rows i hi').of_block (Below.heap_setCell _ _ _ _ (h.off hi'))
  · by_cases e : i = a
    · simp only [e, if_true]; exact hlo
    · simp only [if_neg e]; exact h.ge i (by omega)
  · by_cases e1 : i = a
    · by_cases e2 : j = a
      · rw [e1, e2]
      · simp only [e1, if_true, if_neg e2] at e
        have := (h.rows j (by omega)).lt
        omega
    · by_cases e2 : j = a
      · simp only [e2, if_true, if_neg e1] at e
        have := (h.rows i (by omega)).lt
        omega
      · simp only [if_neg e1, if_neg e2] at e
        exact h.inj i j (by omega) (by omega) e

theorem Sq.set {w : World} {O lo n a : Nat} {R : Nat → Nat} {D : Nat → Nat → Bool} (h : Sq w O lo n a R D) {i b : Nat} (hi : i < a) (v : Bool) :
    Sq (w.setCell ⟨R i, b, none⟩ (.bool v)) O lo n a R (fun j => if j = i then fun c => if c = b then v else D i c else D j) := by
  refine ⟨h.row.of_block (Below.heap_setCell _ _ _ _ (fun e => h.off hi e.symm)), fun j hj => ?_, h.ge, h.inj⟩
  by_cases e : j = i
  · subst e
    simp only [if_true]
    exact ((h.rows j hj).set b (.bool v)).congr (fun c _ => by split <;> rfl)
  · simp only [if_neg e]
    exact (h.rows j hj).of_block (Below.heap_setCell _ _ _ _ (fun eq => e (h.inj j i hj hi eq)))

def DomsIs (F : FV) (w : World) (e : Ending) (w' : World) : Prop :=
  ∃ (O : Nat) (R : Nat → Nat) (D : Nat → Nat → Bool), e = .returned (.slice (some ⟨O, 0, none⟩) F.blk.n F.blk.n) ∧ Sq w' O w.heap.size F.blk.n F.blk.n R D ∧ (∀ a, a < F.blk.n → ∀ b, b < F.blk.n → (D a b = true ↔ DomR F a b)) ∧ Below w.heap.size w w'

theorem dom_cases {F : FV} {a b : Nat} {fb ga : Bool} {g : Bool} (ha : Way (su F) 0 a) (hf : fb = true ↔ Way (su F) 0 b) (hg : g = true ↔ a ≠ 0 ∧ Way (suL F a) 0 b) : (fb && (decide (a = b) || !g)) = true ↔ DomR F a b := by
  unfold DomR
  rw [← hf, ← hg]
  cases fb <;> cases g <;> simp [ha]

set_option maxRecDepth 10000 in
set_option maxHeartbeats 4000000 in
theorem doms_ref (F : FV) (w : World) (hF : In w F) (hl : Light F) : Calls Try.prog 71 #[F.val] w fun e w' => DomsIs F w e w' := by
  have HF := hid hF
  have HL := hid hl
  have gb := hl.blk
  have hmk := run_make_row' (P := Try.prog) 97 45 (.slice none 0 0) 24 underlying97 info45 rfl .i64 .i64 F.blk.n (by omega) (by omega)
  have hmk2 := run_make_row' (P := Try.prog) 45 4 (.bool false) 1 underlying45 info4 rfl .i64 .i64 F.blk.n (by omega) (by omega)
  have HK2 := hid hmk2
  clear hF hl hmk2
  go_enter Try.func71, Try.ntmps71
  go_wp2_with fail
  clear hmk
  obtain ⟨w1, hw1⟩ : ∃ w1, (w.alloc (.cells (fcells F) 33)).alloc (.cells (madeCells #[.slice none 0 0] F.blk.n) 45) = w1 := ⟨_, rfl⟩
  have b1 : Below w.heap.size w w1 := by rw [← hw1]; exact new (new (same w) _) _
  have f1 : FuncAt w1 w.heap.size F := by rw [← hw1]; exact (FuncAt.alloc w F).on (new (same _) _)
  have r1 : w1.rowIs (w.heap.size + 1) 45 F.blk.n (fun _ => .slice none 0 0) := by
    rw [← hw1]
    have := World.rowIs_made (w.alloc (.cells (fcells F) 33)) (.slice none 0 0) F.blk.n 45
    simpa using this
  have z1 : w1.heap.size = w.heap.size + 2 := by rw [← hw1]; simp
  have HB1 := hid b1
  have HF1 := hid f1
  have HR1 := hid r1
  have Z1 := hid z1
  rw [hw1]
  clear hw1 b1 f1 r1 z1
  obtain ⟨O, hO⟩ : ∃ O, w.heap.size + 1 = O := ⟨_, rfl⟩
  rw [hO] at HR1 ⊢
  have HO := hid hO
  clear hO
  refine (reach_ref F _ (HF.out.on HB1.out) HL.out).mono ?_
  rintro e w2 ⟨f, ⟨RM, rfl, hr2, hM2, hb2⟩, hf2⟩
  have HFB := hid (show ∀ i, i < F.blk.n → (f i = true ↔ Way (su F) 0 i) from fun i hi => by
    rw [hf2 i hi, suL_neg (show (-1 : Int) < 0 by decide)]
    exact ⟨fun h => h.2.2, fun h => ⟨by unfold isB; simp; omega, by decide, h⟩⟩)
  have ST := hid (show Sq w2 O w.heap.size F.blk.n 0 (fun _ => 0) (fun _ _ => false) from ⟨(HR1.out.of_block (hb2.block _ HR1.out.lt)).congr (fun i _ => by simp), fun i hi => by omega, fun i hi => by omega, fun i j hi => by omega⟩)
  have HR2 := hid (And.intro hr2 (And.intro (HF1.out.on hb2) (View.more HB1.out hb2)))
  have hRM : w1.heap.size ≤ RM := hM2
  have HRM := hid (show O < RM by have := HO.out; have := Z1.out; omega)
  clear hr2 hM2 hb2 hf2 hRM HF1 HR1
  go_wp2_with fail
  go_loopw [5] (fun i wr => ∃ a : Nat, a ≤ F.blk.n ∧ i = .int .i64 a ∧ ∃ R D, Sq wr O w.heap.size F.blk.n a R D ∧ (∀ i, i < a → RM < R i) ∧ (∀ i, i < a → ∀ b, b < F.blk.n → (D i b = true ↔ DomR F i b)) ∧ wr.rowIs RM 4 F.blk.n (fun i => .bool (f i)) ∧ FuncAt wr w.heap.size F ∧ Below w.heap.size w wr) (fun i _ => F.blk.n - (intOf i).toNat)
  case atStart => exact ⟨0, Nat.zero_le _, rfl, _, _, ST.out, fun i hi => by omega, fun i hi => by omega, HR2.out.1, HR2.out.2.1, HR2.out.2.2⟩
  case round =>
    clear ST HR2
    obtain ⟨a, ha, rfl, R, D, hsq, hRR, hD, hr, hf, hb⟩ := hrel
    have HS := hid (And.intro hsq (And.intro hRR (And.intro hD (And.intro hr (And.intro hf hb)))))
    by_cases hlt : a < F.blk.n
    · have hat := rows_at (g := O) hlt
      have hoc := hsq.row.cell hlt
      have hof := hsq.row.frozen a
      have hOl := hsq.row.lt
      have hrl := hr.lt
      have hmk2 := HK2.out
      have hne : O ≠ wr.heap.size := by omega
      clear hsq hRR hD hr hf hb
      -- the world with one row more
      obtain ⟨w3, hw3⟩ : ∃ w3, (wr.alloc (.cells (madeCells #[.bool false] F.blk.n) 4)).setCell ⟨O, a, none⟩ (.slice (some ⟨wr.heap.size, 0, none⟩) F.blk.n F.blk.n) = w3 := ⟨_, rfl⟩
      go_upto_region 7 with fail
      have sq3 := HS.out.1.more hlt (by have := HS.out.2.2.2.2.2.size; omega) hOl
      have b3 : Below w.heap.size w w3 := by rw [← hw3]; exact (new HS.out.2.2.2.2.2 _).setCell (by show _ ≤ O; have := HO.out; omega) _
      have k3 : ∀ b, b ≠ O → b < wr.heap.size → w3.heap[b]? = wr.heap[b]? := fun b h1 h2 => by rw [← hw3, Below.heap_setCell _ _ _ _ h1, Below.heap_alloc _ _ _ h2]
      have r3 : w3.rowIs RM 4 F.blk.n (fun i => .bool (f i)) := HS.out.2.2.2.1.of_block (k3 RM (by have := HRM.out; omega) hrl)
      have f3 : FuncAt w3 w.heap.size F := HS.out.2.2.2.2.1.kept (p := fun b => b = w.heap.size) ⟨by rw [← hw3]; simp, fun b hb => by subst hb; exact k3 _ (by have := HO.out; omega) (by have := HO.out; omega)⟩ rfl
      have z3 : w3.heap.size = wr.heap.size + 1 := by rw [← hw3]; simp
      rw [hw3] at sq3
      obtain ⟨R3, hR3⟩ : ∃ R3 : Nat → Nat, (fun i => if i = a then wr.heap.size else R i) = R3 := ⟨_, rfl⟩
      obtain ⟨D3, hD3⟩ : ∃ D3 : Nat → Nat → Bool, (fun i => if i = a then fun _ => false else D i) = D3 := ⟨_, rfl⟩
      rw [hR3, hD3] at sq3
      have RA := hid (show R3 a = wr.heap.size by rw [← hR3]; simp)
      have RL := hid (show ∀ i, i < a + 1 → RM < R3 i from fun i hi => by
        rw [← hR3]
        by_cases e : i = a
        · simp only [e, if_true]; exact hrl
        · simp only [if_neg e]; exact HS.out.2.1 i (by omega))
      have DA := hid (show D3 a = fun _ => false by rw [← hD3]; simp)
      have DL := hid (show ∀ i, i < a → D3 i = D i from fun i hi => by rw [← hD3]; simp only [if_neg (show i ≠ a by omega)])
      have H3 := hid (And.intro sq3 (And.intro r3 (And.intro f3 b3)))
      have Z3 := hid z3
      have hra := r3.cell hlt
      have hba := bool_at (g := RM) hlt
      clear hw3 sq3 b3 k3 r3 f3 z3 hR3 hD3 hat hoc hof hOl hrl hmk2 hne
      by_cases hfa : f a = true
      · rw [hfa] at hra
        obtain ⟨c0, c1, c2, c3, c4⟩ := H3.out.2.2.1
        have FA := hid hfa
        clear hfa
        go_wp2_with fail
        refine (from_ref F 0 a _ (HF.out.on H3.out.2.2.2) HL.out).mono ?_
        rintro e w4 ⟨g, ⟨WB, rfl, hg4, hW4, hb4⟩, hg⟩
        have GW := hid (show ∀ i, i < F.blk.n → (g i = true ↔ a ≠ 0 ∧ Way (suL F a) 0 i) from fun i hi => by
          rw [hg i hi]
          exact ⟨fun h => ⟨by have := h.2.1; omega, h.2.2⟩, fun h => ⟨by unfold isB; simp; omega, by have := h.1; omega, h.2⟩⟩)
        have H4 := hid (And.intro (H3.out.1.on hb4) (And.intro (H3.out.2.1.of_block (hb4.block _ H3.out.2.1.lt)) (And.intro hg4 (And.intro (H3.out.2.2.1.on hb4) (View.more H3.out.2.2.2 hb4)))))
        have HWB := hid (show R3 a < WB by have := RA.out; have := Z3.out; have : w3.heap.size ≤ WB := hW4; omega)
        have hRM2 := HRM.out
        have hwO := HO.out
        clear hg4 hW4 hb4 hg c0 c1 c2 c3 c4 hra hba
        go_wp2_with fail
        obtain ⟨RA', hRA'⟩ : ∃ RA', R3 a = RA' := ⟨_, rfl⟩
        have hra1 : RM < RA' := by rw [← hRA']; exact RL.out a (by omega)
        have hra2 : RA' < WB := by rw [← hRA']; exact HWB.out
        have HRA := hid hRA'
        clear hRA' hwO
        go_loopw [7] (fun i wx => ∃ b : Nat, b ≤ F.blk.n ∧ i = .int .i64 b ∧ ∃ D4, Sq wx O w.heap.size F.blk.n (a + 1) R3 D4 ∧ (∀ i, i < a → D4 i = D3 i) ∧ (∀ c, c < b → (D4 a c = true ↔ DomR F a c)) ∧ wx.rowIs RM 4 F.blk.n (fun i => .bool (f i)) ∧ wx.rowIs WB 4 F.blk.n (fun i => .bool (g i)) ∧ FuncAt wx w.heap.size F ∧ Below w.heap.size w wx) (fun i _ => F.blk.n - (intOf i).toNat)
        case atStart => exact ⟨0, Nat.zero_le _, rfl, D3, H4.out.1, fun _ _ => rfl, fun c hc => by omega, H4.out.2.1, H4.out.2.2.1, H4.out.2.2.2.1, H4.out.2.2.2.2⟩
        case round =>
          clear H4
          obtain ⟨b, hbn, rfl, D4, hsq, hDL, hDA, hr, hg, hf, hb⟩ := hrel
          have H5 := hid (And.intro hsq (And.intro hDL (And.intro hDA (And.intro hr (And.intro hg (And.intro hf hb))))))
          by_cases hbl : b < F.blk.n
          · have i1 := rows_at (g := O) hlt
            have i2 := bool_at (g := RM) hbl
            have i3 := bool_at (g := WB) hbl
            have i4 := bool_at (g := RA') hbl
            have k1 : wr.cell? ⟨O, a, none⟩ = some (.slice (some ⟨RA', 0, none⟩) F.blk.n F.blk.n) := by
              have := hsq.row.cell hlt
              rw [if_pos (by omega), HRA.out] at this
              exact this
            have k2 := hr.cell hbl
            have k3 := hg.cell hbl
            have k4 : wr.cell? ⟨RA', b, none⟩ = some (.bool (D4 a b)) := by
              have := (hsq.rows a (by omega)).cell hbl
              rw [HRA.out] at this
              exact this
            have k5 : wr.frozen? ⟨RA', b, none⟩ = false := by
              have := (hsq.rows a (by omega)).frozen b
              rw [HRA.out] at this
              exact this
            have fin : Hid (∀ v : Bool, (v = true ↔ DomR F a b) → ∃ D5, Sq (wr.setCell ⟨RA', b, none⟩ (.bool v)) O w.heap.size F.blk.n (a + 1) R3 D5 ∧ (∀ i, i < a → D5 i = D3 i) ∧ (∀ c, c < b + 1 → (D5 a c = true ↔ DomR F a c)) ∧ (wr.setCell ⟨RA', b, none⟩ (.bool v)).rowIs RM 4 F.blk.n (fun i => .bool (f i)) ∧ (wr.setCell ⟨RA', b, none⟩ (.bool v)).rowIs WB 4 F.blk.n (fun i => .bool (g i)) ∧ FuncAt (wr.setCell ⟨RA', b, none⟩ (.bool v)) w.heap.size F ∧ Below w.heap.size w (wr.setCell ⟨RA', b, none⟩ (.bool v))) := fun v hv => by
              have q := H5.out.1.set (i := a) (b := b) (by omega) v
              rw [HRA.out] at q
              refine ⟨_, q, fun i hi => ?_, fun c hc => ?_, H5.out.2.2.2.1.setOther (by show RM ≠ RA'; omega) _, H5.out.2.2.2.2.1.setOther (by show WB ≠ RA'; omega) _, H5.out.2.2.2.2.2.1.kept ((Kept.refl (fun b => b ≠ RA') wr).setCell (fun h => h rfl) _) (by show w.heap.size ≠ RA'; have := HO.out; omega), H5.out.2.2.2.2.2.2.setCell (by show _ ≤ RA'; have := HO.out; omega) _⟩
              · simp only [if_neg (show i ≠ a by omega)]; exact H5.out.2.1 i hi
              · simp only [if_true]
                by_cases e : c = b
                · subst e; simp only [if_true]; exact hv
                · simp only [if_neg e]; exact H5.out.2.2.1 c (by omega)
            have hdc := hid (dom_cases (F := F) (a := a) (b := b) (fb := f b) (ga := true) (g := g b) ((HFB.out a hlt).1 FA.out) (HFB.out b hbl) (GW.out b hbl))
            clear hsq hDL hDA hr hg hf hb
            cases hfb : f b with
            | false =>
              rw [hfb] at k2 hdc
              go_wp2_with fail
              go_region
              go_wp2_with fail
              obtain ⟨D5, h5⟩ := fin.out false (by simpa using hdc.out)
              go_round
              case rel => exact ⟨b + 1, by omega, by go_num, D5, h5.1.on (Below.drew (same _)), h5.2.1, h5.2.2.1, h5.2.2.2.1.drew, h5.2.2.2.2.1.drew, h5.2.2.2.2.2.1.on (Below.drew (same _)), Below.drew h5.2.2.2.2.2.2⟩
              case measure => simp [intOf]; omega
            | true =>
              rw [hfb] at k2 hdc
              by_cases hab : a = b
              · have t1 : ((a : Int) == (b : Int)) = true := by simp [hab]
                have HV := hid (show DomR F a b by have := hdc.out; simpa [hab] using this)
                clear hab
                go_wp2_with fail
                go_region
                go_wp2_with fail
                obtain ⟨D5, h5⟩ := fin.out true ⟨fun _ => HV.out, fun _ => rfl⟩
                go_round
                case rel => exact ⟨b + 1, by omega, by go_num, D5, h5.1.on (Below.drew (same _)), h5.2.1, h5.2.2.1, h5.2.2.2.1.drew, h5.2.2.2.2.1.drew, h5.2.2.2.2.2.1.on (Below.drew (same _)), Below.drew h5.2.2.2.2.2.2⟩
                case measure => simp [intOf]; omega
              · have t1 : ((a : Int) == (b : Int)) = false := by simp; omega
                cases hgb : g b with
                | false =>
                  rw [hgb] at k3 hdc
                  have HV := hid (show DomR F a b by have := hdc.out; simpa [hab] using this)
                  clear hab
                  go_wp2_with fail
                  go_region
                  go_wp2_with fail
                  obtain ⟨D5, h5⟩ := fin.out true ⟨fun _ => HV.out, fun _ => rfl⟩
                  go_round
                  case rel => exact ⟨b + 1, by omega, by go_num, D5, h5.1.on (Below.drew (same _)), h5.2.1, h5.2.2.1, h5.2.2.2.1.drew, h5.2.2.2.2.1.drew, h5.2.2.2.2.2.1.on (Below.drew (same _)), Below.drew h5.2.2.2.2.2.2⟩
                  case measure => simp [intOf]; omega
                | true =>
                  rw [hgb] at k3 hdc
                  have HV := hid (show ¬ DomR F a b by have := hdc.out; simpa [hab] using this)
                  clear hab
                  go_wp2_with fail
                  go_region
                  go_wp2_with fail
                  obtain ⟨D5, h5⟩ := fin.out false ⟨fun h => (by cases h), fun h => absurd h HV.out⟩
                  go_round
                  case rel => exact ⟨b + 1, by omega, by go_num, D5, h5.1.on (Below.drew (same _)), h5.2.1, h5.2.2.1, h5.2.2.2.1.drew, h5.2.2.2.2.1.drew, h5.2.2.2.2.2.1.on (Below.drew (same _)), Below.drew h5.2.2.2.2.2.2⟩
                  case measure => simp [intOf]; omega
          · obtain rfl : b = F.blk.n := by omega
            clear hsq hDL hDA hr hg hf hb
            go_wp2_with fail
            have FIN := hid (show ∃ R D, Sq wr O w.heap.size F.blk.n (a + 1) R D ∧ (∀ i, i < a + 1 → RM < R i) ∧ (∀ i, i < a + 1 → ∀ b, b < F.blk.n → (D i b = true ↔ DomR F i b)) ∧ wr.rowIs RM 4 F.blk.n (fun i => .bool (f i)) ∧ FuncAt wr w.heap.size F ∧ Below w.heap.size w wr from ⟨R3, D4, H5.out.1, RL.out, fun i hi c hc => by
              by_cases e : i = a
              · subst e; exact H5.out.2.2.1 c hc
              · rw [H5.out.2.1 i (by omega), DL.out i (by omega)]; exact HS.out.2.2.1 i (by omega) c hc, H5.out.2.2.2.1, H5.out.2.2.2.2.2.1, H5.out.2.2.2.2.2.2⟩)
            go_round
            case rel =>
              first
                | exact ⟨a + 1, by omega, by go_num, FIN.out⟩
                | ((repeat apply Exists.intro); exact ⟨⟨a + 1, by omega, by go_num, FIN.out⟩, rfl⟩)
            case measure => simp [intOf]; omega
      · have hfa' : f a = false := by simpa using hfa
        rw [hfa'] at hra
        have FIN := hid (show ∃ R D, Sq w3 O w.heap.size F.blk.n (a + 1) R D ∧ (∀ i, i < a + 1 → RM < R i) ∧ (∀ i, i < a + 1 → ∀ b, b < F.blk.n → (D i b = true ↔ DomR F i b)) ∧ w3.rowIs RM 4 F.blk.n (fun i => .bool (f i)) ∧ FuncAt w3 w.heap.size F ∧ Below w.heap.size w w3 from ⟨R3, D3, H3.out.1, RL.out, fun i hi c hc => by
          by_cases e : i = a
          · subst e
            rw [DA.out]
            simp only [Bool.false_eq_true, false_iff]
            intro h
            exact hfa ((HFB.out i hlt).2 h.1)
          · rw [DL.out i (by omega)]; exact HS.out.2.2.1 i (by omega) c hc, H3.out.2.1, H3.out.2.2.1, H3.out.2.2.2⟩)
        clear hfa hfa'
        go_wp2_with fail
        go_round
        case rel =>
          first
            | exact ⟨a + 1, by omega, by go_num, FIN.out⟩
            | ((repeat apply Exists.intro); exact ⟨⟨a + 1, by omega, by go_num, FIN.out⟩, rfl⟩)
        case measure => simp [intOf]; omega
    · obtain rfl : a = F.blk.n := by omega
      clear hsq hRR hD hr hf hb
      go_wp2_with fail
      go_ret
      exact ⟨O, R, D, rfl, HS.out.1, HS.out.2.2.1, HS.out.2.2.2.2.2⟩

end Go.Proofs.Ytbmfimojhcdnbaa.Flo
