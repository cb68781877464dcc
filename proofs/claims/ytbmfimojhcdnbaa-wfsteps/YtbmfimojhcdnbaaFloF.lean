/-
  What an order says: in plain words; flow.Reach, flow.Loops, plnref3.In.
-/
import Derived.Test.YtbmfimojhcdnbaaFloD
namespace Go.Proofs.Ytbmfimojhcdnbaa.Flo
open Go.RowKit View Rd Copy Num Ty Srt

set_option linter.unusedVariables false

theorem length_le_of_lt : ∀ (n : Nat) (l : List Nat), l.Nodup → (∀ x ∈ l, x < n) → l.length ≤ n
  | 0, l, _, h => by
    cases l with
    | nil => simp
    | cons a l => exact absurd (h a (by simp)) (by omega)
  | n + 1, l, hd, h => by
    have h1 := length_le_of_lt n (l.erase n) (hd.erase n) (fun x hx => by
      have h2 := (List.Nodup.mem_erase_iff hd).1 hx
      have := h x h2.2
      have := h2.1
      omega)
    by_cases hm : n ∈ l
    · rw [List.length_erase_of_mem hm] at h1; omega
    · rw [List.erase_of_not_mem hm] at h1; omega

/-- What an order says. -/
structure Ord (F : FV) (L : List Nat) : Prop where
  nd : L.Nodup
  lt : ∀ x ∈ L, x < F.blk.n
  zero : 0 < F.blk.n → L[0]? = some 0
  shut : ∀ x ∈ L, ∀ t ∈ su F x, t ∈ L
  par : ∀ i x : Nat, L[i]? = some x → x = 0 ∨ ∃ j y : Nat, j < i ∧ L[j]? = some y ∧ x ∈ su F y
  way : ∀ x ∈ L, Way (su F) 0 x
  back : ∀ i x : Nat, L[i]? = some x → ∀ t ∈ su F x, (∃ j : Nat, i < j ∧ L[j]? = some t) ∨ Way (su F) t x

theorem getElem?_rev {l : List Nat} {i x : Nat} (h : l.reverse[i]? = some x) : i < l.length ∧ l[l.length - 1 - i]? = some x := by
  have h1 : i < l.length := by have := (List.getElem?_eq_some_iff.1 h).1; simpa using this
  rw [List.getElem?_reverse h1] at h
  exact ⟨h1, h⟩

theorem rev_getElem? {l : List Nat} {i x : Nat} (h : l[i]? = some x) : i < l.length ∧ l.reverse[l.length - 1 - i]? = some x := by
  have h1 : i < l.length := (List.getElem?_eq_some_iff.1 h).1
  refine ⟨h1, ?_⟩
  rw [List.getElem?_reverse (by omega), show l.length - 1 - (l.length - 1 - i) = i by omega]
  exact h

theorem OrdIs.ord {F : FV} {L : List Nat} (h : OrdIs F L) : Ord F L := by
  rcases h with ⟨h0, rfl⟩ | ⟨h0, d, m, hr, rfl⟩
  · exact ⟨by simp, by simp, fun h => by omega, by simp, by simp, by simp, by simp⟩
  · have hr2 : Rest (su F) [0] [] (fun _ => false) (d ++ [0]) m := .go rfl hr (.nil _ _)
    obtain ⟨e, he, T⟩ := hr2.told
    rw [List.nil_append] at he
    have h0e : (d ++ [0])[d.length]? = some 0 := by simp
    subst he
    have hpar : ∀ i x : Nat, (d ++ [0]).reverse[i]? = some x → x = 0 ∨ ∃ j y : Nat, j < i ∧ (d ++ [0]).reverse[j]? = some y ∧ x ∈ su F y := by
      intro i x hx
      obtain ⟨h1, h2⟩ := getElem?_rev hx
      rcases T.par _ x h2 with h | ⟨j, y, hj, hy, hxy⟩
      · left; simpa using h
      · obtain ⟨h3, h4⟩ := rev_getElem? hy
        exact .inr ⟨_, y, by omega, h4, hxy⟩
    refine ⟨(by unfold List.Nodup; rw [List.pairwise_reverse]; exact List.Pairwise.imp (fun h => Ne.symm h) T.nd), fun x hx => ?_, fun _ => by simp, fun x hx t ht => ?_, hpar, fun x hx => ?_, fun i x hx t ht => ?_⟩
    · obtain ⟨i, hi, hx'⟩ := List.getElem_of_mem hx
      rcases hpar i x (by rw [List.getElem?_eq_getElem hi, hx']) with h | ⟨j, y, _, _, hxy⟩
      · omega
      · exact su_lt F y x hxy
    · rw [List.mem_reverse] at hx ⊢
      rcases (T.met t).1 (T.shut x hx t ht) with h | h
      · cases h
      · exact h
    · rw [List.mem_reverse] at hx
      obtain ⟨y, hy, hw⟩ := T.from_ x hx
      obtain rfl : y = 0 := by simpa using hy
      exact hw
    · obtain ⟨h1, h2⟩ := getElem?_rev hx
      rcases T.back _ x h2 t ht with h | ⟨j, hj, hy⟩ | h
      · cases h
      · obtain ⟨h3, h4⟩ := rev_getElem? hy
        exact .inl ⟨_, by omega, h4⟩
      · exact .inr h

theorem Ord.len {F : FV} {L : List Nat} (h : Ord F L) : L.length ≤ F.blk.n := length_le_of_lt _ _ h.nd h.lt

theorem Ord.mem {F : FV} {L : List Nat} (h : Ord F L) (h0 : 0 < F.blk.n) (x : Nat) : x ∈ L ↔ Way (su F) 0 x := by
  refine ⟨h.way x, fun hw => ?_⟩
  induction hw with
  | refl => exact List.mem_of_getElem? (h.zero h0)
  | step _ hc ih => exact h.shut _ ih _ hc

/-- Where one stands. -/
abbrev pos (L : List Nat) (x : Nat) : Nat := L.idxOf x

theorem pos_at {L : List Nat} (h : L.Nodup) {i x : Nat} (hi : L[i]? = some x) : pos L x = i := by
  obtain ⟨h1, h2⟩ := List.getElem?_eq_some_iff.1 hi
  subst h2
  exact h.idxOf_getElem i h1

/-- A step back, or to itself. -/
def stepBack (F : FV) (L : List Nat) : Prop := ∃ i x, L[i]? = some x ∧ ∃ t ∈ su F x, pos L t ≤ i

theorem stepBack_iff {F : FV} {L : List Nat} (h : Ord F L) (h0 : 0 < F.blk.n) : stepBack F L ↔ ∃ x, Way (su F) 0 x ∧ ∃ t ∈ su F x, Way (su F) t x := by
  constructor
  · rintro ⟨i, x, hx, t, ht, hp⟩
    refine ⟨x, h.way x (List.mem_of_getElem? hx), t, ht, ?_⟩
    rcases h.back i x hx t ht with ⟨j, hj, hy⟩ | hw
    · have := pos_at h.nd hy; omega
    · exact hw
  · rintro ⟨x, hx, t, ht, hw⟩
    by_cases hb : stepBack F L
    · exact hb
    · have hxL := (h.mem h0 x).2 hx
      have htL := h.shut x hxL t ht
      have fwd : ∀ y ∈ L, ∀ s ∈ su F y, pos L y < pos L s := fun y hy s hs => by
        obtain ⟨i, hi, e⟩ := List.getElem_of_mem hy
        have e' : L[i]? = some y := by rw [List.getElem?_eq_getElem hi, e]
        have := pos_at h.nd e'
        by_cases hc : pos L y < pos L s
        · exact hc
        · exact absurd ⟨i, y, e', s, hs, by omega⟩ hb
      have mono : ∀ a b, Way (su F) a b → a ∈ L → b ∈ L ∧ pos L a ≤ pos L b := by
        intro a b hab ha
        induction hab with
        | refl => exact ⟨ha, Nat.le_refl _⟩
        | step _ hc ih => exact ⟨h.shut _ ih.1 _ hc, by have := fwd _ ih.1 _ hc; omega⟩
      have h1 := (mono t x hw htL).2
      have h2 := fwd x hxL t ht
      omega

theorem mem_take_succ {l : List Nat} {t i x : Nat} (hx : l[t]? = some x) : i ∈ l.take (t + 1) ↔ i ∈ l.take t ∨ i = x := by
  obtain ⟨ht, hx⟩ := List.getElem?_eq_some_iff.1 hx
  subst hx
  rw [List.take_succ_eq_append_getElem ht, List.mem_append, List.mem_singleton]

theorem getD_some {L : List Nat} {k : Nat} (hk : k < L.length) : L[k]? = some (L.getD k 0) := by simp [List.getD, hk]

theorem Mine.at_ {base top : Nat} {w : World} {s : Sl} (h : Mine base top w s) : ∀ b off, s.a = some ⟨b, off, none⟩ → 0 < s.n → base ≤ b ∧ b < top := h.ge

set_option maxRecDepth 10000 in
set_option maxHeartbeats 1000000 in
theorem reach_flow (F : FV) (L : List Nat) (w : World) (hL : OrdIs F L) (hF : In w F) (hl : Light F) (hj : Jng F) :
    Calls Try.prog 27 #[F.val] w fun e w' => ReachIs F.blk.n (fun i => decide (i ∈ L)) w e w' := by
  have HF := hid hF
  have HL := hid hl
  have HJ := hid hj
  have OI := hid hL
  have OD := hid hL.ord
  have gb := hl.blk
  have hmk := run_make_row' (P := Try.prog) 45 4 (.bool false) 1 underlying45 info4 rfl .i64 .i64 F.blk.n (by omega) (by omega)
  have hrow : ((w.alloc (.cells (fcells F) 33)).alloc (.cells (madeCells #[.bool false] F.blk.n) 4)).rowIs (w.heap.size + 1) 4 F.blk.n (fun _ => .bool false) := by
    have := World.rowIs_made (w.alloc (.cells (fcells F) 33)) (.bool false) F.blk.n 4
    simpa using this
  have HR := hid hrow
  clear hF hl hj hL hrow
  go_enter Try.func27, Try.ntmps27
  go_wp2_with fail
  refine (order_flow F L _ OI.out (HF.out.on (new (new (same w) _) _)) HL.out HJ.out).mono ?_
  rintro e w1 ⟨s, rfl, hsn, hsi, hsm, hb1⟩
  have hr1 := HR.out.of_block (hb1.block _ (by simp))
  have hb2 := View.more (new (new (same w) _) _) hb1
  have hz := hb1.size
  simp only [World.size_alloc] at hz hsm
  have hs16 : s.n ≤ 48 := by have := OD.out.len; omega
  have R1 := hid hr1
  have B2 := hid hb2
  have SI := hid hsi
  have SM := hid hsm
  have SN := hid hsn
  clear hmk HR hr1 hb2 hsi hsm hb1 hsn
  go_wp2_with fail
  go_loopw [13] (fun i wr => ∃ k : Nat, k ≤ s.n ∧ i = .int .i64 k ∧ wr.rowIs (w.heap.size + 1) 4 F.blk.n (fun i => .bool (decide (i ∈ L.take k))) ∧ Ints wr s (fun i => ((L.getD i 0 : Nat) : Int)) ∧ Below w.heap.size w wr) (fun i _ => s.n - (intOf i).toNat)
  case atStart => exact ⟨0, Nat.zero_le _, rfl, R1.out.congr (fun i hi => by simp), SI.out, B2.out⟩
  case round =>
    clear R1 B2 SI
    obtain ⟨k, hk, rfl, hr, hi, hb⟩ := hrel
    have HR := hid hr
    have HI := hid hi
    clear hr hi
    by_cases hlt : k < s.n
    · obtain ⟨ib, io, hiy, hcell⟩ := HI.out.at hlt
      have hkL : k < L.length := by have := SN.out; omega
      have hx : L.getD k 0 < F.blk.n := OD.out.lt _ (getD_mem hkL)
      have hstep := fun i => mem_take_succ (i := i) (getD_some hkL)
      obtain ⟨X, hX⟩ : ∃ X, L.getD k 0 = X := ⟨_, rfl⟩
      simp only [hX] at hcell hx hstep
      have hbl := bool_at (g := w.heap.size + 1) hx
      have hrc := HR.out.cell hx
      have hrf := HR.out.frozen X
      have STP := hid hstep
      clear hX hstep
      go_wp2_with fail
      go_round
      case rel =>
        refine ⟨k + 1, by omega, by go_num, (HR.out.set X (.bool true)).congr (fun i hi => ?_), HI.out.kept ((Kept.refl (fun b => w.heap.size + 2 ≤ b) wr).setCell (by show ¬ (_ ≤ w.heap.size + 1); omega) _) (fun b off h h0 => (SM.out.ge b off h h0).1), hb.setCell (by show _ ≤ w.heap.size + 1; omega) _⟩
        have := STP.out i
        by_cases e : i = X
        · simp [e] at this ⊢; exact this
        · simp only [e, if_false]; congr 1; simp [this, e]
      case measure => simp [intOf]; omega
    · obtain rfl : k = s.n := by omega
      go_wp2_with fail
      go_ret
      exact ⟨w.heap.size + 1, rfl, HR.out.congr (fun i hi => by rw [SN.out, List.take_length]), by omega, hb⟩

end Go.Proofs.Ytbmfimojhcdnbaa.Flo
