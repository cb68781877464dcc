/-
  FloF, Wfn, Wfo, Wfp: laid together.
-/
import Derived.Test.YtolipafcoolpgaaGreatJ9
import Derived.Test.YtolipafcoolpgaaGreatJ4
import Derived.Test.YtolipafcoolpgaaGreatChkZ
/-
  What an order says: in plain words; flow.Reach, flow.Loops, plnref3.In.
-/
namespace Go.Proofs.YtolipafcoolpgaaGreat.Flo
open Go.RowKit View Rd Copy Num Ty Srt

set_option linter.unusedVariables false

theorem length_le_of_lt : ∀ (n : Nat) (l : List Nat), l.Nodup → (∀ x ∈ l, x < n) → l.length ≤ n
 | 0, l, _, h => by
  cases l with
  | nil => simp
  | cons a l => exact absurd (h a (by simp)) (by omega)
 | n + 1, l, hd, h => by
  have h1 := length_le_of_lt n (l.erase n) (hd.erase n) (fun x hx => by
   have h2 := (List.Nodup.mem_erase_iff hd).1 hx
   have := h x h2.2
   have := h2.1
   omega)
  by_cases hm : n ∈ l
  ·rw [List.length_erase_of_mem hm] at h1; omega
  ·rw [List.erase_of_not_mem hm] at h1; omega

structure Ord (F : FV) (L : List Nat) : Prop where
 nd : L.Nodup
 lt : ∀ x ∈ L, x < F.blk.n
 zero : 0 < F.blk.n → L[0]? = some 0
 shut : ∀ x ∈ L, ∀ t ∈ su F x, t ∈ L
 par : ∀ i x : Nat, L[i]? = some x → x = 0 ∨ ∃ j y : Nat, j < i ∧ L[j]? = some y ∧ x ∈ su F y
 way : ∀ x ∈ L, Way (su F) 0 x
 back : ∀ i x : Nat, L[i]? = some x → ∀ t ∈ su F x, (∃ j : Nat, i < j ∧ L[j]? = some t) ∨ Way (su F) t x

theorem getElem?_rev {l : List Nat} {i x : Nat} (h : l.reverse[i]? = some x) : i < l.length ∧ l[l.length - 1 - i]? = some x := by
 have h1 : i < l.length := by have := (List.getElem?_eq_some_iff.1 h).1; simpa using this
 rw [List.getElem?_reverse h1] at h
 exact ⟨h1, h⟩

theorem rev_getElem? {l : List Nat} {i x : Nat} (h : l[i]? = some x) : i < l.length ∧ l.reverse[l.length - 1 - i]? = some x := by
 have h1 : i < l.length := (List.getElem?_eq_some_iff.1 h).1
 refine ⟨h1, ?_⟩
 rw [List.getElem?_reverse (by omega), show l.length - 1 - (l.length - 1 - i) = i by omega]
 exact h

theorem OrdIs.ord {F : FV} {L : List Nat} (h : OrdIs F L) : Ord F L := by
 rcases h with ⟨h0, rfl⟩ | ⟨h0, d, m, hr, rfl⟩
 ·exact ⟨by simp, by simp, fun h => by omega, by simp, by simp, by simp, by simp⟩
 ·have hr2 : Rest (su F) [0] [] (fun _ => false) (d ++ [0]) m := .go rfl hr (.nil _ _)
  obtain ⟨e, he, T⟩ := hr2.told
  rw [List.nil_append] at he
  have h0e : (d ++ [0])[d.length]? = some 0 := by simp
  subst he
  have hpar : ∀ i x : Nat, (d ++ [0]).reverse[i]? = some x → x = 0 ∨ ∃ j y : Nat, j < i ∧ (d ++ [0]).reverse[j]? = some y ∧ x ∈ su F y := by
   intro i x hx
   obtain ⟨h1, h2⟩ := getElem?_rev hx
   rcases T.par _ x h2 with h | ⟨j, y, hj, hy, hxy⟩
   ·left; simpa using h
   ·obtain ⟨h3, h4⟩ := rev_getElem? hy
    exact .inr ⟨_, y, by omega, h4, hxy⟩
  refine ⟨(by unfold List.Nodup; rw [List.pairwise_reverse]; exact List.Pairwise.imp (fun h => Ne.symm h) T.nd), fun x hx => ?_, fun _ => by simp, fun x hx t ht => ?_, hpar, fun x hx => ?_, fun i x hx t ht => ?_⟩
  ·obtain ⟨i, hi, hx'⟩ := List.getElem_of_mem hx
   rcases hpar i x (by rw [List.getElem?_eq_getElem hi, hx']) with h | ⟨j, y, _, _, hxy⟩
   ·omega
   ·exact su_lt F y x hxy
  ·rw [List.mem_reverse] at hx ⊢
   rcases (T.met t).1 (T.shut x hx t ht) with h | h
   ·cases h
   ·exact h
  ·rw [List.mem_reverse] at hx
   obtain ⟨y, hy, hw⟩ := T.from_ x hx
   obtain rfl : y = 0 := by simpa using hy
   exact hw
  ·obtain ⟨h1, h2⟩ := getElem?_rev hx
   rcases T.back _ x h2 t ht with h | ⟨j, hj, hy⟩ | h
   ·cases h
   ·obtain ⟨h3, h4⟩ := rev_getElem? hy
    exact .inl ⟨_, by omega, h4⟩
   ·exact .inr h

theorem Ord.len {F : FV} {L : List Nat} (h : Ord F L) : L.length ≤ F.blk.n := length_le_of_lt _ _ h.nd h.lt

theorem Ord.mem {F : FV} {L : List Nat} (h : Ord F L) (h0 : 0 < F.blk.n) (x : Nat) : x ∈ L ↔ Way (su F) 0 x := by
 refine ⟨h.way x, fun hw => ?_⟩
 induction hw with
 | refl => exact List.mem_of_getElem? (h.zero h0)
 | step _ hc ih => exact h.shut _ ih _ hc

theorem mem_take_succ {l : List Nat} {t i x : Nat} (hx : l[t]? = some x) : i ∈ l.take (t + 1) ↔ i ∈ l.take t ∨ i = x := by
 obtain ⟨ht, hx⟩ := List.getElem?_eq_some_iff.1 hx
 subst hx
 rw [List.take_succ_eq_append_getElem ht, List.mem_append, List.mem_singleton]

theorem getD_some {L : List Nat} {k : Nat} (hk : k < L.length) : L[k]? = some (L.getD k 0) := by simp [List.getD, hk]

set_option maxRecDepth 10000 in
set_option maxHeartbeats 1000000 in
theorem reach_flow (F : FV) (L : List Nat) (w : World) (hL : OrdIs F L) (hF : In w F) (hl : Light F) (hj : Jng F) :
  Calls Tryz.prog 128 #[F.val] w fun e w' => ReachIs F.blk.n (fun i => decide (i ∈ L)) w e w' := by
 have HF := hid hF
 have HL := hid hl
 have HJ := hid hj
 have OI := hid hL
 have OD := hid hL.ord
 have gb := hl.blk
 have hmk := run_make_row' (P := Tryz.prog) 151 4 (.bool false) 1 underlying151 info4 rfl .i64 .i64 F.blk.n (by omega) (by omega)
 have hrow : ((w.alloc (.cells (fcells F) 36)).alloc (.cells (madeCells #[.bool false] F.blk.n) 4)).rowIs (w.heap.size + 1) 4 F.blk.n (fun _ => .bool false) := by
  have := World.rowIs_made (w.alloc (.cells (fcells F) 36)) (.bool false) F.blk.n 4
  simpa using this
 have HR := hid hrow
 clear hF hl hj hL hrow
 go_enter Tryz.func128, Tryz.ntmps128
 go_wp2_with fail
 refine (order_flow F L _ OI.out (HF.out.on (new (new (same w) _) _)) HL.out HJ.out).mono ?_
 rintro e w1 ⟨s, rfl, hsn, hsi, hsm, hb1⟩
 have hr1 := HR.out.of_block (hb1.block _ (by simp))
 have hb2 := View.more (new (new (same w) _) _) hb1
 have hz := hb1.size
 simp only [World.size_alloc] at hz hsm
 have hs16 : s.n ≤ 48 := by have := OD.out.len; omega
 have R1 := hid hr1
 have B2 := hid hb2
 have SI := hid hsi
 have SM := hid hsm
 have SN := hid hsn
 clear hmk HR hr1 hb2 hsi hsm hb1 hsn
 go_wp2_with fail
 go_loopw [13] (fun i wr => ∃ k : Nat, k ≤ s.n ∧ i = .int .i64 k ∧ wr.rowIs (w.heap.size + 1) 4 F.blk.n (fun i => .bool (decide (i ∈ L.take k))) ∧ Ints wr s (fun i => ((L.getD i 0 : Nat) : Int)) ∧ Below w.heap.size w wr) (fun i _ => s.n - (intOf i).toNat)
 case atStart => exact ⟨0, Nat.zero_le _, rfl, R1.out.congr (fun i hi => by simp), SI.out, B2.out⟩
 case round =>
  clear R1 B2 SI
  obtain ⟨k, hk, rfl, hr, hi, hb⟩ := hrel
  have HR := hid hr
  have HI := hid hi
  clear hr hi
  by_cases hlt : k < s.n
  ·obtain ⟨ib, io, hiy, hcell⟩ := HI.out.at hlt
   have hkL : k < L.length := by have := SN.out; omega
   have hx : L.getD k 0 < F.blk.n := OD.out.lt _ (getD_mem hkL)
   have hstep := fun i => mem_take_succ (i := i) (getD_some hkL)
   obtain ⟨X, hX⟩ : ∃ X, L.getD k 0 = X := ⟨_, rfl⟩
   simp only [hX] at hcell hx hstep
   have hbl := bool_at (g := w.heap.size + 1) hx
   have hrc := HR.out.cell hx
   have hrf := HR.out.frozen X
   have STP := hid hstep
   clear hX hstep
   go_wp2_with fail
   go_round
   case rel =>
    refine ⟨k + 1, by omega, by go_num, (HR.out.set X (.bool true)).congr (fun i hi => ?_), HI.out.kept ((Kept.refl (fun b => w.heap.size + 2 ≤ b) wr).setCell (by show ¬ (_ ≤ w.heap.size + 1); omega) _) (fun b off h h0 => (SM.out.ge b off h h0).1), hb.setCell (by show _ ≤ w.heap.size + 1; omega) _⟩
    have := STP.out i
    by_cases e : i = X
    ·simp [e] at this ⊢; exact this
    ·simp only [e, if_false]; congr 1; simp [this, e]
   case measure => simp [intOf]; omega
  ·obtain rfl : k = s.n := by omega
   go_wp2_with fail
   go_ret
   exact ⟨w.heap.size + 1, rfl, HR.out.congr (fun i hi => by rw [SN.out, List.take_length]), by omega, hb⟩

end Go.Proofs.YtolipafcoolpgaaGreat.Flo

/-
  wf: entries of a Phi; a function's blocks fit together.
-/
namespace Go.Proofs.YtolipafcoolpgaaGreat.Wf
open Go.RowKit View Rd Num Opn Copy Srt Go.Proofs.YtolipafcoolpgaaGreat.Mod Chk Flo

set_option linter.unusedVariables false

set_option maxHeartbeats 1000000 in
theorem indexB_any (M n : Nat) (f : Nat → Bool) (w : World) (hr : w.rowIs M 4 n (fun i => .bool (f i))) (hn : n ≤ 1000) :
  Calls Tryz.prog 161 #[.slice (some ⟨M, 0, none⟩) n n, .bool false] w fun e w' => ∃ r : Int, e = .returned (.int .i64 r) ∧ (0 ≤ r ↔ ∃ k, k < n ∧ f k = false) ∧ Below w.heap.size w w' := by
 have HR := hid hr
 clear hr
 go_enter Tryz.func161, Tryz.ntmps161
 go_wp2_with fail
 go_loopw [8] (fun iv wr => ∃ k : Nat, k ≤ n ∧ iv = .int .i64 k ∧ (∀ i, i < k → f i = true) ∧ Below w.heap.size w wr) (fun iv _ => n - (intOf iv).toNat)
 case atStart => exact ⟨0, Nat.zero_le _, rfl, fun i hi => by omega, same w⟩
 case round =>
  obtain ⟨k, hk, rfl, hall, hb⟩ := hrel
  have HA := hid (And.intro hall hb)
  by_cases lk : k < n
  ·have hrb := cell_on hb (HR.out.cell lk)
   have hba := bool_at (g := M) lk
   clear hall hb
   cases hf : f k with
   | false =>
    rw [hf] at hrb
    have HF := hid hf
    clear hf
    go_wp2_with fail
    go_ret
    exact ⟨k, rfl, ⟨fun _ => ⟨k, lk, HF.out⟩, fun _ => by omega⟩, HA.out.2⟩
   | true =>
    rw [hf] at hrb
    have HF := hid hf
    clear hf
    go_wp2_with fail
    go_round
    case rel => exact ⟨k + 1, by omega, by go_num, upto1 HA.out.1 HF.out, HA.out.2⟩
    case measure => simp [intOf]; omega
  ·obtain rfl : k = n := by omega
   clear hall hb
   go_wp2_with fail
   go_ret
   exact ⟨-1, rfl, ⟨fun h => by omega, fun ⟨i, h1, h2⟩ => by rw [HA.out.1 i h1] at h2; cases h2⟩, HA.out.2⟩

set_option maxHeartbeats 1000000 in
theorem containsB_any (M n : Nat) (f : Nat → Bool) (w : World) (hr : w.rowIs M 4 n (fun i => .bool (f i))) (hn : n ≤ 1000) :
  Calls Tryz.prog 127 #[.slice (some ⟨M, 0, none⟩) n n, .bool false] w fun e w' => Ans (fun r => r = true ↔ ∃ k, k < n ∧ f k = false) w e w' := by
 go_enter Tryz.func127, Tryz.ntmps127
 go_wp2_with fail
 refine (indexB_any M n f w hr hn).mono ?_
 rintro e w1 ⟨r, rfl, hr, hb⟩
 have HR := hid hr
 have HB := hid hb
 clear hr hb
 go_wp2_with fail
 go_ret
 exact ⟨decide (0 ≤ r), rfl, by rw [← HR.out]; simp, HB.out⟩

def EntP (F : FV) (b k : Nat) : Prop := (F.I b k).op = 26 → (F.I b k).into.n = (pvL F F.blk.n b).length ∧ ∀ i, i < (F.I b k).into.n → F.J b k i = ((pvL F F.blk.n b).getD i 0 : Nat)

def EntF (F : FV) : Prop := ∀ b, b < F.blk.n → ∀ k, k < (F.B b).n → EntP F b k

theorem mem_nxt {n : Nat} {f : Nat → Int} {x : Nat} : ∀ {k : Nat}, x ∈ nxt n f k → ∃ i, i < k ∧ f i = (x : Int)
 | 0, h => by simp [nxt] at h
 | k + 1, h => by
  by_cases q : 0 ≤ f k ∧ f k < n ∧ (f k).toNat ∉ nxt n f k
  ·rw [nxt_yes q.1 q.2.1 q.2.2, List.mem_append, List.mem_singleton] at h
   rcases h with h | h
   ·obtain ⟨i, h1, h2⟩ := mem_nxt h
    exact ⟨i, by omega, h2⟩
   ·exact ⟨k, by omega, by omega⟩
  ·rw [nxt_no q] at h
   obtain ⟨i, h1, h2⟩ := mem_nxt h
   exact ⟨i, by omega, h2⟩

theorem none_to0 {F : FV} (h : ∀ b, b < F.blk.n → FlowE F b) : pvL F F.blk.n 0 = [] := by
 rw [List.eq_nil_iff_forall_not_mem]
 intro a ha
 obtain ⟨h1, h2⟩ := mem_pvL.1 ha
 unfold su at h2
 rw [if_pos h1] at h2
 obtain ⟨i, hi, e⟩ := mem_nxt h2
 have hi' : i < (F.I a ((F.B a).n - 1)).into.n := by
  unfold led at hi
  split at hi
  ·simp at hi
  ·split at hi
   ·exact hi
   ·simp at hi
 have := ((h a h1).1 i hi').1
 omega

theorem phi_one {v : IV} (h : formB v = true) (ho : v.op = 26) : 1 ≤ v.into.n := by
 have hs : swB v = true := by
  unfold formB at h
  simp only [Bool.and_eq_true] at h
  exact h.1.1.2
 unfold swB at hs
 rw [if_pos ho] at hs
 simp at hs
 omega

theorem flowF_iff {F : FV} (hf : FormF F) : FlowF F ↔ (∀ b, b < F.blk.n → RowB (F.B b) (F.I b) ∧ FlowE F b) ∧ (∀ b, b < F.blk.n → Flo.Way (su F) 0 b) ∧ EntF F := by
 constructor
 ·rintro ⟨h1, h2⟩
  exact ⟨fun b hb => ⟨⟨(h1 b hb).1, (h1 b hb).2.1⟩, (h1 b hb).2.2⟩, fun b hb => (h2 b hb).1, fun b hb k hk ho => ((h2 b hb).2 k hk ho).2⟩
 ·rintro ⟨h1, h2, h3⟩
  refine ⟨fun b hb => ⟨(h1 b hb).1.1, (h1 b hb).1.2, (h1 b hb).2⟩, fun b hb => ⟨h2 b hb, fun k hk ho => ⟨?_, h3 b hb k hk ho⟩⟩⟩
  rintro rfl
  have := (h3 0 hb k hk ho).1
  rw [none_to0 (fun b hb => (h1 b hb).2)] at this
  have := phi_one (hf.2.2 0 hb k hk) ho
  simp at *
  omega

set_option maxRecDepth 10000 in
set_option maxHeartbeats 4000000 in
theorem entryFault_any (F : FV) (w : World) (hF : In w F) (hl : Light F) (hj : Jng F) : Calls Tryz.prog 129 #[F.val] w fun e w' => Ans (fun r => r = true ↔ ¬ EntF F) w e w' := by
 have gb := hl.blk
 obtain ⟨W, hW⟩ : ∃ W, w.alloc (.cells (fcells F) 36) = W := ⟨_, rfl⟩
 have FW := hid (show FuncAt W w.heap.size F by rw [← hW]; exact FuncAt.alloc w F)
 have HF := hid (show In W F by rw [← hW]; exact hF.on (new (same w) _))
 have LW := hid (show Below w.heap.size w W by rw [← hW]; exact new (same w) _)
 have HL := hid hl
 have HJ := hid hj
 have HWW := hid hW
 have YES := hid (show ∀ wx, Below W.heap.size W wx → ¬ EntF F → Ans (fun r => r = true ↔ ¬ EntF F) w (.returned (.bool true)) wx from fun wx h hn => ⟨true, rfl, by simp [hn], View.more LW.out h⟩)
 obtain ⟨f0, f1, f2, f3, f4⟩ := FW.out
 clear hF hl hj hW
 go_enter Tryz.func129, Tryz.ntmps129
 go_wp2_with fail
 simp only [HWW.out]
 clear HWW
 refine (prev_flow F W HF.out HL.out HJ.out).mono ?_
 rintro e w2 ⟨PM, R, rfl, hpv, hM2, hb2⟩
 have HR2 := hid hpv
 have ST := hid hb2
 clear hpv hM2 hb2 f0 f1 f2 f3 f4
 go_wp2_with fail
 go_loopw [10] (fun iv wr => ∃ b : Nat, b ≤ F.blk.n ∧ iv = .int .i64 b ∧ (∀ t, t < b → ∀ k, k < (F.B t).n → EntP F t k) ∧ Below w2.heap.size w2 wr) (fun iv _ => F.blk.n - (intOf iv).toNat)
 case atStart => exact ⟨0, Nat.zero_le _, rfl, fun t ht => by omega, same _⟩
 case round =>
  obtain ⟨b, hb0, rfl, hall, hb⟩ := hrel
  have HA := hid (And.intro hall hb)
  obtain ⟨f0, f1, f2, f3, f4⟩ := FW.out.on (View.more ST.out hb)
  by_cases lb : b < F.blk.n
  ·obtain ⟨rb, ro, hrx, hrc0⟩ := HF.out.blk.at lb
   have hrc := cell_on (View.more ST.out hb) hrc0
   have gi := HL.out.ins b lb
   have hpc := cell_on hb (HR2.out.row.cell lb)
   have hpx := prevs_at (g := PM) lb
   clear hall hb hrc0
   go_wp2_with fail
   clear f0 f1 f2 f3 f4 hrc hpc hpx
   go_loopw [22] (fun iv wx => ∃ k : Nat, k ≤ (F.B b).n ∧ iv = .int .i64 k ∧ (∀ t, t < k → EntP F b t) ∧ Below w2.heap.size w2 wx) (fun iv _ => (F.B b).n - (intOf iv).toNat)
   case atStart => exact ⟨0, Nat.zero_le _, rfl, fun t ht => by omega, HA.out.2⟩
   case round =>
    obtain ⟨k, hk0, rfl, hall, hb⟩ := hrel
    have HK := hid (And.intro hall hb)
    by_cases lk : k < (F.B b).n
    ·obtain ⟨ib, io, hiy, c0, c1, c2, c3, c4, c5, c6⟩ := ((HF.out.ins b lb).on (View.more ST.out hb)).at lk
     have hPL := pvL_le F F.blk.n b
     obtain ⟨hPI, hPN⟩ := HR2.out.ints lb (by omega)
     have L2 := hid (show Below w2.heap.size w2 (wr.alloc (.cells (F.I b k).cells 43)) from new HK.out.2 _)
     have IPV := hid (hPI.on L2.out)
     have IIN := hid ((HF.out.into b lb k lk).on (View.more ST.out L2.out))
     have NPV := hid hPN
     have g20 := HL.out.into b lb k lk
     clear hall hb hPI hPN hPL
     by_cases h26 : (F.I b k).op = 26
     ·have t26 : ((F.I b k).op == 26) = true := by simp [h26]
      have H26 := hid h26
      clear h26
      go_wp2_with fail
      refine (equal33 (F.I b k).into (R b) (F.J b k) (fun i => (((pvL F F.blk.n b).getD i 0 : Nat) : Int)) _ IIN.out IPV.out (by omega)).mono ?_
      rintro e w9 ⟨r, rfl, hr, q, rfl⟩
      have HR := hid hr
      have B9 := hid (View.more L2.out (below_drewN' _ q))
      clear hr
      cases r with
      | true =>
       have HP := hid (show EntP F b k from fun _ => by
        have hq := HR.out.1 rfl
        exact ⟨by rw [hq.1]; exact NPV.out, hq.2⟩)
       go_wp2_with fail
       go_round
       case rel => exact ⟨k + 1, by omega, by go_num, upto1 HK.out.1 HP.out, B9.out⟩
       case measure => simp [intOf]; omega
      | false =>
       have HN := hid (show ¬ EntF F from fun h => by
        have := h b lb k lk H26.out
        exact absurd (HR.out.2 ⟨by rw [this.1]; exact NPV.out.symm, this.2⟩) (by simp))
       go_wp2_with fail
       go_ret
       exact YES.out _ (View.more ST.out B9.out) HN.out
     ·have t26 : ((F.I b k).op == 26) = false := by simp [h26]
      have HP := hid (show EntP F b k from fun h => absurd h h26)
      clear h26
      go_wp2_with fail
      go_round
      case rel => exact ⟨k + 1, by omega, by go_num, upto1 HK.out.1 HP.out, L2.out⟩
      case measure => simp [intOf]; omega
    ·obtain rfl : k = (F.B b).n := by omega
     clear hall hb
     go_wp2_with fail
     go_round
     case rel =>
      have g := upto1 (p := fun t => ∀ k, k < (F.B t).n → EntP F t k) HA.out.1 HK.out.1
      first
       | exact ⟨b + 1, by omega, by go_num, g, HK.out.2⟩
       | ((repeat apply Exists.intro); exact ⟨⟨b + 1, by omega, by go_num, g, HK.out.2⟩, rfl⟩)
     case measure => simp [intOf]; omega
  ·obtain rfl : b = F.blk.n := by omega
   clear hall hb
   go_wp2_with fail
   go_ret
   exact ⟨false, rfl, ⟨fun h => absurd h (by simp), fun h => absurd HA.out.1 h⟩, View.more LW.out (View.more ST.out HA.out.2)⟩

def BlkOk (F : FV) (b : Nat) : Prop := RowB (F.B b) (F.I b) ∧ FlowE F b

set_option maxRecDepth 10000 in
set_option maxHeartbeats 4000000 in
theorem funcFlow_any (F : FV) (w : World) (hF : In w F) (hl : Light F) (hj : Jng F) (hf : FormF F) : Calls Tryz.prog 80 #[F.val] w fun e w' => Ans (fun r => r = true ↔ ¬ FlowF F) w e w' := by
 have gb := hl.blk
 obtain ⟨W, hW⟩ : ∃ W, w.alloc (.cells (fcells F) 36) = W := ⟨_, rfl⟩
 have FW := hid (show FuncAt W w.heap.size F by rw [← hW]; exact FuncAt.alloc w F)
 have HF := hid (show In W F by rw [← hW]; exact hF.on (new (same w) _))
 have LW := hid (show Below w.heap.size w W by rw [← hW]; exact new (same w) _)
 have HL := hid hl
 have HJ := hid hj
 have HFO := hid hf
 have HWW := hid hW
 have IFF := hid (flowF_iff hf)
 have YES := hid (show ∀ wx, Below W.heap.size W wx → ¬ FlowF F → Ans (fun r => r = true ↔ ¬ FlowF F) w (.returned (.bool true)) wx from fun wx h hn => ⟨true, rfl, by simp [hn], View.more LW.out h⟩)
 have f4 := FW.out.c4
 clear hF hl hj hW hf
 go_enter Tryz.func80, Tryz.ntmps80
 go_wp2_with fail
 simp only [HWW.out]
 clear HWW f4
 go_loopw [8] (fun iv wr => ∃ b : Nat, b ≤ F.blk.n ∧ iv = .int .i64 b ∧ (∀ t, t < b → BlkOk F t) ∧ Below W.heap.size W wr) (fun iv _ => F.blk.n - (intOf iv).toNat)
 case atStart => exact ⟨0, Nat.zero_le _, rfl, fun t ht => by omega, same _⟩
 case round =>
  obtain ⟨b, hb0, rfl, hall, hb⟩ := hrel
  have HA := hid (And.intro hall hb)
  obtain ⟨f0, f1, f2, f3, f4⟩ := FW.out.on hb
  by_cases lb : b < F.blk.n
  ·obtain ⟨rb, ro, hrx, hrc0⟩ := HF.out.blk.at lb
   have hrc := cell_on hb hrc0
   have gi := HL.out.ins b lb
   clear hall hb hrc0
   have L0 := hid (show Below W.heap.size W (wr.alloc (.cells #[.slice (F.B b).a (F.B b).n (F.B b).c] 40)) from new HA.out.2 _)
   have ec : ∀ w1, Below (wr.alloc (.cells #[.slice (F.B b).a (F.B b).n (F.B b).c] 40)).heap.size (wr.alloc (.cells #[.slice (F.B b).a (F.B b).n (F.B b).c] 40)) w1 → w1.cell? ⟨wr.heap.size, 0, none⟩ = some (.slice (F.B b).a (F.B b).n (F.B b).c) := fun w1 h => cell_on h (by simp)
   have EC := hid ec
   clear ec
   go_wp2_with fail
   refine (rowFault_any (F.B b) (F.I b) _ ((HF.out.ins b lb).on L0.out) (by omega)).mono ?_
   rintro e w1 ⟨r, rfl, hr, hb⟩
   have B1 := hid (View.more L0.out hb)
   have R := hid hr
   have bc := EC.out w1 hb
   clear hr hb f0 f1 f2 f3 f4 hrc EC
   obtain ⟨f0, f1, f2, f3, f4⟩ := FW.out.on B1.out
   cases r with
   | true =>
    have HN := hid (show ¬ FlowF F from fun h => R.out.1 rfl ((IFF.out.1 h).1 b lb).1)
    go_wp2_with fail
    go_ret
    exact YES.out _ B1.out HN.out
   | false =>
    have P1 := hid (show RowB (F.B b) (F.I b) by
     by_cases q : RowB (F.B b) (F.I b)
     ·exact q
     ·exact absurd (R.out.2 q) (by simp))
    clear R
    go_wp2_with fail
    refine (leadFault_any F b _ (HF.out.on B1.out) HL.out HFO.out lb P1.out.1).mono ?_
    rintro e w2 ⟨r, rfl, hr, hb⟩
    have B2 := hid (View.more B1.out hb)
    have R := hid hr
    clear hr hb f0 f1 f2 f3 f4
    cases r with
    | true =>
     have HN := hid (show ¬ FlowF F from fun h => R.out.1 rfl ((IFF.out.1 h).1 b lb).2)
     go_wp2_with fail
     go_ret
     exact YES.out _ B2.out HN.out
    | false =>
     have P2 := hid (show BlkOk F b from ⟨P1.out, by
      by_cases q : FlowE F b
      ·exact q
      ·exact absurd (R.out.2 q) (by simp)⟩)
     clear R
     go_wp2_with fail
     go_round
     case rel => exact ⟨b + 1, by omega, by go_num, upto1 HA.out.1 P2.out, B2.out⟩
     case measure => simp [intOf]; omega
  ·obtain rfl : b = F.blk.n := by omega
   clear hall hb
   obtain ⟨L, hL⟩ := ord_ex F
   have OI := hid hL
   clear hL
   go_wp2_with fail
   refine (reach_flow F L _ OI.out (HF.out.on HA.out.2) HL.out HJ.out).mono ?_
   rintro e w1 ⟨RM, rfl, hr1, hM1, hb1⟩
   have B1 := hid (View.more HA.out.2 hb1)
   have HR1 := hid hr1
   clear hr1 hM1 hb1 f0 f1 f2 f3 f4
   go_wp2_with fail
   refine (containsB_any RM F.blk.n (fun i => decide (i ∈ L)) _ HR1.out (by omega)).mono ?_
   rintro e w2 ⟨r, rfl, hr, hb⟩
   have B2 := hid (View.more B1.out hb)
   have R := hid hr
   clear hr hb
   obtain ⟨f0, f1, f2, f3, f4⟩ := FW.out.on B2.out
   have WAY := hid (show ∀ i, i < F.blk.n → (decide (i ∈ L) = true ↔ Flo.Way (su F) 0 i) from fun i hi => by
    rw [decide_eq_true_iff]; exact OI.out.ord.mem (by omega) i)
   cases r with
   | true =>
    have HN := hid (show ¬ FlowF F from fun h => by
     obtain ⟨i, h1, h2⟩ := R.out.1 rfl
     have := (WAY.out i h1).2 ((IFF.out.1 h).2.1 i h1)
     rw [this] at h2; cases h2)
    go_wp2_with fail
    go_ret
    exact YES.out _ B2.out HN.out
   | false =>
    have P2 := hid (show ∀ i, i < F.blk.n → Flo.Way (su F) 0 i from fun i hi => by
     refine (WAY.out i hi).1 ?_
     cases q : decide (i ∈ L) with
     | true => rfl
     | false => exact absurd (R.out.2 ⟨i, hi, q⟩) (by simp))
    clear R
    go_wp2_with fail
    refine (entryFault_any F _ (HF.out.on B2.out) HL.out HJ.out).mono ?_
    rintro e w3 ⟨r, rfl, hr, hb⟩
    have B3 := hid (View.more B2.out hb)
    have R := hid hr
    clear hr hb
    go_wp2_with fail
    go_ret
    refine ⟨r, rfl, ?_, View.more LW.out B3.out⟩
    show r = true ↔ ¬ FlowF F
    rw [R.out]
    exact not_congr ⟨fun h => IFF.out.2 ⟨HA.out.1, P2.out, h⟩, fun h => (IFF.out.1 h).2.2⟩

def FlowM (M : MV) : Prop := ∀ i, i < M.fns.n → FlowF (M.F i)

theorem ex_not {n : Nat} {p : Nat → Prop} : (∃ i, i < n ∧ ¬ p i) ↔ ¬ ∀ i, i < n → p i := by
 constructor
 ·rintro ⟨i, h1, h2⟩ h
  exact h2 (h i h1)
 ·intro h
  by_cases q : ∃ i, i < n ∧ ¬ p i
  ·exact q
  ·exact absurd (fun i hi => by
    by_cases z : p i
    ·exact z
    ·exact absurd ⟨i, hi, z⟩ q) h

theorem flowFault_any (M : MV) (w : World) (hM : InM w M) (hs : SmallM M) (hj : ∀ i, i < M.fns.n → Jng (M.F i)) (hf : FormM M) : Calls Tryz.prog 30 #[M.val] w fun e w' => Ans (fun r => r = true ↔ ¬ FlowM M) w e w' := by
 have x4 := hs.fns
 obtain ⟨W, hW⟩ : ∃ W, w.alloc (.cells (mcells M) 27) = W := ⟨_, rfl⟩
 have b3 : W.cell? ⟨w.heap.size, 3, none⟩ = some (.slice M.fns.a M.fns.n M.fns.c) := by rw [← hW]; simp
 have HM := hid (show InM W M by rw [← hW]; exact hM.on (new (same w) _))
 have LW := hid (show Below w.heap.size w W by rw [← hW]; exact new (same w) _)
 have HS := hid hs
 have HJ := hid hj
 have HF := hid hf
 clear hM hs hj hf
 go_enter Tryz.func30, Tryz.ntmps30
 go_wp2_with fail
 clear hW
 refine (has_flowF M.fns M.F (fun i => ¬ FlowF (M.F i)) W (by omega) (fun wx h => (HM.out.on h).fns) (fun i hi wx h => funcFlow_any (M.F i) wx ((HM.out.on h).fnI i hi) (HS.out.light i hi) (HJ.out i hi) (HF.out.fns i hi))).mono ?_
 rintro e w1 ⟨r, rfl, hr, hb⟩
 have B1 := hid (View.more LW.out hb)
 have R := hid hr
 clear hr hb
 go_wp2_with fail
 go_ret
 exact ⟨r, rfl, R.out.trans ex_not, B1.out⟩

end Go.Proofs.YtolipafcoolpgaaGreat.Wf

/-
  wf: values are numbered in order.
-/
namespace Go.Proofs.YtolipafcoolpgaaGreat.Wf
open Go.RowKit View Rd Num Opn Copy Srt Go.Proofs.YtolipafcoolpgaaGreat.Mod Chk

set_option linter.unusedVariables false

def NumF (F : FV) : Prop := ∀ b, b < F.blk.n → ∀ k, k < (F.B b).n → ToI F b k

set_option maxRecDepth 10000 in
set_option maxHeartbeats 4000000 in
theorem numberFault_any (F : FV) (w : World) (hF : In w F) (hl : Light F) : Calls Tryz.prog 130 #[F.val] w fun e w' => Ans (fun r => r = true ↔ ¬ NumF F) w e w' := by
 have gb := hl.blk
 have gp := hl.par
 have gv := allV_le hl
 obtain ⟨W, hW⟩ : ∃ W, w.alloc (.cells (fcells F) 36) = W := ⟨_, rfl⟩
 have FW := hid (show FuncAt W w.heap.size F by rw [← hW]; exact FuncAt.alloc w F)
 have HF := hid (show In W F by rw [← hW]; exact hF.on (new (same w) _))
 have LW := hid (show Below w.heap.size w W by rw [← hW]; exact new (same w) _)
 have HL := hid hl
 have HWW := hid hW
 have YES := hid (show ∀ wx, Below W.heap.size W wx → ¬ NumF F → Ans (fun r => r = true ↔ ¬ NumF F) w (.returned (.bool true)) wx from fun wx h hn => ⟨true, rfl, by simp [hn], View.more LW.out h⟩)
 have f2 := FW.out.c2
 have f4 := FW.out.c4
 have q1 : IntKind.i64.wrap ((F.par.n : Int) + 1) = (F.par.n : Int) + 1 := by simp only [IntKind.wrap_i64]; omega
 have q2 : wrap64 ((F.par.n : Int) + 1) = (F.par.n : Int) + 1 := by unfold wrap64; omega
 clear hF hl hW
 go_enter Tryz.func130, Tryz.ntmps130
 go_wp2_with fail
 simp only [HWW.out]
 clear HWW f2 f4
 go_loopw [3, 15] (fun nv iv wr => ∃ j : Nat, j ≤ F.blk.n ∧ iv = .int .i64 j ∧ nv = .int .i64 (lastOf F j + 1 : Nat) ∧ (∀ t, t < j → ∀ k, k < (F.B t).n → ToI F t k) ∧ Below W.heap.size W wr) (fun _ iv _ => F.blk.n - (intOf iv).toNat)
 case atStart => exact ⟨0, Nat.zero_le _, rfl, by simp [lastOf, cnt], fun t ht => by omega, same _⟩
 case round =>
  obtain ⟨j, hj, rfl, rfl, hall, hb⟩ := hrel
  have HA := hid (And.intro hall hb)
  by_cases lj : j < F.blk.n
  ·obtain ⟨rb, ro, hrx, hrc0⟩ := HF.out.blk.at lj
   have hrc := cell_on hb hrc0
   have gi := HL.out.ins j lj
   obtain ⟨L, hL⟩ : ∃ L, lastOf F j = L := ⟨_, rfl⟩
   have hLa : L ≤ allV F := by rw [← hL, ← lastOf_all]; exact lastOf_mono F hj
   have EL := hid hL
   rw [hL]
   have L0 := hid (show Below W.heap.size W (wr.alloc (.cells #[.slice (F.B j).a (F.B j).n (F.B j).c] 40)) from new HA.out.2 _)
   clear hall hb hrc0 hL
   go_wp2_with fail
   clear hrc
   go_loopw [3, 22] (fun nv iv wx => ∃ k : Nat, k ≤ (F.B j).n ∧ iv = .int .i64 k ∧ nv = .int .i64 (L + giv (F.I j) k + 1 : Nat) ∧ (∀ t, t < k → ToI F j t) ∧ Below W.heap.size W wx) (fun _ iv _ => (F.B j).n - (intOf iv).toNat)
   case atStart => exact ⟨0, Nat.zero_le _, rfl, by simp [giv], fun t ht => by omega, L0.out⟩
   case round =>
    obtain ⟨k, hk, rfl, rfl, hall, hb⟩ := hrel
    have HK := hid (And.intro hall hb)
    by_cases lk : k < (F.B j).n
    ·obtain ⟨ib, io, hiy, c0, c1, c2, c3, c4, c5, c6⟩ := ((HF.out.ins j lj).on hb).at lk
     have hgk := giv_le (F.I j) k
     obtain ⟨N, hN⟩ : ∃ N, L + giv (F.I j) k + 1 = N := ⟨_, rfl⟩
     have EN := hid hN
     have hN2 : N ≤ 20000 := by omega
     rw [hN]
     by_cases hty : (F.I j k).ty = 0
     ·have t1 : ((F.I j k).ty == 0) = true := by simp [hty]
      have HTY := hid hty
      clear hall hb hty hN hgk
      go_wp2_with fail
      have FIN := hid (show (∀ t, t < k + 1 → ToI F j t) ∧ N = L + giv (F.I j) (k + 1) + 1 from ⟨upto1 HK.out.1 (fun h => absurd HTY.out h), by rw [giv, ← EN.out]; simp [HTY.out]⟩)
      go_round
      case rel =>
       first
        | exact ⟨k + 1, by omega, by go_num, by rw [← FIN.out.2], FIN.out.1, new HK.out.2 _⟩
        | ((repeat apply Exists.intro); exact ⟨⟨k + 1, by omega, by go_num, by rw [← FIN.out.2], FIN.out.1, new HK.out.2 _⟩, rfl⟩)
      case measure => simp [intOf]; omega
     ·have t1 : ((F.I j k).ty == 0) = false := by simp [hty]
      have HID := hid (show idx F j k = N by rw [idx_eq F hty, EL.out, hN])
      have HTY := hid hty
      clear hall hb hty hN hgk
      by_cases hto : (F.I j k).to = (N : Int)
      ·have t2 : ((F.I j k).to != (N : Int)) = false := by simp [hto]
       have HTO := hid hto
       clear hto
       go_wp2_with fail
       have FIN := hid (show (∀ t, t < k + 1 → ToI F j t) ∧ (N : Int) + 1 = ((L + giv (F.I j) (k + 1) + 1 : Nat) : Int) from ⟨upto1 HK.out.1 (fun h => by rw [HID.out, HTO.out]), by rw [giv, ← EN.out]; simp [HTY.out]; omega⟩)
       go_round
       case rel =>
        first
         | exact ⟨k + 1, by omega, by go_num, by rw [← FIN.out.2], FIN.out.1, new HK.out.2 _⟩
         | ((repeat apply Exists.intro); exact ⟨⟨k + 1, by omega, by go_num, by rw [← FIN.out.2], FIN.out.1, new HK.out.2 _⟩, rfl⟩)
       case measure => simp [intOf]; omega
      ·have t2 : ((F.I j k).to != (N : Int)) = true := by simp [hto]
       have HN := hid (show ¬ NumF F from fun h => hto (by rw [h j lj k lk HTY.out, HID.out]))
       clear hto
       go_wp2_with fail
       go_ret
       exact YES.out _ (new HK.out.2 _) HN.out
    ·obtain rfl : k = (F.B j).n := by omega
     clear hall hb
     go_wp2_with fail
     have GN := hid (show L + giv (F.I j) (F.B j).n = lastOf F (j + 1) by rw [lastOf_next, EL.out])
     go_round
     case rel =>
      have f := upto1 (p := fun t => ∀ k, k < (F.B t).n → ToI F t k) HA.out.1 HK.out.1
      first
       | exact ⟨j + 1, by omega, by go_num, by rw [← GN.out]; try simp, f, HK.out.2⟩
       | ((repeat apply Exists.intro); exact ⟨⟨j + 1, by omega, by go_num, by rw [← GN.out]; try simp, f, HK.out.2⟩, rfl⟩)
     case measure => simp [intOf]; omega
  ·obtain rfl : j = F.blk.n := by omega
   rw [lastOf_all]
   clear hall hb
   go_wp2_with fail
   go_ret
   exact ⟨false, rfl, ⟨fun h => absurd h (by simp), fun h => absurd HA.out.1 h⟩, View.more LW.out HA.out.2⟩

end Go.Proofs.YtolipafcoolpgaaGreat.Wf
