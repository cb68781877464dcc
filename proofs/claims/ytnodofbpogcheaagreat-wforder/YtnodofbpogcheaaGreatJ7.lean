/-
  Pure, First, NeatLaw, ChkX, ChkN, ChkO, ChkQ: laid together.
-/
import Derived.Test.YtnodofbpogcheaaGreatNeat
import Derived.Test.YtnodofbpogcheaaGreatJ2
import Derived.Test.YtnodofbpogcheaaGreatJ5
import Derived.Test.YtnodofbpogcheaaGreatJ1
import Derived.BigQuiet
import Derived.Deep.QuietTactic
import Derived.Test.YtnodofbpogcheaaGreatChkV
import Derived.Test.YtnodofbpogcheaaGreatChkL
import Derived.Maps.OwnSet
import Derived.Maps.OwnOps

namespace Go.Proofs.YtnodofbpogcheaaGreat.Own
open Go.RowKit View Rd Copy Srt Num Ty

set_option linter.unusedVariables false

def Neatly (G : FV) : Prop := ∀ j, j < G.blk.n → ∀ k, k < (G.B j).n → (G.I j k).to = newTo G j k

theorem Neats.last {F G : FV} (h : Neats F G) {j : Nat} (hj : j ≤ F.blk.n) : lastOf G j = lastOf F j := by
 show G.par.n + _ = F.par.n + _
 rw [h.par, cnt_congr (g := fun j => giv (F.I j) (F.B j).n) (fun t ht => by rw [h.B t (by omega)]; exact giv_congr fun t' ht' => h.ty t (by omega) t' (by omega))]

theorem tyRow_congr {f g : Nat → IV} : ∀ {k : Nat}, (∀ t, t < k → (f t).ty = (g t).ty) → tyRow f k = tyRow g k
 | 0, _ => rfl
 | k + 1, h => by rw [tyRow, tyRow, tyRow_congr (fun t ht => h t (by omega)), h k (by omega)]

theorem Neats.types {F G : FV} (h : Neats F G) : typesL G = typesL F := by
 have e1 : row G.P G.par.n = row F.P F.par.n := by
  rw [h.par]; exact List.map_congr_left fun i hi => h.P i (List.mem_range.1 hi)
 have e2 : ∀ j, j ≤ F.blk.n → tyAll G j = tyAll F j := by
  intro j
  induction j with
  | zero => intro _; rfl
  | succ j ih => intro hj; rw [tyAll, tyAll, ih (by omega), h.B j (by omega), tyRow_congr (fun t ht => h.ty j (by omega) t ht)]
 rw [typesL, typesL, e1, h.blk, e2 _ (Nat.le_refl _)]

theorem Neats.size {F G : FV} (h : Neats F G) : cnt (fun j => (G.B j).n) G.blk.n = cnt (fun j => (F.B j).n) F.blk.n := by
 rw [h.blk]; exact cnt_congr fun t ht => h.B t ht

theorem Neats.light {F G : FV} (h : Neats F G) (hl : Light F) : Light G := by
 refine ⟨by rw [h.size]; exact hl.all, by rw [h.name]; exact hl.name, by rw [h.par]; exact hl.par, by rw [h.blk]; exact hl.blk, fun j hj => ?_, fun j hj k hk => ?_, fun j hj k hk => ?_⟩
 ·rw [h.blk] at hj; rw [h.B j hj]; exact hl.ins j hj
 ·rw [h.blk] at hj; rw [h.B j hj] at hk; rw [h.an j hj k hk]; exact hl.args j hj k hk
 ·rw [h.blk] at hj; rw [h.B j hj] at hk; rw [h.jn j hj k hk]; exact hl.into j hj k hk

end Go.Proofs.YtnodofbpogcheaaGreat.Own

namespace Go.Proofs.YtnodofbpogcheaaGreat.First
open Go.RowKit View Rd Copy Srt Num Own

set_option linter.unusedVariables false

abbrev i0 (N : Nat) : IV := ⟨4, 1, 9, 0, 0, ⟨some ⟨N + 1, 0, none⟩, 2, 2⟩, ⟨none, 0, 0⟩⟩
abbrev i1 (N : Nat) : IV := ⟨29, 0, 0, 0, 0, ⟨some ⟨N + 1 + 1, 0, none⟩, 1, 1⟩, ⟨none, 0, 0⟩⟩

abbrev ex (N : Nat) : FV where
 name := ⟨#[]⟩
 out := false
 par := ⟨some ⟨N, 0, none⟩, 2, 2⟩
 res := 0
 blk := ⟨some ⟨N + 1 + 1 + 1 + 1, 0, none⟩, 1, 1⟩
 P := fun _ => 1
 B := fun _ => ⟨some ⟨N + 1 + 1 + 1, 0, none⟩, 2, 2⟩
 I := fun _ k => if k = 0 then i0 N else i1 N
 A := fun _ k i => if k = 0 then (i : Int) + 1 else 9
 J := fun _ _ _ => 0

theorem lit1 (w : World) (x : Int) (N : Nat) (hN : w.heap.size = N) : Ints (w.alloc (.cells #[.int .i64 x] 3)) ⟨some ⟨N, 0, none⟩, 1, 1⟩ (fun _ => x) := by
 subst hN
 refine ⟨Nat.le_refl _, by show 1 ≤ _; omega, fun h => by simp at h, fun _ => ⟨w.heap.size, 0, rfl, fun i hi => ?_⟩⟩
 obtain rfl : i = 0 := by simp at hi; omega
 simp

theorem lit2 (w : World) (f : Nat → Int) (N : Nat) (hN : w.heap.size = N) : Ints (w.alloc (.cells #[.int .i64 (f 0), .int .i64 (f 1)] 3)) ⟨some ⟨N, 0, none⟩, 2, 2⟩ f := by
 subst hN
 refine ⟨Nat.le_refl _, by show 2 ≤ _; omega, fun h => by simp at h, fun _ => ⟨w.heap.size, 0, rfl, fun i hi => ?_⟩⟩
 have : i = 0 ∨ i = 1 := by simp at hi; omega
 rcases this with rfl | rfl <;> simp

theorem litN (w : World) (f : Nat → Int) : Ints w ⟨none, 0, 0⟩ f := ⟨Nat.le_refl _, Nat.zero_le _, fun _ => rfl, fun h => absurd h (by simp)⟩

end Go.Proofs.YtnodofbpogcheaaGreat.First

namespace Go.Proofs.YtnodofbpogcheaaGreat.NeatLaw
open Go.RowKit View Rd Copy Srt Num Own Ty First

set_option linter.unusedVariables false

theorem cnt_mono {f g : Nat → Nat} : ∀ {k : Nat}, (∀ t, t < k → f t ≤ g t) → cnt f k ≤ cnt g k
 | 0, _ => Nat.le_refl _
 | k + 1, h => by
  have h1 := cnt_mono (k := k) (fun t ht => h t (by omega))
  have h2 := h k (by omega)
  rw [cnt, cnt]; omega

theorem total_le {F : FV} (hl : Light F) : F.par.n + cnt (fun j => giv (F.I j) (F.B j).n) F.blk.n ≤ 408 := by
 have h1 := cnt_mono (f := fun j => giv (F.I j) (F.B j).n) (g := fun j => (F.B j).n) (k := F.blk.n) (fun t ht => giv_le _ _)
 have := hl.all
 have := hl.par
 omega

end Go.Proofs.YtnodofbpogcheaaGreat.NeatLaw

namespace Go.Proofs.YtnodofbpogcheaaGreat.Chk
open Go.RowKit View Rd Num Opn Copy Ty Srt Go.Proofs.YtnodofbpogcheaaGreat.Mod

set_option linter.unusedVariables false

def gotT (F : FV) (j k i : Nat) : Int := (typesL F).getD (F.A j k i).toNat 0

def TypeF (M : MV) (F : FV) : Prop := ∀ j, j < F.blk.n → ∀ k, k < (F.B j).n → FitI M F (F.I j k) (F.I j k).args.n (gotT F j k)

def ArgsF (F : FV) : Prop := ∀ j, j < F.blk.n → ∀ k, k < (F.B j).n → ∀ i, i < (F.I j k).args.n → 0 ≤ F.A j k i ∧ F.A j k i < (typesL F).length

set_option maxRecDepth 10000 in
set_option maxHeartbeats 4000000 in
theorem types_any (M : MV) (F : FV) (w : World) (hM : InM w M) (hs : SmallM M) (hF : In w F) (hl : Light F) (hf : FormF F) (hy : ∀ j, j < F.blk.n → ∀ k, k < (F.B j).n → SymI M (F.I j k)) (ha : ArgsF F) :
  Calls Tryz.prog 61 #[M.val, F.val] w fun e w' => Ans (fun r => r = true ↔ TypeF M F) w e w' := by
 have gb := hl.blk
 obtain ⟨W, hW⟩ : ∃ W, (w.alloc (.cells (mcells M) 27)).alloc (.cells (fcells F) 36) = W := ⟨_, rfl⟩
 have LW := hid (show Below w.heap.size w W by rw [← hW]; exact new (new (same w) _) _)
 have FW := hid (show FuncAt W (w.heap.size + 1) F by rw [← hW]; have := FuncAt.alloc (w.alloc (.cells (mcells M) 27)) F; simpa using this)
 have MW := hid (show W.cell? ⟨w.heap.size, 0, none⟩ = some (.slice M.ext.a M.ext.n M.ext.c) ∧ W.cell? ⟨w.heap.size, 1, none⟩ = some (.slice M.glo.a M.glo.n M.glo.c) ∧ W.cell? ⟨w.heap.size, 2, none⟩ = some (.slice M.tab.a M.tab.n M.tab.c) ∧ W.cell? ⟨w.heap.size, 3, none⟩ = some (.slice M.fns.a M.fns.n M.fns.c) by
  rw [← hW]
  exact ⟨cell_on (new (same _) _) (by simp), cell_on (new (same _) _) (by simp), cell_on (new (same _) _) (by simp), cell_on (new (same _) _) (by simp)⟩)
 have IM := hid (hM.on LW.out)
 have IF := hid (hF.on LW.out)
 have HS := hid hs
 have HL := hid hl
 have HFO := hid hf
 have HY := hid hy
 have HAR := hid ha
 have HWW := hid hW
 obtain ⟨d0, d1, d2, d3, d4⟩ := FW.out
 clear hM hs hF hl hf hy ha hW
 go_enter Tryz.func61, Tryz.ntmps61
 go_wp2_with fail
 simp only [HWW.out]
 clear HWW
 go_wp2_with fail
 refine (types_ref F _ IF.out HL.out).mono ?_
 rintro e w1 ⟨s5, rfl, hn5, hi5, hm5, hb5⟩
 have N5 := hid hn5
 have I5 := hid hi5
 have B5 := hid hb5
 have g5 : s5.n ≤ 1000 := by rw [hn5, typesL_length]; have := NeatLaw.total_le HL.out; omega
 clear hn5 hi5 hm5 hb5 d0 d1 d2 d3 d4
 go_wp2_with fail
 go_loopw [6] (fun iv wr => ∃ j : Nat, j ≤ F.blk.n ∧ iv = .int .i64 j ∧ (∀ t, t < j → ∀ k, k < (F.B t).n → FitI M F (F.I t k) (F.I t k).args.n (gotT F t k)) ∧ Below w1.heap.size w1 wr) (fun iv _ => F.blk.n - (intOf iv).toNat)
 case atStart => exact ⟨0, Nat.zero_le _, rfl, fun t ht => by omega, same _⟩
 case round =>
  obtain ⟨j, hj, rfl, hall, hb⟩ := hrel
  have HA := hid (And.intro hall hb)
  obtain ⟨d0, d1, d2, d3, d4⟩ := FW.out.on (View.more B5.out hb)
  by_cases lj : j < F.blk.n
  ·obtain ⟨rb, ro, hrx, hrc0⟩ := IF.out.blk.at lj
   have RC := hid hrc0
   have hrc := cell_on (View.more B5.out hb) hrc0
   have gi := HL.out.ins j lj
   clear hall hb hrc0
   go_wp2_with fail
   clear d0 d1 d2 d3 d4 hrc
   go_loopw [7] (fun iv wx => ∃ k : Nat, k ≤ (F.B j).n ∧ iv = .int .i64 k ∧ (∀ t, t < k → FitI M F (F.I j t) (F.I j t).args.n (gotT F j t)) ∧ Below w1.heap.size w1 wx) (fun iv _ => (F.B j).n - (intOf iv).toNat)
   case atStart => exact ⟨0, Nat.zero_le _, rfl, fun t ht => by omega, HA.out.2⟩
   case round =>
    obtain ⟨k, hk, rfl, hall, hb⟩ := hrel
    have HK := hid (And.intro hall hb)
    obtain ⟨d0, d1, d2, d3, d4⟩ := FW.out.on (View.more B5.out hb)
    have hrc := cell_on (View.more B5.out hb) RC.out
    by_cases lk : k < (F.B j).n
    ·obtain ⟨ib, io, hiy, c0, c1, c2, c3, c4, c5, c6⟩ := ((IF.out.ins j lj).on (View.more B5.out hb)).at lk
     have ga := HL.out.args j lj k lk
     clear hall hb
     go_wp2_with fail
     obtain ⟨N8, hN8⟩ : ∃ N8, wr.heap.size = N8 := ⟨_, rfl⟩
     obtain ⟨W8, hW8⟩ : ∃ W8, wr.alloc (.cells (F.I j k).cells 43) = W8 := ⟨_, rfl⟩
     have X8 := hid (show InsAt W8 N8 0 (F.I j k) by rw [← hW8, ← hN8]; exact InsAt.alloc wr _)
     have L8 := hid (show Below w1.heap.size w1 W8 by rw [← hW8]; exact new HK.out.2 _)
     rw [hW8, hN8]
     clear hW8 hN8 d0 d1 d2 d3 d4 hrc c0 c1 c2 c3 c4 c5 c6
     go_loopw [9, 10] (fun v iv wx => ∃ i : Nat, i ≤ (F.I j k).args.n ∧ iv = .int .i64 i ∧ wx.ownsRow W8.heap.size 3 1 v ((List.range i).map (gotT F j k)).length (((List.range i).map (gotT F j k)).map (Value.int .i64)) ∧ Below W8.heap.size W8 wx) (fun _ iv _ => (F.I j k).args.n - (intOf iv).toNat)
     case atStart => exact ⟨0, Nat.zero_le _, rfl, World.ownsRow_nil _ _ _ _, same _⟩
     case round =>
      obtain ⟨i, hi, rfl, hown, hb⟩ := hrel
      have HI := hid (And.intro hown hb)
      obtain ⟨c0, c1, c2, c3, c4, c5, c6⟩ := (X8.out.on hb).head
      by_cases li : i < (F.I j k).args.n
      ·obtain ⟨pb, po, hpx, hpc⟩ := ((IF.out.args j lj k lk).on (View.more B5.out (View.more L8.out hb))).at li
       obtain ⟨q1, q2⟩ := HAR.out j lj k lk i li
       obtain ⟨a, hae⟩ : ∃ a : Nat, F.A j k i = a := ⟨(F.A j k i).toNat, by omega⟩
       rw [hae] at hpc
       have la : a < s5.n := by rw [N5.out]; omega
       obtain ⟨tb, to_, htx, htc⟩ := (I5.out.on (View.more L8.out hb)).at la
       have hgt : gotT F j k i = (typesL F).getD a 0 := by unfold gotT; rw [hae]; simp
       rw [← hgt] at htc
       have hzz := hb.size
       have hlen : ((List.range i).map (gotT F j k)).length = i := by simp
       clear q1 q2 hae hgt hown hb
       go_wp2_with (at_builtin; refine append_one rfl (.tmp 47) (.tmp 56) rfl W8.heap.size _ ((List.range i).map (gotT F j k)) rfl (gotT F j k i) HI.out.1 rfl (by rw [hlen]; omega) (by omega) ?_; intro v2 w2 hown2 hgr2)
       have FIN := hid (show w2.ownsRow W8.heap.size 3 1 v2 ((List.range (i + 1)).map (gotT F j k)).length (((List.range (i + 1)).map (gotT F j k)).map (Value.int .i64)) ∧ Below W8.heap.size W8 w2 by
        rw [List.range_succ, List.map_append]
        refine ⟨hown2, (new HI.out.2 _).grown hgr2 (by simp; omega) (fun b hb => (HI.out.1.lt b hb).1)⟩)
       clear hown2 hgr2
       go_wp2_with fail
       go_round
       case rel => exact ⟨i + 1, by omega, by go_num, FIN.out.1, FIN.out.2⟩
       case measure => simp [intOf]; omega
      ·obtain rfl : i = (F.I j k).args.n := by omega
       obtain ⟨m0, m1, m2, m3⟩ := MW.out
       have hb9 := View.more B5.out (View.more L8.out hb)
       have m0' := cell_on hb9 m0
       have m1' := cell_on hb9 m1
       have m2' := cell_on hb9 m2
       have m3' := cell_on hb9 m3
       obtain ⟨d0, d1, d2, d3, d4⟩ := FW.out.on hb9
       obtain ⟨sg, rfl, hsn, hsi, hsm⟩ := ints_of_owns hown (by simp; omega)
       have hsn' : sg.n = (F.I j k).args.n := by simpa using hsn
       have GI := hid (show Ints wr sg (gotT F j k) from hsi.congr (fun i hi => by
        have hi' : i < (F.I j k).args.n := by omega
        simp [List.getD, hi']))
       have FIT := hid (fits_any M F (F.I j k) sg (gotT F j k) wr (IM.out.on hb9) HS.out (HFO.out.2.2 j lj k lk) (HY.out j lj k lk) GI.out hsn' (by omega))
       have HSN := hid hsn'
       have B9 := hid hb9
       clear hown hb m0 m1 m2 m3 hsn hsn' hsi hsm hb9
       go_wp2_with fail
       refine FIT.out.mono ?_
       rintro e w9 ⟨r, rfl, hr, hbf⟩
       have HR := hid (show r = true ↔ FitI M F (F.I j k) (F.I j k).args.n (gotT F j k) by have := hr; rw [HSN.out] at this; exact this)
       have BF := hid hbf
       clear hr hbf m0' m1' m2' m3' d0 d1 d2 d3 d4 c0 c1 c2 c3 c4 c5 c6
       cases r with
       | false =>
        have HN := hid (show ¬ TypeF M F from fun h => by have := HR.out.2 (h j lj k lk); cases this)
        go_wp2_with fail
        go_ret
        exact ⟨false, rfl, by simp [HN.out], View.more LW.out (View.more B9.out BF.out)⟩
       | true =>
        have HP := hid (HR.out.1 rfl)
        go_wp2_with fail
        go_round
        case rel =>
         have f := upto1 HK.out.1 HP.out
         have l := View.more L8.out (View.more HI.out.2 BF.out)
         first
          | exact ⟨k + 1, by omega, by go_num, f, l⟩
          | ((repeat apply Exists.intro); exact ⟨⟨k + 1, by omega, by go_num, f, l⟩, rfl⟩)
        case measure => simp [intOf]; omega
    ·obtain rfl : k = (F.B j).n := by omega
     clear hall hb
     go_wp2_with fail
     go_round
     case rel =>
      have f := upto1 (p := fun t => ∀ k, k < (F.B t).n → FitI M F (F.I t k) (F.I t k).args.n (gotT F t k)) HA.out.1 HK.out.1
      first
       | exact ⟨j + 1, by omega, by go_num, f, HK.out.2⟩
       | ((repeat apply Exists.intro); exact ⟨⟨j + 1, by omega, by go_num, f, HK.out.2⟩, rfl⟩)
     case measure => simp [intOf]; omega
  ·obtain rfl : j = F.blk.n := by omega
   clear hall hb
   go_wp2_with fail
   go_ret
   exact ⟨true, rfl, by simp; exact HA.out.1, View.more LW.out (View.more B5.out HA.out.2)⟩

end Go.Proofs.YtnodofbpogcheaaGreat.Chk

namespace Go.Proofs.YtnodofbpogcheaaGreat.Chk
open Go.RowKit View Rd Num Opn Copy Go.Proofs.YtnodofbpogcheaaGreat.Mod

set_option linter.unusedVariables false

def byteAt (s : ByteArray) (i : Nat) : Int := if h : i < s.size then ((s[i]'h).toNat : Int) else 0

def chOk (c : Int) : Bool := (decide (97 ≤ c) && decide (c ≤ 122)) || (decide (48 ≤ c) && decide (c ≤ 57)) || decide (c = 95)

def NameOk (s : ByteArray) : Prop := 1 ≤ s.size ∧ s.size ≤ 12 ∧ 97 ≤ byteAt s 0 ∧ byteAt s 0 ≤ 122 ∧ ∀ i, i < s.size → chOk (byteAt s i) = true

theorem index_str (s : ByteArray) {i : Nat} (hi : i < s.size) : ∀ wx, (Instr.index 9 (.string s) (.int .i64 i)).run Tryz.prog wx = .ok (.int .u8 (byteAt s i)) wx := by
 intro wx
 rw [run_index_string wx 9 s .i64 i (by kernel_rfl), dif_pos ⟨by omega, by omega⟩]
 unfold byteAt
 rw [dif_pos hi]
 simp

def NameIs (s : ByteArray) (w : World) (e : Ending) (w' : World) : Prop := ∃ r : Bool, e = .returned (.bool r) ∧ (r = true ↔ NameOk s) ∧ w' = w

set_option maxRecDepth 10000 in
set_option maxHeartbeats 4000000 in
theorem name_any (s : ByteArray) (w : World) (hs : s.size ≤ 60) : Calls Tryz.prog 156 #[.string s] w fun e w' => NameIs s w e w' := by
 have HNO := hid (show ¬ NameOk s → NameIs s w (.returned (.bool false)) w from fun h => ⟨false, rfl, by simp [h], rfl⟩)
 by_cases h1 : (s.size : Int) < 1
 ·have t1 : decide ((s.size : Int) < 1) = true := by simpa using h1
  have HN := hid (show ¬ NameOk s from fun h => by have := h.1; omega)
  clear h1
  go_enter Tryz.func156, Tryz.ntmps156
  go_wp2_with fail
  go_ret
  exact HNO.out HN.out
 have t1 : decide ((s.size : Int) < 1) = false := by simpa using h1
 by_cases h2 : (12 : Int) < s.size
 ·have t2 : decide ((12 : Int) < s.size) = true := by simpa using h2
  have HN := hid (show ¬ NameOk s from fun h => by have := h.2.1; omega)
  clear h1 h2
  go_enter Tryz.func156, Tryz.ntmps156
  go_wp2_with fail
  go_ret
  exact HNO.out HN.out
 have t2 : decide ((12 : Int) < s.size) = false := by simpa using h2
 have l0 : 0 < s.size := by omega
 obtain ⟨c0, hc0⟩ : ∃ c0 : Int, ((s[0]'l0).toNat : Int) = c0 := ⟨_, rfl⟩
 have HB0 := hid (show byteAt s 0 = c0 by unfold byteAt; rw [dif_pos l0]; exact hc0)
 by_cases h3 : c0 < 97
 ·have t3 : decide (c0 < 97) = true := by simpa using h3
  have HN := hid (show ¬ NameOk s from fun h => by have := h.2.2.1; rw [HB0.out] at this; omega)
  clear h1 h2 h3
  go_enter Tryz.func156, Tryz.ntmps156
  go_wp2_with fail
  go_ret
  exact HNO.out HN.out
 have t3 : decide (c0 < 97) = false := by simpa using h3
 by_cases h4 : 122 < c0
 ·have t4 : decide (122 < c0) = true := by simpa using h4
  have HN := hid (show ¬ NameOk s from fun h => by have := h.2.2.2.1; rw [HB0.out] at this; omega)
  clear h1 h2 h3 h4
  go_enter Tryz.func156, Tryz.ntmps156
  go_wp2_with fail
  go_ret
  exact HNO.out HN.out
 have t4 : decide (122 < c0) = false := by simpa using h4
 have HH := hid (show 1 ≤ s.size ∧ s.size ≤ 12 ∧ 97 ≤ byteAt s 0 ∧ byteAt s 0 ≤ 122 by rw [HB0.out]; omega)
 clear h1 h2 h3 h4
 go_enter Tryz.func156, Tryz.ntmps156
 go_wp2_with fail
 clear t1 t2 t3 t4 hc0
 go_loop [3] (fun iv => ∃ k : Nat, k ≤ s.size ∧ iv = .int .i64 k ∧ ∀ i, i < k → chOk (byteAt s i) = true) (fun iv => s.size - (intOf iv).toNat)
 case atStart => exact ⟨0, Nat.zero_le _, rfl, fun i hi => by omega⟩
 case round =>
  obtain ⟨k, hk, rfl, hall⟩ := hrel
  have HA := hid hall
  clear hall
  by_cases lk : k < s.size
  ·obtain ⟨c, hc⟩ : ∃ c : Int, ((s[k]'lk).toNat : Int) = c := ⟨_, rfl⟩
   have HC := hid (show byteAt s k = c by unfold byteAt; rw [dif_pos lk]; exact hc)
   cases hok : chOk c with
   | true =>
    have HO := hid (show chOk (byteAt s k) = true by rw [HC.out]; exact hok)
    go_wp2
    all_goals first
     | (go_round; (case rel => exact ⟨k + 1, by omega, by go_num, upto2 HA.out HO.out⟩); (case measure => simp [intOf]; omega))
     | (exfalso; clear HA HO HC HH HNO; go_light; simp_all [chOk] <;> omega)
   | false =>
    have HN := hid (show ¬ NameOk s from fun h => by have := h.2.2.2.2 k lk; rw [HC.out, hok] at this; cases this)
    go_wp2
    all_goals first
     | (go_ret; exact HNO.out HN.out)
     | (exfalso; clear HA HN HC HH HNO; go_light; simp_all [chOk] <;> omega)
  ·obtain rfl : k = s.size := by omega
   go_wp2
   go_ret
   exact (⟨true, rfl, by simp; exact ⟨HH.out.1, HH.out.2.1, HH.out.2.2.1, HH.out.2.2.2, HA.out⟩, rfl⟩ : NameIs s w (.returned (.bool true)) w)

end Go.Proofs.YtnodofbpogcheaaGreat.Chk

namespace Go.Proofs.YtnodofbpogcheaaGreat.Chk
open Go.RowKit View Rd Num Opn Copy Go.Proofs.YtnodofbpogcheaaGreat.Mod
open Go.Maps (Keyed string_keyed)

set_option linter.unusedVariables false

theorem underlying9 : Tryz.prog.underlying 9 = some .string := by kernel_rfl
theorem underlying151 : Tryz.prog.underlying 151 = some (.map 9 3) := by kernel_rfl
theorem law9 : Keyed Tryz.prog 9 := string_keyed underlying9

def SMap (w : World) (B n : Nat) (m : List UInt8 → Nat) : Prop :=
 ∃ D : DataW Unit, w.ownsMap Tryz.prog 9 (plainElem Tryz.prog 3) B n D ∧ ∀ l, D.atKey (.string l) (.lit (.int .i64 0)) = .lit (.int .i64 (m l))

theorem SMap.at_block {w w' : World} {B n : Nat} {m : List UInt8 → Nat} (h : SMap w B n m) (e : w'.heap[B]? = w.heap[B]?) : SMap w' B n m := by
 obtain ⟨D, ⟨es, clock, hb, hr⟩, hv⟩ := h
 exact ⟨D, ⟨es, clock, by rw [e]; exact hb, hr⟩, hv⟩

theorem SMap.lt {w : World} {B n : Nat} {m : List UInt8 → Nat} (h : SMap w B n m) : B < w.heap.size := by
 obtain ⟨D, ⟨es, clock, hb, hr⟩, hv⟩ := h
 exact (Array.getElem?_eq_some_iff.1 hb).1

theorem SMap.on {w w' : World} {B n : Nat} {m : List UInt8 → Nat} (hb : Below w.heap.size w w') (h : SMap w B n m) : SMap w' B n m := h.at_block (hb.block B h.lt)

theorem SMap.congr {w : World} {B n : Nat} {m m' : List UInt8 → Nat} (h : SMap w B n m) (e : ∀ l, m l = m' l) : SMap w B n m' := by
 obtain ⟨D, ho, hv⟩ := h
 exact ⟨D, ho, fun l => by rw [← e l]; exact hv l⟩

theorem SMap.made (w : World) : SMap (w.alloc (.map #[] 0)) w.heap.size 0 (fun _ => 0) := ⟨.map [], World.ownsMap_made _ _ _ _, fun l => rfl⟩

theorem key9 {s : ByteArray} (hs : s.size ≤ 40) : keyOf Tryz.prog 9 (.string s) = some (.string s.data.toList) := WideMaps.keyOf_string_mk underlying9 (by unfold maxLen; omega)

theorem SMap.look {w : World} {B n : Nat} {m : List UInt8 → Nat} (h : SMap w B n m) {s : ByteArray} (hs : s.size ≤ 40) : (Instr.lookup 151 (.map (some B)) (.string s) false).run Tryz.prog w = .ok (.int .i64 (m s.data.toList)) w := by
 obtain ⟨D, ho, hm⟩ := h
 obtain ⟨c, hrun, hat, _⟩ := ho.lookup_int law9 underlying151 underlying3 (zero3 w) (key9 hs)
 rw [hm] at hat
 simp at hat
 rw [hat]; exact hrun

theorem wpList_count {ops : Array Oper} {rest : List Oper} {o : Oper} {a : Act} {Q : Exit → Act → World → Prop} {w : World} (hg : o.guard = none) (mo x y : Operand) (hop : o.op = Op.mapUpdate 151 mo x y)
  (B n : Nat) (m : List UInt8 → Nat) (hm : a.eval mo = .map (some B)) (h : SMap w B n m) (hn : n ≤ 1000000) (s : ByteArray) (u : Nat) (ui : Int) (hui : ui = u) (hx : a.eval x = .string s) (hy : a.eval y = .int .i64 ui) (hs : s.size ≤ 40) (hu : u ≤ 1000000)
  (hK : ∀ w', SMap w' B (n + 1) (fun l => if l = s.data.toList then u else m l) → w.grownBy w' (some B) → wpList Tryz.prog ops Q rest (a.put o.dst undef) w') :
  wpList Tryz.prog ops Q (o :: rest) a w := by
 subst hui
 obtain ⟨D, ho, hD⟩ := h
 refine wpList_mapUpdate_own w hg mo x y 151 hop 9 3 law9 underlying151 _ B n D hm ho (by unfold maxLen; omega) _ _ _ hx hy (key9 hs) _ [] (plainElem_int underlying3 (wf64 ⟨by omega, by omega⟩)) ?_
 intro w' hown hgr
 refine hK w' ⟨_, hown, fun l => ?_⟩ hgr
 have hmap : Maps.IsMap D := by obtain ⟨_, _, _, _, _, e⟩ := ho; exact ⟨_, e⟩
 by_cases e : l = s.data.toList
 ·subst e
  dsimp only
  rw [if_pos rfl]
  have hk : WideAt.IsKeyLit (.string s.data.toList) := by simp [WideAt.IsKeyLit]
  exact Maps.atKey_put_same hmap hk _ _
 ·have hne : (Lit.string l) ≠ .string s.data.toList := fun h => e (by simpa using h)
  dsimp only
  rw [if_neg e, Maps.atKey_put_other hne]
  exact hD l

def OneIs (B n : Nat) (m : List UInt8 → Nat) (s : ByteArray) (w : World) (e : Ending) (w' : World) : Prop :=
 ∃ r : Nat, e = .returned (.int .i64 r) ∧ (r = 0 ∨ r = 1) ∧ (r = 0 ↔ NameOk s ∧ m s.data.toList = 0) ∧ SMap w' B (n + 1) (fun l => if l = s.data.toList then m l + 1 else m l) ∧ w.grownBy w' (some B)

set_option maxHeartbeats 1000000 in
theorem one_any (B n : Nat) (m : List UInt8 → Nat) (s : ByteArray) (w : World) (h : SMap w B n m) (hn : n ≤ 1000) (hm : m s.data.toList ≤ 1000) (hs : s.size ≤ 40) :
  Calls Tryz.prog 107 #[.map (some B), .string s] w fun e w' => OneIs B n m s w e w' := by
 have lk := h.look hs
 have H := hid h
 obtain ⟨c, hc⟩ : ∃ c, m s.data.toList = c := ⟨_, rfl⟩
 rw [hc] at lk hm
 have HC := hid hc
 clear h hc
 go_enter Tryz.func107, Tryz.ntmps107
 go_wp2_with (at_mapUpdate; refine wpList_count rfl (.tmp 5) (.tmp 6) (.tmp 8) rfl B n m rfl H.out (by omega) s (c + 1) ((c : Int) + 1) (by simp) rfl rfl hs (by omega) ?_; intro w1 hs1 hg1)
 have HS1 := hid (hs1.congr (m' := fun l => if l = s.data.toList then m l + 1 else m l) (fun l => by
  by_cases e : l = s.data.toList
  ·rw [if_pos e, if_pos e, e, HC.out]
  ·rw [if_neg e, if_neg e]))
 have HG1 := hid hg1
 have lk1 := hs1.look hs
 simp only [if_true] at lk1
 clear hs1 hg1 lk
 refine (name_any s _ (by omega)).mono ?_
 rintro e w2 ⟨r, rfl, hr, rfl⟩
 have HR := hid hr
 clear hr
 cases r with
 | false =>
  go_wp2_with fail
  go_ret
  exact ⟨1, rfl, .inr rfl, by have := HR.out; simp at this ⊢; exact fun h => absurd h this, HS1.out, HG1.out⟩
 | true =>
  have hok : NameOk s := HR.out.1 rfl
  have HK := hid hok
  clear hok
  by_cases h0 : c = 0
  ·have t1 : decide ((1 : Int) < ((c + 1 : Nat) : Int)) = false := by simp; omega
   have t1' : decide ((1 : Int) < (c : Int) + 1) = false := by simp; omega
   have H0 := hid h0
   clear h0
   go_wp2_with fail
   go_ret
   exact ⟨0, rfl, .inl rfl, by simp; exact ⟨HK.out, by rw [HC.out]; exact H0.out⟩, HS1.out, HG1.out⟩
  ·have t1 : decide ((1 : Int) < ((c + 1 : Nat) : Int)) = true := by simp; omega
   have t1' : decide ((1 : Int) < (c : Int) + 1) = true := by simp; omega
   have H0 := hid h0
   clear h0
   go_wp2_with fail
   go_ret
   exact ⟨1, rfl, .inr rfl, by simp; intro _; rw [HC.out]; exact H0.out, HS1.out, HG1.out⟩

end Go.Proofs.YtnodofbpogcheaaGreat.Chk

namespace Go.Proofs.YtnodofbpogcheaaGreat.Chk
open Go.RowKit View Rd Num Opn Copy Go.Proofs.YtnodofbpogcheaaGreat.Mod

set_option linter.unusedVariables false

abbrev bytesOf (s : ByteArray) : List UInt8 := s.data.toList

def Good (L : List ByteArray) : Prop := (∀ s ∈ L, NameOk s) ∧ (L.map bytesOf).Nodup

structure Nm (w : World) (B : Nat) (L : List ByteArray) (t : Nat) : Prop where
 map : SMap w B L.length (fun l => (L.map bytesOf).count l)
 le : t ≤ L.length
 good : t = 0 ↔ Good L

theorem good_snoc {L : List ByteArray} {s : ByteArray} : Good (L ++ [s]) ↔ Good L ∧ NameOk s ∧ (L.map bytesOf).count (bytesOf s) = 0 := by
 unfold Good
 rw [List.map_append, List.count_eq_zero]
 simp only [List.map_cons, List.map_nil, List.mem_append, List.mem_singleton]
 constructor
 ·rintro ⟨h1, h2⟩
  rw [List.nodup_append] at h2
  refine ⟨⟨fun x hx => h1 x (.inl hx), h2.1⟩, h1 s (.inr rfl), fun hm => ?_⟩
  exact h2.2.2 _ hm _ (by simp) rfl
 ·rintro ⟨⟨h1, h2⟩, h3, h4⟩
  refine ⟨fun x hx => ?_, ?_⟩
  ·rcases hx with hx | rfl
   ·exact h1 x hx
   ·exact h3
  ·rw [List.nodup_append]
   refine ⟨h2, by simp, fun a ha b hb e => ?_⟩
   simp at hb
   subst hb
   subst e
   exact h4 ha

theorem Nm.step {w w' : World} {B t : Nat} {L : List ByteArray} {s : ByteArray} (h : Nm w B L t) {r : Nat} (hr : r = 0 ∨ r = 1) (hz : r = 0 ↔ NameOk s ∧ (L.map bytesOf).count (bytesOf s) = 0) (hm : SMap w' B (L.length + 1) (fun l => if l = bytesOf s then (L.map bytesOf).count l + 1 else (L.map bytesOf).count l)) : Nm w' B (L ++ [s]) (t + r) := by
 refine ⟨?_, by simp; have := h.le; omega, ?_⟩
 ·rw [List.length_append, List.length_singleton]
  refine hm.congr fun l => ?_
  rw [List.map_append, List.count_append]
  by_cases e : l = bytesOf s
  ·rw [if_pos e, e]; simp
  ·rw [if_neg e]
   have : List.count l (List.map bytesOf [s]) = 0 := by
    rw [List.count_eq_zero]; simp; exact e
   rw [this]; rfl
 ·rw [good_snoc, ← hz, ← h.good]
  omega

def namesE (M : MV) (k : Nat) : List ByteArray := (List.range k).map (fun i => (M.E i).name)
def namesG (M : MV) (k : Nat) : List ByteArray := namesE M M.ext.n ++ (List.range k).map (fun i => (M.G i).name)
def namesT (M : MV) (k : Nat) : List ByteArray := namesG M M.glo.n ++ (List.range k).map (fun i => (M.T i).name)
def namesF (M : MV) (k : Nat) : List ByteArray := namesT M M.tab.n ++ (List.range k).map (fun i => (M.F i).name)

theorem namesE_next (M : MV) (k : Nat) : namesE M (k + 1) = namesE M k ++ [(M.E k).name] := by unfold namesE; rw [List.range_succ, List.map_append]; rfl
theorem namesG_next (M : MV) (k : Nat) : namesG M (k + 1) = namesG M k ++ [(M.G k).name] := by unfold namesG; rw [List.range_succ, List.map_append, ← List.append_assoc]; rfl
theorem namesT_next (M : MV) (k : Nat) : namesT M (k + 1) = namesT M k ++ [(M.T k).name] := by unfold namesT; rw [List.range_succ, List.map_append, ← List.append_assoc]; rfl
theorem namesF_next (M : MV) (k : Nat) : namesF M (k + 1) = namesF M k ++ [(M.F k).name] := by unfold namesF; rw [List.range_succ, List.map_append, ← List.append_assoc]; rfl
theorem lenE (M : MV) (k : Nat) : (namesE M k).length = k := by simp [namesE]
theorem lenG (M : MV) (k : Nat) : (namesG M k).length = M.ext.n + k := by simp [namesG, lenE]
theorem lenT (M : MV) (k : Nat) : (namesT M k).length = M.ext.n + M.glo.n + k := by simp [namesT, lenG]
theorem lenF (M : MV) (k : Nat) : (namesF M k).length = M.ext.n + M.glo.n + M.tab.n + k := by simp [namesF, lenT]

def NameM (M : MV) : Prop := Good (namesF M M.fns.n)

set_option maxRecDepth 10000 in
set_option maxHeartbeats 4000000 in
theorem names_any (M : MV) (w : World) (hM : InM w M) (hs : SmallM M) : Calls Tryz.prog 57 #[M.val] w fun e w' => Ans (fun r => r = true ↔ NameM M) w e w' := by
 have hmm := @run_makeMap Tryz.prog
 have x1 := hs.ext
 have x2 := hs.glo
 have x3 := hs.tab
 have x4 := hs.fns
 have HM := hid hM
 have HS := hid hs
 clear hM hs
 go_enter Tryz.func57, Tryz.ntmps57
 go_wp2_with fail
 clear hmm
 obtain ⟨W, hW⟩ : ∃ W, (w.alloc (.cells (mcells M) 27)).alloc (.map #[] 0) = W := ⟨_, rfl⟩
 obtain ⟨B, hB⟩ : ∃ B, w.heap.size + 1 = B := ⟨_, rfl⟩
 have BX := hid (show W.cell? ⟨w.heap.size, 0, none⟩ = some (.slice M.ext.a M.ext.n M.ext.c) ∧ W.cell? ⟨w.heap.size, 1, none⟩ = some (.slice M.glo.a M.glo.n M.glo.c) ∧ W.cell? ⟨w.heap.size, 2, none⟩ = some (.slice M.tab.a M.tab.n M.tab.c) ∧ W.cell? ⟨w.heap.size, 3, none⟩ = some (.slice M.fns.a M.fns.n M.fns.c) by
  rw [← hW]
  exact ⟨cell_on (new (same _) _) (by simp), cell_on (new (same _) _) (by simp), cell_on (new (same _) _) (by simp), cell_on (new (same _) _) (by simp)⟩)
 have ST := hid (show Nm W B (namesE M 0) 0 by
  refine ⟨?_, Nat.le_refl _, by simp [Good, namesE]⟩
  rw [← hW, ← hB]
  have := SMap.made (w.alloc (.cells (mcells M) 27))
  simp only [World.size_alloc] at this
  exact this.congr (fun l => by simp [namesE]))
 have LW := hid (show Below w.heap.size w W by rw [← hW]; exact new (new (same w) _) _)
 have HB := hid hB
 rw [hW, hB]
 clear hW hB
 go_loopw [4, 5] (fun l iv wr => ∃ a t : Nat, a ≤ M.ext.n ∧ iv = .int .i64 a ∧ l = .int .i64 t ∧ Nm wr B (namesE M a) t ∧ Below w.heap.size w wr ∧ wr.heap[w.heap.size]? = W.heap[w.heap.size]?) (fun _ iv _ => M.ext.n - (intOf iv).toNat)
 case atStart => exact ⟨0, 0, Nat.zero_le _, rfl, rfl, ST.out, LW.out, rfl⟩
 case round =>
  obtain ⟨a, t, ha, rfl, rfl, hnm, hb, he⟩ := hrel
  have bb : wr.cell? ⟨w.heap.size, 0, none⟩ = some (.slice M.ext.a M.ext.n M.ext.c) := by rw [World.cell?_of_block (w := W) he]; exact BX.out.1
  have HaA := hid (And.intro hnm (And.intro hb he))
  by_cases la : a < M.ext.n
  ·obtain ⟨rb, ro, hrx, r0, r1, r2⟩ := (HM.out.on hb).ext.at underlying22 size54 la
   have hsz : ((M.E a).name).size ≤ 40 := (HS.out.extI a la).1
   have hlen := lenE M a
   have htl := hnm.le
   have hcn : ((namesE M a).map bytesOf).count ((M.E a).name.data.toList) ≤ 1000 := by
    have := List.count_le_length (a := (M.E a).name.data.toList) (l := (namesE M a).map bytesOf)
    rw [List.length_map] at this
    omega
   have ONE := hid (one_any B (namesE M a).length _ (M.E a).name wr hnm.map (by omega) hcn hsz)
   rw [hlen] at htl
   clear hnm hb he hcn hlen
   go_wp2_with fail
   refine ONE.out.mono ?_
   rintro e w2 ⟨r, rfl, h01, hz, hm2, hg2⟩
   have HB1 := HB.out
   have FIN := hid (show Nm w2 B (namesE M (a + 1)) (t + r) ∧ Below w.heap.size w w2 ∧ w2.heap[w.heap.size]? = W.heap[w.heap.size]? from ⟨by rw [namesE_next]; exact HaA.out.1.step h01 hz hm2, HaA.out.2.1.grown hg2 HaA.out.2.1.size (fun g hg => by cases hg; omega), by rw [hg2.block _ (by have := HaA.out.1.map.lt; omega) (fun e => by have := Option.some.inj e; omega)]; exact HaA.out.2.2⟩)
   have hr1 : r ≤ 1 := by omega
   clear h01 hz hm2 hg2 ONE HB1
   go_wp2_with fail
   go_round
   case rel => exact ⟨a + 1, t + r, by omega, by go_num, by simp, FIN.out.1, FIN.out.2.1, FIN.out.2.2⟩
   case measure => simp [intOf]; omega
  ·obtain rfl : a = M.ext.n := by omega
   clear hnm hb he
   go_wp2_with fail
   clear bb
   go_loopw [4, 6] (fun l iv wr => ∃ b t : Nat, b ≤ M.glo.n ∧ iv = .int .i64 b ∧ l = .int .i64 t ∧ Nm wr B (namesG M b) t ∧ Below w.heap.size w wr ∧ wr.heap[w.heap.size]? = W.heap[w.heap.size]?) (fun _ iv _ => M.glo.n - (intOf iv).toNat)
   case atStart => exact ⟨0, t, Nat.zero_le _, rfl, rfl, by rw [show namesG M 0 = namesE M M.ext.n by simp [namesG]]; exact HaA.out.1, HaA.out.2.1, HaA.out.2.2⟩
   case round =>
    obtain ⟨b, t, hb, rfl, rfl, hnm, hb, he⟩ := hrel
    have bb : wr.cell? ⟨w.heap.size, 1, none⟩ = some (.slice M.glo.a M.glo.n M.glo.c) := by rw [World.cell?_of_block (w := W) he]; exact BX.out.2.1
    have HbA := hid (And.intro hnm (And.intro hb he))
    by_cases lb : b < M.glo.n
    ·obtain ⟨rb, ro, hrx, r0, r1⟩ := (HM.out.on hb).glo.at underlying23 size47 lb
     have hsz : ((M.G b).name).size ≤ 40 := (HS.out.gloI b lb).1
     have hlen := lenG M b
     have htl := hnm.le
     have hcn : ((namesG M b).map bytesOf).count ((M.G b).name.data.toList) ≤ 1000 := by
      have := List.count_le_length (a := (M.G b).name.data.toList) (l := (namesG M b).map bytesOf)
      rw [List.length_map] at this
      omega
     have ONE := hid (one_any B (namesG M b).length _ (M.G b).name wr hnm.map (by omega) hcn hsz)
     rw [hlen] at htl
     clear hnm hb he hcn hlen
     go_wp2_with fail
     refine ONE.out.mono ?_
     rintro e w2 ⟨r, rfl, h01, hz, hm2, hg2⟩
     have HB1 := HB.out
     have FIN := hid (show Nm w2 B (namesG M (b + 1)) (t + r) ∧ Below w.heap.size w w2 ∧ w2.heap[w.heap.size]? = W.heap[w.heap.size]? from ⟨by rw [namesG_next]; exact HbA.out.1.step h01 hz hm2, HbA.out.2.1.grown hg2 HbA.out.2.1.size (fun g hg => by cases hg; omega), by rw [hg2.block _ (by have := HbA.out.1.map.lt; omega) (fun e => by have := Option.some.inj e; omega)]; exact HbA.out.2.2⟩)
     have hr1 : r ≤ 1 := by omega
     clear h01 hz hm2 hg2 ONE HB1
     go_wp2_with fail
     go_round
     case rel => exact ⟨b + 1, t + r, by omega, by go_num, by simp, FIN.out.1, FIN.out.2.1, FIN.out.2.2⟩
     case measure => simp [intOf]; omega
    ·obtain rfl : b = M.glo.n := by omega
     clear hnm hb he
     go_wp2_with fail
     clear bb
     go_loopw [4, 7] (fun l iv wr => ∃ c t : Nat, c ≤ M.tab.n ∧ iv = .int .i64 c ∧ l = .int .i64 t ∧ Nm wr B (namesT M c) t ∧ Below w.heap.size w wr ∧ wr.heap[w.heap.size]? = W.heap[w.heap.size]?) (fun _ iv _ => M.tab.n - (intOf iv).toNat)
     case atStart => exact ⟨0, t, Nat.zero_le _, rfl, rfl, by rw [show namesT M 0 = namesG M M.glo.n by simp [namesT]]; exact HbA.out.1, HbA.out.2.1, HbA.out.2.2⟩
     case round =>
      obtain ⟨c, t, hc, rfl, rfl, hnm, hb, he⟩ := hrel
      have bb : wr.cell? ⟨w.heap.size, 2, none⟩ = some (.slice M.tab.a M.tab.n M.tab.c) := by rw [World.cell?_of_block (w := W) he]; exact BX.out.2.2.1
      have HcA := hid (And.intro hnm (And.intro hb he))
      by_cases lc : c < M.tab.n
      ·obtain ⟨rb, ro, hrx, r0, r1⟩ := (HM.out.on hb).tab.at underlying24 size49 lc
       have hsz : ((M.T c).name).size ≤ 40 := (HS.out.tabI c lc).1
       have hlen := lenT M c
       have htl := hnm.le
       have hcn : ((namesT M c).map bytesOf).count ((M.T c).name.data.toList) ≤ 1000 := by
        have := List.count_le_length (a := (M.T c).name.data.toList) (l := (namesT M c).map bytesOf)
        rw [List.length_map] at this
        omega
       have ONE := hid (one_any B (namesT M c).length _ (M.T c).name wr hnm.map (by omega) hcn hsz)
       rw [hlen] at htl
       clear hnm hb he hcn hlen
       go_wp2_with fail
       refine ONE.out.mono ?_
       rintro e w2 ⟨r, rfl, h01, hz, hm2, hg2⟩
       have HB1 := HB.out
       have FIN := hid (show Nm w2 B (namesT M (c + 1)) (t + r) ∧ Below w.heap.size w w2 ∧ w2.heap[w.heap.size]? = W.heap[w.heap.size]? from ⟨by rw [namesT_next]; exact HcA.out.1.step h01 hz hm2, HcA.out.2.1.grown hg2 HcA.out.2.1.size (fun g hg => by cases hg; omega), by rw [hg2.block _ (by have := HcA.out.1.map.lt; omega) (fun e => by have := Option.some.inj e; omega)]; exact HcA.out.2.2⟩)
       have hr1 : r ≤ 1 := by omega
       clear h01 hz hm2 hg2 ONE HB1
       go_wp2_with fail
       go_round
       case rel => exact ⟨c + 1, t + r, by omega, by go_num, by simp, FIN.out.1, FIN.out.2.1, FIN.out.2.2⟩
       case measure => simp [intOf]; omega
      ·obtain rfl : c = M.tab.n := by omega
       clear hnm hb he
       go_wp2_with fail
       clear bb
       go_loopw [4, 8] (fun l iv wr => ∃ d t : Nat, d ≤ M.fns.n ∧ iv = .int .i64 d ∧ l = .int .i64 t ∧ Nm wr B (namesF M d) t ∧ Below w.heap.size w wr ∧ wr.heap[w.heap.size]? = W.heap[w.heap.size]?) (fun _ iv _ => M.fns.n - (intOf iv).toNat)
       case atStart => exact ⟨0, t, Nat.zero_le _, rfl, rfl, by rw [show namesF M 0 = namesT M M.tab.n by simp [namesF]]; exact HcA.out.1, HcA.out.2.1, HcA.out.2.2⟩
       case round =>
        obtain ⟨d, t, hd, rfl, rfl, hnm, hb, he⟩ := hrel
        have bb : wr.cell? ⟨w.heap.size, 3, none⟩ = some (.slice M.fns.a M.fns.n M.fns.c) := by rw [World.cell?_of_block (w := W) he]; exact BX.out.2.2.2
        have HdA := hid (And.intro hnm (And.intro hb he))
        by_cases ld : d < M.fns.n
        ·obtain ⟨rb, ro, hrx, r0, r1, r2, r3, r4⟩ := (HM.out.on hb).fns.at underlying25 size36 ld
         have hsz : ((M.F d).name).size ≤ 40 := (HS.out.light d ld).name
         have hlen := lenF M d
         have htl := hnm.le
         have hcn : ((namesF M d).map bytesOf).count ((M.F d).name.data.toList) ≤ 1000 := by
          have := List.count_le_length (a := (M.F d).name.data.toList) (l := (namesF M d).map bytesOf)
          rw [List.length_map] at this
          omega
         have ONE := hid (one_any B (namesF M d).length _ (M.F d).name wr hnm.map (by omega) hcn hsz)
         rw [hlen] at htl
         clear hnm hb he hcn hlen
         go_wp2_with fail
         refine ONE.out.mono ?_
         rintro e w2 ⟨r, rfl, h01, hz, hm2, hg2⟩
         have HB1 := HB.out
         have FIN := hid (show Nm w2 B (namesF M (d + 1)) (t + r) ∧ Below w.heap.size w w2 ∧ w2.heap[w.heap.size]? = W.heap[w.heap.size]? from ⟨by rw [namesF_next]; exact HdA.out.1.step h01 hz hm2, HdA.out.2.1.grown hg2 HdA.out.2.1.size (fun g hg => by cases hg; omega), by rw [hg2.block _ (by have := HdA.out.1.map.lt; omega) (fun e => by have := Option.some.inj e; omega)]; exact HdA.out.2.2⟩)
         have hr1 : r ≤ 1 := by omega
         clear h01 hz hm2 hg2 ONE HB1
         go_wp2_with fail
         go_round
         case rel => exact ⟨d + 1, t + r, by omega, by go_num, by simp, FIN.out.1, FIN.out.2.1, FIN.out.2.2⟩
         case measure => simp [intOf]; omega
        ·obtain rfl : d = M.fns.n := by omega
         clear hnm hb he
         cases ht : decide ((t : Int) = 0) with
         | true =>
          have h0 : t = 0 := by simpa using ht
          have G := hid (HdA.out.1.good.1 h0)
          subst h0
          go_wp2_with fail
          go_ret
          exact ⟨true, rfl, by simp; exact G.out, HdA.out.2.1⟩
         | false =>
          have h0 : t ≠ 0 := by simpa using ht
          have G := hid (show ¬ NameM M from fun h => h0 (HdA.out.1.good.2 h))
          have q : ((t : Int) == 0) = false := by simp [h0]
          clear ht h0
          go_wp2_with fail
          go_ret
          exact ⟨false, rfl, by simp [G.out], HdA.out.2.1⟩

end Go.Proofs.YtnodofbpogcheaaGreat.Chk
