/-
  Pure, First, NeatLaw, ChkX: laid together.
-/
import Derived.Test.YtolipafcoolpgaaGreatNeat
import Derived.Test.YtolipafcoolpgaaGreatJ1
import Derived.Test.YtolipafcoolpgaaGreatJ4
import Derived.Test.YtolipafcoolpgaaGreatJ0
import Derived.BigQuiet
import Derived.Deep.QuietTactic
import Derived.Test.YtolipafcoolpgaaGreatChkV
/-
  Made neat twice is made neat; what numbers become (no program in it).
-/
namespace Go.Proofs.YtolipafcoolpgaaGreat.Own
open Go.RowKit View Rd Copy Srt Num Ty

set_option linter.unusedVariables false

end Go.Proofs.YtolipafcoolpgaaGreat.Own

/-
  The chapter's example: plnlaw3.first answers true.
-/
namespace Go.Proofs.YtolipafcoolpgaaGreat.First
open Go.RowKit View Rd Copy Srt Num Own

set_option linter.unusedVariables false

end Go.Proofs.YtolipafcoolpgaaGreat.First

/-
  The walk of plnlaw3.IrNeat: it answers true, whatever function lies there.
-/
namespace Go.Proofs.YtolipafcoolpgaaGreat.NeatLaw
open Go.RowKit View Rd Copy Srt Num Own Ty First

set_option linter.unusedVariables false

theorem cnt_mono {f g : Nat → Nat} : ∀ {k : Nat}, (∀ t, t < k → f t ≤ g t) → cnt f k ≤ cnt g k
 | 0, _ => Nat.le_refl _
 | k + 1, h => by
  have h1 := cnt_mono (k := k) (fun t ht => h t (by omega))
  have h2 := h k (by omega)
  rw [cnt, cnt]; omega

theorem total_le {F : FV} (hl : Light F) : F.par.n + cnt (fun j => giv (F.I j) (F.B j).n) F.blk.n ≤ 408 := by
 have h1 := cnt_mono (f := fun j => giv (F.I j) (F.B j).n) (g := fun j => (F.B j).n) (k := F.blk.n) (fun t ht => giv_le _ _)
 have := hl.all
 have := hl.par
 omega

end Go.Proofs.YtolipafcoolpgaaGreat.NeatLaw

/-
  Types that fit, by the document: plnref3.types.
-/
namespace Go.Proofs.YtolipafcoolpgaaGreat.Chk
open Go.RowKit View Rd Num Opn Copy Ty Srt Go.Proofs.YtolipafcoolpgaaGreat.Mod

set_option linter.unusedVariables false

def gotT (F : FV) (j k i : Nat) : Int := (typesL F).getD (F.A j k i).toNat 0

def TypeF (M : MV) (F : FV) : Prop := ∀ j, j < F.blk.n → ∀ k, k < (F.B j).n → FitI M F (F.I j k) (F.I j k).args.n (gotT F j k)

def ArgsF (F : FV) : Prop := ∀ j, j < F.blk.n → ∀ k, k < (F.B j).n → ∀ i, i < (F.I j k).args.n → 0 ≤ F.A j k i ∧ F.A j k i < (typesL F).length

set_option maxRecDepth 10000 in
set_option maxHeartbeats 4000000 in
theorem types_any (M : MV) (F : FV) (w : World) (hM : InM w M) (hs : SmallM M) (hF : In w F) (hl : Light F) (hf : FormF F) (hy : ∀ j, j < F.blk.n → ∀ k, k < (F.B j).n → SymI M (F.I j k)) (ha : ArgsF F) :
  Calls Tryz.prog 60 #[M.val, F.val] w fun e w' => Ans (fun r => r = true ↔ TypeF M F) w e w' := by
 have gb := hl.blk
 obtain ⟨W, hW⟩ : ∃ W, (w.alloc (.cells (mcells M) 27)).alloc (.cells (fcells F) 36) = W := ⟨_, rfl⟩
 have LW := hid (show Below w.heap.size w W by rw [← hW]; exact new (new (same w) _) _)
 have FW := hid (show FuncAt W (w.heap.size + 1) F by rw [← hW]; have := FuncAt.alloc (w.alloc (.cells (mcells M) 27)) F; simpa using this)
 have MW := hid (show W.cell? ⟨w.heap.size, 0, none⟩ = some (.slice M.ext.a M.ext.n M.ext.c) ∧ W.cell? ⟨w.heap.size, 1, none⟩ = some (.slice M.glo.a M.glo.n M.glo.c) ∧ W.cell? ⟨w.heap.size, 2, none⟩ = some (.slice M.tab.a M.tab.n M.tab.c) ∧ W.cell? ⟨w.heap.size, 3, none⟩ = some (.slice M.fns.a M.fns.n M.fns.c) by
  rw [← hW]
  exact ⟨cell_on (new (same _) _) (by simp), cell_on (new (same _) _) (by simp), cell_on (new (same _) _) (by simp), cell_on (new (same _) _) (by simp)⟩)
 have IM := hid (hM.on LW.out)
 have IF := hid (hF.on LW.out)
 have HS := hid hs
 have HL := hid hl
 have HFO := hid hf
 have HY := hid hy
 have HAR := hid ha
 have HWW := hid hW
 obtain ⟨d0, d1, d2, d3, d4⟩ := FW.out
 clear hM hs hF hl hf hy ha hW
 go_enter Tryz.func60, Tryz.ntmps60
 go_wp2_with fail
 simp only [HWW.out]
 clear HWW
 go_wp2_with fail
 refine (types_ref F _ IF.out HL.out).mono ?_
 rintro e w1 ⟨s5, rfl, hn5, hi5, hm5, hb5⟩
 have N5 := hid hn5
 have I5 := hid hi5
 have B5 := hid hb5
 have g5 : s5.n ≤ 1000 := by rw [hn5, typesL_length]; have := NeatLaw.total_le HL.out; omega
 clear hn5 hi5 hm5 hb5 d0 d1 d2 d3 d4
 go_wp2_with fail
 go_loopw [6] (fun iv wr => ∃ j : Nat, j ≤ F.blk.n ∧ iv = .int .i64 j ∧ (∀ t, t < j → ∀ k, k < (F.B t).n → FitI M F (F.I t k) (F.I t k).args.n (gotT F t k)) ∧ Below w1.heap.size w1 wr) (fun iv _ => F.blk.n - (intOf iv).toNat)
 case atStart => exact ⟨0, Nat.zero_le _, rfl, fun t ht => by omega, same _⟩
 case round =>
  obtain ⟨j, hj, rfl, hall, hb⟩ := hrel
  have HA := hid (And.intro hall hb)
  obtain ⟨d0, d1, d2, d3, d4⟩ := FW.out.on (View.more B5.out hb)
  by_cases lj : j < F.blk.n
  ·obtain ⟨rb, ro, hrx, hrc0⟩ := IF.out.blk.at lj
   have RC := hid hrc0
   have hrc := cell_on (View.more B5.out hb) hrc0
   have gi := HL.out.ins j lj
   clear hall hb hrc0
   go_wp2_with fail
   clear d0 d1 d2 d3 d4 hrc
   go_loopw [7] (fun iv wx => ∃ k : Nat, k ≤ (F.B j).n ∧ iv = .int .i64 k ∧ (∀ t, t < k → FitI M F (F.I j t) (F.I j t).args.n (gotT F j t)) ∧ Below w1.heap.size w1 wx) (fun iv _ => (F.B j).n - (intOf iv).toNat)
   case atStart => exact ⟨0, Nat.zero_le _, rfl, fun t ht => by omega, HA.out.2⟩
   case round =>
    obtain ⟨k, hk, rfl, hall, hb⟩ := hrel
    have HK := hid (And.intro hall hb)
    obtain ⟨d0, d1, d2, d3, d4⟩ := FW.out.on (View.more B5.out hb)
    have hrc := cell_on (View.more B5.out hb) RC.out
    by_cases lk : k < (F.B j).n
    ·obtain ⟨ib, io, hiy, c0, c1, c2, c3, c4, c5, c6⟩ := ((IF.out.ins j lj).on (View.more B5.out hb)).at lk
     have ga := HL.out.args j lj k lk
     clear hall hb
     go_wp2_with fail
     obtain ⟨N8, hN8⟩ : ∃ N8, wr.heap.size = N8 := ⟨_, rfl⟩
     obtain ⟨W8, hW8⟩ : ∃ W8, wr.alloc (.cells (F.I j k).cells 43) = W8 := ⟨_, rfl⟩
     have X8 := hid (show InsAt W8 N8 0 (F.I j k) by rw [← hW8, ← hN8]; exact InsAt.alloc wr _)
     have L8 := hid (show Below w1.heap.size w1 W8 by rw [← hW8]; exact new HK.out.2 _)
     rw [hW8, hN8]
     clear hW8 hN8 d0 d1 d2 d3 d4 hrc c0 c1 c2 c3 c4 c5 c6
     go_loopw [9, 10] (fun v iv wx => ∃ i : Nat, i ≤ (F.I j k).args.n ∧ iv = .int .i64 i ∧ wx.ownsRow W8.heap.size 3 1 v ((List.range i).map (gotT F j k)).length (((List.range i).map (gotT F j k)).map (Value.int .i64)) ∧ Below W8.heap.size W8 wx) (fun _ iv _ => (F.I j k).args.n - (intOf iv).toNat)
     case atStart => exact ⟨0, Nat.zero_le _, rfl, World.ownsRow_nil _ _ _ _, same _⟩
     case round =>
      obtain ⟨i, hi, rfl, hown, hb⟩ := hrel
      have HI := hid (And.intro hown hb)
      obtain ⟨c0, c1, c2, c3, c4, c5, c6⟩ := (X8.out.on hb).head
      by_cases li : i < (F.I j k).args.n
      ·obtain ⟨pb, po, hpx, hpc⟩ := ((IF.out.args j lj k lk).on (View.more B5.out (View.more L8.out hb))).at li
       obtain ⟨q1, q2⟩ := HAR.out j lj k lk i li
       obtain ⟨a, hae⟩ : ∃ a : Nat, F.A j k i = a := ⟨(F.A j k i).toNat, by omega⟩
       rw [hae] at hpc
       have la : a < s5.n := by rw [N5.out]; omega
       obtain ⟨tb, to_, htx, htc⟩ := (I5.out.on (View.more L8.out hb)).at la
       have hgt : gotT F j k i = (typesL F).getD a 0 := by unfold gotT; rw [hae]; simp
       rw [← hgt] at htc
       have hzz := hb.size
       have hlen : ((List.range i).map (gotT F j k)).length = i := by simp
       clear q1 q2 hae hgt hown hb
       go_wp2_with (at_builtin; refine append_one rfl (.tmp 47) (.tmp 56) rfl W8.heap.size _ ((List.range i).map (gotT F j k)) rfl (gotT F j k i) HI.out.1 rfl (by rw [hlen]; omega) (by omega) ?_; intro v2 w2 hown2 hgr2)
       have FIN := hid (show w2.ownsRow W8.heap.size 3 1 v2 ((List.range (i + 1)).map (gotT F j k)).length (((List.range (i + 1)).map (gotT F j k)).map (Value.int .i64)) ∧ Below W8.heap.size W8 w2 by
        rw [List.range_succ, List.map_append]
        refine ⟨hown2, (new HI.out.2 _).grown hgr2 (by simp; omega) (fun b hb => (HI.out.1.lt b hb).1)⟩)
       clear hown2 hgr2
       go_wp2_with fail
       go_round
       case rel => exact ⟨i + 1, by omega, by go_num, FIN.out.1, FIN.out.2⟩
       case measure => simp [intOf]; omega
      ·obtain rfl : i = (F.I j k).args.n := by omega
       obtain ⟨m0, m1, m2, m3⟩ := MW.out
       have hb9 := View.more B5.out (View.more L8.out hb)
       have m0' := cell_on hb9 m0
       have m1' := cell_on hb9 m1
       have m2' := cell_on hb9 m2
       have m3' := cell_on hb9 m3
       obtain ⟨d0, d1, d2, d3, d4⟩ := FW.out.on hb9
       obtain ⟨sg, rfl, hsn, hsi, hsm⟩ := ints_of_owns hown (by simp; omega)
       have hsn' : sg.n = (F.I j k).args.n := by simpa using hsn
       have GI := hid (show Ints wr sg (gotT F j k) from hsi.congr (fun i hi => by
        have hi' : i < (F.I j k).args.n := by omega
        simp [List.getD, hi']))
       have FIT := hid (fits_any M F (F.I j k) sg (gotT F j k) wr (IM.out.on hb9) HS.out (HFO.out.2.2 j lj k lk) (HY.out j lj k lk) GI.out hsn' (by omega))
       have HSN := hid hsn'
       have B9 := hid hb9
       clear hown hb m0 m1 m2 m3 hsn hsn' hsi hsm hb9
       go_wp2_with fail
       refine FIT.out.mono ?_
       rintro e w9 ⟨r, rfl, hr, hbf⟩
       have HR := hid (show r = true ↔ FitI M F (F.I j k) (F.I j k).args.n (gotT F j k) by have := hr; rw [HSN.out] at this; exact this)
       have BF := hid hbf
       clear hr hbf m0' m1' m2' m3' d0 d1 d2 d3 d4 c0 c1 c2 c3 c4 c5 c6
       cases r with
       | false =>
        have HN := hid (show ¬ TypeF M F from fun h => by have := HR.out.2 (h j lj k lk); cases this)
        go_wp2_with fail
        go_ret
        exact ⟨false, rfl, by simp [HN.out], View.more LW.out (View.more B9.out BF.out)⟩
       | true =>
        have HP := hid (HR.out.1 rfl)
        go_wp2_with fail
        go_round
        case rel =>
         have f := upto1 HK.out.1 HP.out
         have l := View.more L8.out (View.more HI.out.2 BF.out)
         first
          | exact ⟨k + 1, by omega, by go_num, f, l⟩
          | ((repeat apply Exists.intro); exact ⟨⟨k + 1, by omega, by go_num, f, l⟩, rfl⟩)
        case measure => simp [intOf]; omega
    ·obtain rfl : k = (F.B j).n := by omega
     clear hall hb
     go_wp2_with fail
     go_round
     case rel =>
      have f := upto1 (p := fun t => ∀ k, k < (F.B t).n → FitI M F (F.I t k) (F.I t k).args.n (gotT F t k)) HA.out.1 HK.out.1
      first
       | exact ⟨j + 1, by omega, by go_num, f, HK.out.2⟩
       | ((repeat apply Exists.intro); exact ⟨⟨j + 1, by omega, by go_num, f, HK.out.2⟩, rfl⟩)
     case measure => simp [intOf]; omega
  ·obtain rfl : j = F.blk.n := by omega
   clear hall hb
   go_wp2_with fail
   go_ret
   exact ⟨true, rfl, by simp; exact HA.out.1, View.more LW.out (View.more B5.out HA.out.2)⟩

end Go.Proofs.YtolipafcoolpgaaGreat.Chk
