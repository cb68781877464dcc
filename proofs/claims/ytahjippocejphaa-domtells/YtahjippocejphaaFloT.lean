/-
  By the document: plnref3.from, Reach.
-/
import Derived.Test.YtahjippocejphaaFloS
namespace Go.Proofs.Ytahjippocejphaa.Flo
open Go.RowKit View Rd Copy Num Ty Srt

set_option linter.unusedVariables false

/-- Where block b goes, one left out. -/
def suL (F : FV) (ls : Int) (b : Nat) : List Nat := (su F b).filter (fun t => decide ((t : Int) ≠ ls))

theorem mem_suL {F : FV} {ls : Int} {b t : Nat} : t ∈ suL F ls b ↔ t ∈ su F b ∧ (t : Int) ≠ ls := by simp [suL]

theorem suL_neg {F : FV} {ls : Int} (h : ls < 0) : suL F ls = su F := by
  funext b
  unfold suL
  rw [List.filter_eq_self]
  intro t _
  simp
  omega

theorem upd_eq (m : Nat → Bool) (t i : Nat) : (Value.bool (upd m t i)) = if i = t then Value.bool true else Value.bool (m i) := by unfold upd; split <;> rfl

/-- What is met so far is met by ways, and the start is. -/
structure Met (F : FV) (ls : Int) (s0 : Nat) (f : Nat → Bool) : Prop where
  start : f s0 = true
  way : ∀ i, f i = true → Way (suL F ls) s0 i

theorem Met.more {F : FV} {ls : Int} {s0 : Nat} {f : Nat → Bool} (h : Met F ls s0 f) {b x : Nat} (hb : f b = true) (hx : x ∈ suL F ls b) : Met F ls s0 (upd f x) := by
  refine ⟨by unfold upd; split; rfl; exact h.start, fun i hi => ?_⟩
  unfold upd at hi
  split at hi
  · next e => subst e; exact (h.way b hb).step hx
  · exact h.way i hi

/-- All that goes on from those below b is met. -/
def Shut (F : FV) (ls : Int) (f : Nat → Bool) (b : Nat) : Prop := ∀ c, c < b → f c = true → ∀ t ∈ suL F ls c, f t = true

theorem met_iff {F : FV} {ls : Int} {s0 : Nat} {f : Nat → Bool} (h : Met F ls s0 f) (hs : Shut F ls f F.blk.n) (i : Nat) : f i = true ↔ Way (suL F ls) s0 i := by
  refine ⟨h.way i, fun hw => ?_⟩
  induction hw with
  | refl => exact h.start
  | @step b c _ hc ih =>
    have hb : b < F.blk.n := by
      have := (mem_suL.1 hc).1
      unfold su at this
      split at this
      · assumption
      · simp at this
    exact hs b hb ih c hc

def FromIs (F : FV) (st ls : Int) (w : World) (e : Ending) (w' : World) : Prop :=
  ∃ f : Nat → Bool, ReachIs F.blk.n f w e w' ∧ ∀ i, i < F.blk.n → (f i = true ↔ isB F st = true ∧ st ≠ ls ∧ Way (suL F ls) st.toNat i)

set_option maxRecDepth 10000 in
set_option maxHeartbeats 4000000 in
theorem from_ref (F : FV) (st ls : Int) (w : World) (hF : In w F) (hl : Light F) :
    Calls Try.prog 68 #[F.val, .int .i64 st, .int .i64 ls] w fun e w' => FromIs F st ls w e w' := by
  have HF := hid hF
  have HL := hid hl
  have gb := hl.blk
  have hmk := run_make_row' (P := Try.prog) 52 4 (.bool false) 1 underlying52 info4 rfl .i64 .i64 F.blk.n (by omega) (by omega)
  have hrow : ((w.alloc (.cells (fcells F) 33)).alloc (.cells (madeCells #[.bool false] F.blk.n) 4)).rowIs (w.heap.size + 1) 4 F.blk.n (fun _ => .bool false) := by
    have := World.rowIs_made (w.alloc (.cells (fcells F) 33)) (.bool false) F.blk.n 4
    simpa using this
  have HR := hid hrow
  have FW := hid ((FuncAt.alloc w F).on (new (same _) (.cells (madeCells #[.bool false] F.blk.n) 4)))
  clear hF hl hrow
  by_cases hgo : isB F st = true ∧ st ≠ ls
  case neg =>
    have fin : ∀ w', w'.rowIs (w.heap.size + 1) 4 F.blk.n (fun _ => .bool false) → Below w.heap.size w w' → FromIs F st ls w (.returned (.slice (some ⟨w.heap.size + 1, 0, none⟩) F.blk.n F.blk.n)) w' :=
      fun w' h1 h2 => ⟨fun _ => false, ⟨_, rfl, h1, by omega, h2⟩, fun i hi => by simp; exact fun a b => absurd ⟨a, b⟩ hgo⟩
    by_cases h0 : st < 0
    · have t1 : decide (st < 0) = true := by simpa using h0
      clear hgo
      go_enter Try.func68, Try.ntmps68
      go_wp2_with fail
      go_ret
      exact fin _ HR.out (new (new (same w) _) _)
    · have t1 : decide (st < 0) = false := by simpa using h0
      by_cases h1 : (F.blk.n : Int) ≤ st
      · have t2 : decide ((F.blk.n : Int) ≤ st) = true := by simpa using h1
        clear hgo
        go_enter Try.func68, Try.ntmps68
        go_wp2_with fail
        go_ret
        exact fin _ HR.out (new (new (same w) _) _)
      · have t2 : decide ((F.blk.n : Int) ≤ st) = false := by simpa using h1
        have h3 : st = ls := by
          refine Classical.byContradiction fun h => hgo ⟨?_, h⟩
          unfold isB; simp; omega
        have t3 : (st == ls) = true := by simpa using h3
        clear hgo h3
        go_enter Try.func68, Try.ntmps68
        go_wp2_with fail
        go_ret
        exact fin _ HR.out (new (new (same w) _) _)
  obtain ⟨hb, hne⟩ := hgo
  obtain ⟨s0, rfl⟩ : ∃ b : Nat, st = b := ⟨st.toNat, by unfold isB at hb; simp at hb; omega⟩
  have hs0 : s0 < F.blk.n := by unfold isB at hb; simp at hb; omega
  have t1 : decide ((s0 : Int) < 0) = false := by simp
  have t2 : decide ((F.blk.n : Int) ≤ (s0 : Int)) = false := by simp; omega
  have t2' : decide (F.blk.n ≤ s0) = false := by simp; omega
  have t3 : ((s0 : Int) == ls) = false := by simp; exact hne
  have HG := hid (And.intro hb hne)
  have hbz := bool_at (g := w.heap.size + 1) hs0
  have hmc : (madeCells #[Value.bool false] F.blk.n)[s0]? = some (.bool false) := by simp [madeCells, hs0, Nat.mod_one]
  have hr0 : ((w.alloc (.cells (fcells F) 33)).alloc (.cells ((madeCells #[.bool false] F.blk.n).setIfInBounds s0 (.bool true)) 4)).rowIs (w.heap.size + 1) 4 F.blk.n (fun i => .bool (upd (fun _ => false) s0 i)) := by
    refine ⟨(madeCells #[.bool false] F.blk.n).setIfInBounds s0 (.bool true), ?_, by simp [size_madeCells], fun i hi => ?_⟩
    · have := Deep.blk_alloc_new (w.alloc (.cells (fcells F) 33)) (.cells ((madeCells #[.bool false] F.blk.n).setIfInBounds s0 (.bool true)) 4)
      simpa using this
    · rw [Array.getElem?_setIfInBounds]
      by_cases e : s0 = i
      · subst e; simp [size_madeCells, hs0, upd]
      · rw [if_neg e]
        have e' : ¬ i = s0 := fun h => e h.symm
        simp [madeCells, hi, Nat.mod_one, upd, e']
  have R0 := hid hr0
  have M0 : Hid (Met F ls s0 (upd (fun _ => false) s0)) := ⟨by simp [upd], fun i hi => by
    unfold upd at hi
    split at hi
    · next e => rw [e]; exact .refl _
    · cases hi⟩
  clear hb hne hr0 HR
  go_enter Try.func68, Try.ntmps68
  go_wp2_with fail
  clear hmk hbz hmc
  go_loopg [8] (F.blk.n + 1) (fun k ag wr => ∃ (f : Nat → Bool) (g : Bool), ag = .bool g ∧ wr.rowIs (w.heap.size + 1) 4 F.blk.n (fun i => .bool (f i)) ∧ Met F ls s0 f ∧ (g = false → Shut F ls f F.blk.n) ∧ unmet f F.blk.n + (if g = true then 1 else 0) ≤ k ∧ FuncAt wr w.heap.size F ∧ Below w.heap.size w wr)
  case atStart => exact ⟨_, true, rfl, R0.out, M0.out, fun h => (by cases h), by have := unmet_mono (m := fun _ => false) (m' := upd (fun _ => false) s0) (fun x h => (by cases h)) F.blk.n; rw [unmet_none] at this; simp; exact this, (FuncAt.alloc w F).on (new (same _) _), new (new (same w) _) _⟩
  case round =>
    clear R0 M0
    obtain ⟨f, g, rfl, hr, hm, hs, hk, hf, hb⟩ := hrel
    have HR := hid hr
    have HM := hid hm
    have HS := hid hs
    have HK := hid hk
    have HFA := hid hf
    clear hr hm hs hk hf
    cases g with
    | false =>
      go_wp2_with fail
      go_ret
      exact ⟨f, ⟨_, rfl, HR.out, by omega, hb⟩, fun i hi => by
        rw [met_iff HM.out (HS.out (by simp)) i]
        exact ⟨fun h => ⟨HG.out.1, HG.out.2, h⟩, fun h => h.2.2⟩⟩
    | true =>
      go_wp2_with fail
      clear HS
      go_loopw [8, 9] (fun ag i wx => ∃ (f2 : Nat → Bool) (g : Bool) (b : Nat), b ≤ F.blk.n ∧ ag = .bool g ∧ i = .int .i64 b ∧ wx.rowIs (w.heap.size + 1) 4 F.blk.n (fun i => .bool (f2 i)) ∧ Met F ls s0 f2 ∧ (g = false → Shut F ls f2 b) ∧ unmet f2 F.blk.n + (if g = true then 1 else 0) ≤ unmet f F.blk.n ∧ FuncAt wx w.heap.size F ∧ Below w.heap.size w wx) (fun _ i _ => F.blk.n - (intOf i).toNat)
      case atStart => exact ⟨f, false, 0, Nat.zero_le _, rfl, rfl, HR.out, HM.out, fun _ c hc => by omega, by simp, HFA.out, hb⟩
      case round =>
        clear HR HM HFA hb
        obtain ⟨f2, g, b, hbn, rfl, rfl, hr, hm, hs, hu, hf, hb⟩ := hrel
        have HR := hid hr
        have HM := hid hm
        have HS := hid hs
        have HU := hid hu
        have HFA := hid hf
        obtain ⟨c0, c1, c2, c3, c4⟩ := hf
        have hwl := hr.lt
        clear hr hm hs hu
        by_cases hlt : b < F.blk.n
        · have hbb := bool_at (g := w.heap.size + 1) hlt
          have hrc := HR.out.cell hlt
          by_cases hfb : f2 b = true
          · rw [hfb] at hrc
            have FB := hid hfb
            clear hfb
            go_wp2_with fail
            refine (next_ref F b _ (HF.out.on hb) HL.out).mono ?_
            rintro e w3 ⟨s3, rfl, hsn, hsi, hsm, hb3⟩
            rw [suI_nat] at hsn hsi
            have hle := su_le HL.out b
            have hs20 : s3.n ≤ 20 := by omega
            have SN := hid hsn
            have SI := hid hsi
            have SM := hid hsm
            have R3 := hid (HR.out.of_block (hb3.block _ HR.out.lt))
            have F3 := hid (HFA.out.on hb3)
            have B3 := hid (View.more hb hb3)
            have z3 := hb3.size
            clear hsn hsi hsm hb3 hle HR HFA hb hbb hrc c0 c1 c2 c3 c4
            go_wp2_with fail
            go_loopw [8, 11] (fun ag i wy => ∃ (f3 : Nat → Bool) (g : Bool) (t : Nat), t ≤ s3.n ∧ ag = .bool g ∧ i = .int .i64 t ∧ wy.rowIs (w.heap.size + 1) 4 F.blk.n (fun i => .bool (f3 i)) ∧ Met F ls s0 f3 ∧ f3 b = true ∧ (g = false → Shut F ls f3 b ∧ ∀ j, j < t → ((su F b).getD j 0 : Int) ≠ ls → f3 ((su F b).getD j 0) = true) ∧ unmet f3 F.blk.n + (if g = true then 1 else 0) ≤ unmet f F.blk.n ∧ FuncAt wy w.heap.size F ∧ Below w.heap.size w wy ∧ Ints wy s3 (fun i => (((su F b).getD i 0 : Nat) : Int))) (fun _ i _ => s3.n - (intOf i).toNat)
            case atStart => exact ⟨f2, g, 0, Nat.zero_le _, rfl, rfl, R3.out, HM.out, FB.out, fun h => ⟨HS.out h, fun j hj => by omega⟩, HU.out, F3.out, B3.out, SI.out⟩
            case round =>
              clear R3 F3 B3 SI HM HS HU FB
              obtain ⟨f3, g, t, ht, rfl, rfl, hr, hm, hfb, hs, hu, hf, hb, hi⟩ := hrel
              have HR := hid hr
              have HM := hid hm
              have FB := hid hfb
              have HS := hid hs
              have HU := hid hu
              have HFA := hid hf
              have HI := hid hi
              have hwl2 := hr.lt
              clear hr hm hs hu hf hfb hi
              by_cases hlt2 : t < s3.n
              · obtain ⟨ib, io, hiy, hcell⟩ := HI.out.at hlt2
                have htl : t < (su F b).length := by have := SN.out; omega
                have hmX := getD_mem htl
                have hx := su_lt F b _ hmX
                obtain ⟨X, hX⟩ : ∃ X, (su F b).getD t 0 = X := ⟨_, rfl⟩
                rw [hX] at hmX hx
                simp only [hX] at hcell
                have hbx := bool_at (g := w.heap.size + 1) hx
                have hrx := HR.out.cell hx
                have hrf := HR.out.frozen X
                have HX := hid (And.intro hX hmX)
                clear hX hmX
                by_cases hls : (X : Int) = ls
                · have t5 : ((X : Int) != ls) = false := by simp [hls]
                  have HLS := hid hls
                  clear hls
                  go_wp2_with fail
                  go_round
                  case rel =>
                    refine ⟨f3, g, t + 1, by omega, rfl, by go_num, HR.out, HM.out, FB.out, fun h => ⟨(HS.out h).1, fun j hj hne => ?_⟩, HU.out, HFA.out, hb, HI.out⟩
                    by_cases e : j = t
                    · subst e; rw [HX.out.1] at hne; exact absurd HLS.out hne
                    · exact (HS.out h).2 j (by omega) hne
                  case measure => simp [intOf]; omega
                · have t5 : ((X : Int) != ls) = true := by simp [hls]
                  have HLS := hid hls
                  clear hls
                  by_cases hfx : f3 X = true
                  · rw [hfx] at hrx
                    have FX := hid hfx
                    clear hfx
                    go_wp2_with fail
                    go_round
                    case rel =>
                      refine ⟨f3, g, t + 1, by omega, rfl, by go_num, HR.out, HM.out, FB.out, fun h => ⟨(HS.out h).1, fun j hj hne => ?_⟩, HU.out, HFA.out, hb, HI.out⟩
                      by_cases e : j = t
                      · subst e; rw [HX.out.1]; exact FX.out
                      · exact (HS.out h).2 j (by omega) hne
                    case measure => simp [intOf]; omega
                  · have hfx' : f3 X = false := by simpa using hfx
                    rw [hfx'] at hrx
                    have FX := hid hfx'
                    clear hfx hfx'
                    go_wp2_with fail
                    go_round
                    case rel =>
                      have hmore := HM.out.more FB.out (mem_suL.2 ⟨HX.out.2, HLS.out⟩)
                      have hun := unmet_upd FX.out (n := F.blk.n)
                      rw [if_pos hx] at hun
                      refine ⟨upd f3 X, true, t + 1, by omega, rfl, by go_num, (HR.out.set X (.bool true)).congr (fun i hi => (upd_eq f3 X i).symm), hmore, by unfold upd; split; rfl; exact FB.out, fun h => (by cases h), ?_, HFA.out.kept ((Kept.refl (fun b => b ≠ w.heap.size + 1) wr).setCell (fun h => h rfl) _) (by show _ ≠ _; omega), hb.setCell (by show _ ≤ w.heap.size + 1; omega) _, HI.out.kept ((Kept.refl (fun b => b ≠ w.heap.size + 1) wr).setCell (fun h => h rfl) _) (fun b off h h0 => by have := (SM.out.ge b off h h0).1; omega)⟩
                      have := HU.out
                      simp
                      split at this <;> omega
                    case measure => simp [intOf]; omega
              · obtain rfl : t = s3.n := by omega
                go_wp2_with fail
                go_round
                case rel =>
                  refine ⟨f3, g, b + 1, by omega, rfl, by go_num, HR.out, HM.out, fun h c hc hfc x hx => ?_, HU.out, HFA.out, hb⟩
                  by_cases e : c = b
                  · subst e
                    obtain ⟨h1, h2⟩ := mem_suL.1 hx
                    obtain ⟨j, hj, e'⟩ := List.getElem_of_mem h1
                    have h3 := (HS.out h).2 j (by rw [SN.out]; exact hj)
                    have hg : (su F c).getD j 0 = x := by simp only [List.getD, List.getElem?_eq_getElem hj, e', Option.getD_some]
                    rw [hg] at h3
                    exact h3 h2
                  · exact (HS.out h).1 c (by omega) hfc x hx
                case measure => simp [intOf]; omega
          · have hfb' : f2 b = false := by simpa using hfb
            rw [hfb'] at hrc
            have FB := hid hfb'
            clear hfb hfb'
            go_wp2_with fail
            go_round
            case rel =>
              refine ⟨f2, g, b + 1, by omega, rfl, by go_num, HR.out, HM.out, fun h c hc hfc x hx => ?_, HU.out, HFA.out, hb⟩
              by_cases e : c = b
              · subst e; rw [FB.out] at hfc; cases hfc
              · exact HS.out h c (by omega) hfc x hx
            case measure => simp [intOf]; omega
        · obtain rfl : b = F.blk.n := by omega
          go_wp2_with fail
          go_roundg (unmet f2 F.blk.n + (if g = true then 1 else 0))
          case measure => have h1 := HK.out; have h2 := HU.out; simp at h1; omega
          case rel => exact ⟨f2, g, rfl, HR.out, HM.out, HS.out, Nat.le_refl _, HFA.out, hb⟩

theorem reach_ref (F : FV) (w : World) (hF : In w F) (hl : Light F) :
    Calls Try.prog 38 #[F.val] w fun e w' => FromIs F 0 (-1) w e w' := by
  have HF := hid hF
  have HL := hid hl
  clear hF hl
  go_enter Try.func38, Try.ntmps38
  go_wp2_with fail
  refine (from_ref F 0 (-1) _ (HF.out.on (new (same w) _)) HL.out).mono ?_
  rintro e w1 ⟨f, ⟨M, rfl, hr, hM, hb⟩, hf⟩
  have FIN := hid (And.intro hr (And.intro hM (And.intro hb hf)))
  clear hr hM hb hf
  go_wp2_with fail
  go_ret
  obtain ⟨hr, hM, hb, hf⟩ := FIN.out
  simp only [World.size_alloc] at hM
  exact ⟨f, ⟨M, rfl, hr, by omega, View.more (new (same w) _) hb⟩, hf⟩

end Go.Proofs.Ytahjippocejphaa.Flo
