/-
  Wfp, Dmb, Dmh, Wfq, Wfr, Dmc, Dmd, Dmg: laid together.
-/
import Derived.Test.YtbmfimojhcdnbaaJ5
import Derived.Test.YtbmfimojhcdnbaaChkZ
import Derived.Test.YtbmfimojhcdnbaaLt
import Derived.Test.YtbmfimojhcdnbaaFloQ
import Derived.Test.YtbmfimojhcdnbaaJ0
import Derived.Test.YtbmfimojhcdnbaaDma
import Derived.Test.YtbmfimojhcdnbaaDme
import Derived.Deep.RegionHeld3
import Derived.Deep.CutRange
/-
  wf: values are numbered in order.
-/
namespace Go.Proofs.Ytbmfimojhcdnbaa.Wf
open Go.RowKit View Rd Num Opn Copy Srt Go.Proofs.Ytbmfimojhcdnbaa.Mod Go.Proofs.Ytbmfimojhcdnbaa.Chk

set_option linter.unusedVariables false

def NumF (F : FV) : Prop := ∀ b, b < F.blk.n → ∀ k, k < (F.B b).n → ToI F b k

theorem giv_next (f : Nat → IV) (k : Nat) : giv f (k + 1) = giv f k + (if (f k).ty ≠ 0 then 1 else 0) := by
  rw [giv]; simp

set_option maxRecDepth 10000 in
set_option maxHeartbeats 4000000 in
theorem numberFault_any (F : FV) (w : World) (hF : In w F) (hl : Light F) : Calls Try.prog 121 #[F.val] w fun e w' => Ans (fun r => r = true ↔ ¬ NumF F) w e w' := by
  have gb := hl.blk
  have gp := hl.par
  have gv := allV_le hl
  obtain ⟨W, hW⟩ : ∃ W, w.alloc (.cells (fcells F) 33) = W := ⟨_, rfl⟩
  have FW := hid (show FuncAt W w.heap.size F by rw [← hW]; exact FuncAt.alloc w F)
  have HF := hid (show In W F by rw [← hW]; exact hF.on (new (same w) _))
  have LW := hid (show Below w.heap.size w W by rw [← hW]; exact new (same w) _)
  have HL := hid hl
  have HWW := hid hW
  have YES := hid (show ∀ wx, Below W.heap.size W wx → ¬ NumF F → Ans (fun r => r = true ↔ ¬ NumF F) w (.returned (.bool true)) wx from fun wx h hn => ⟨true, rfl, by simp [hn], View.more LW.out h⟩)
  have f2 := FW.out.c2
  have f4 := FW.out.c4
  have q1 : IntKind.i64.wrap ((F.par.n : Int) + 1) = (F.par.n : Int) + 1 := by simp only [IntKind.wrap_i64]; omega
  have q2 : wrap64 ((F.par.n : Int) + 1) = (F.par.n : Int) + 1 := by unfold wrap64; omega
  clear hF hl hW
  go_enter Try.func121, Try.ntmps121
  go_wp2_with fail
  simp only [HWW.out]
  clear HWW f2 f4
  go_loopw [3, 15] (fun nv iv wr => ∃ j : Nat, j ≤ F.blk.n ∧ iv = .int .i64 j ∧ nv = .int .i64 (lastOf F j + 1 : Nat) ∧ (∀ t, t < j → ∀ k, k < (F.B t).n → ToI F t k) ∧ Below W.heap.size W wr) (fun _ iv _ => F.blk.n - (intOf iv).toNat)
  case atStart => exact ⟨0, Nat.zero_le _, rfl, by simp [lastOf, cnt], fun t ht => by omega, same _⟩
  case round =>
    obtain ⟨j, hj, rfl, rfl, hall, hb⟩ := hrel
    have HA := hid (And.intro hall hb)
    by_cases lj : j < F.blk.n
    · obtain ⟨rb, ro, hrx, hrc0⟩ := HF.out.blk.at lj
      have hrc := cell_on hb hrc0
      have gi := HL.out.ins j lj
      obtain ⟨L, hL⟩ : ∃ L, lastOf F j = L := ⟨_, rfl⟩
      have hLa : L ≤ allV F := by rw [← hL, ← lastOf_all]; exact lastOf_mono F hj
      have EL := hid hL
      rw [hL]
      have L0 := hid (show Below W.heap.size W (wr.alloc (.cells #[.slice (F.B j).a (F.B j).n (F.B j).c] 37)) from new HA.out.2 _)
      clear hall hb hrc0 hL
      go_wp2_with fail
      clear hrc
      go_loopw [3, 22] (fun nv iv wx => ∃ k : Nat, k ≤ (F.B j).n ∧ iv = .int .i64 k ∧ nv = .int .i64 (L + giv (F.I j) k + 1 : Nat) ∧ (∀ t, t < k → ToI F j t) ∧ Below W.heap.size W wx) (fun _ iv _ => (F.B j).n - (intOf iv).toNat)
      case atStart => exact ⟨0, Nat.zero_le _, rfl, by simp [giv], fun t ht => by omega, L0.out⟩
      case round =>
        obtain ⟨k, hk, rfl, rfl, hall, hb⟩ := hrel
        have HK := hid (And.intro hall hb)
        by_cases lk : k < (F.B j).n
        · obtain ⟨ib, io, hiy, c0, c1, c2, c3, c4, c5, c6⟩ := ((HF.out.ins j lj).on hb).at lk
          have hgk := giv_le (F.I j) k
          obtain ⟨N, hN⟩ : ∃ N, L + giv (F.I j) k + 1 = N := ⟨_, rfl⟩
          have EN := hid hN
          have hN2 : N ≤ 20000 := by omega
          rw [hN]
          by_cases hty : (F.I j k).ty = 0
          · have t1 : ((F.I j k).ty == 0) = true := by simp [hty]
            have HTY := hid hty
            clear hall hb hty hN hgk
            go_wp2_with fail
            have FIN := hid (show (∀ t, t < k + 1 → ToI F j t) ∧ N = L + giv (F.I j) (k + 1) + 1 from ⟨upto1 HK.out.1 (fun h => absurd HTY.out h), by rw [giv, ← EN.out]; simp [HTY.out]⟩)
            go_round
            case rel =>
              first
                | exact ⟨k + 1, by omega, by go_num, by rw [← FIN.out.2], FIN.out.1, new HK.out.2 _⟩
                | ((repeat apply Exists.intro); exact ⟨⟨k + 1, by omega, by go_num, by rw [← FIN.out.2], FIN.out.1, new HK.out.2 _⟩, rfl⟩)
            case measure => simp [intOf]; omega
          · have t1 : ((F.I j k).ty == 0) = false := by simp [hty]
            have HID := hid (show idx F j k = N by rw [idx_eq F hty, EL.out, hN])
            have HTY := hid hty
            clear hall hb hty hN hgk
            by_cases hto : (F.I j k).to = (N : Int)
            · have t2 : ((F.I j k).to != (N : Int)) = false := by simp [hto]
              have HTO := hid hto
              clear hto
              go_wp2_with fail
              have FIN := hid (show (∀ t, t < k + 1 → ToI F j t) ∧ (N : Int) + 1 = ((L + giv (F.I j) (k + 1) + 1 : Nat) : Int) from ⟨upto1 HK.out.1 (fun h => by rw [HID.out, HTO.out]), by rw [giv, ← EN.out]; simp [HTY.out]; omega⟩)
              go_round
              case rel =>
                first
                  | exact ⟨k + 1, by omega, by go_num, by rw [← FIN.out.2], FIN.out.1, new HK.out.2 _⟩
                  | ((repeat apply Exists.intro); exact ⟨⟨k + 1, by omega, by go_num, by rw [← FIN.out.2], FIN.out.1, new HK.out.2 _⟩, rfl⟩)
              case measure => simp [intOf]; omega
            · have t2 : ((F.I j k).to != (N : Int)) = true := by simp [hto]
              have HN := hid (show ¬ NumF F from fun h => hto (by rw [h j lj k lk HTY.out, HID.out]))
              clear hto
              go_wp2_with fail
              go_ret
              exact YES.out _ (new HK.out.2 _) HN.out
        · obtain rfl : k = (F.B j).n := by omega
          clear hall hb
          go_wp2_with fail
          have GN := hid (show L + giv (F.I j) (F.B j).n = lastOf F (j + 1) by rw [lastOf_next, EL.out])
          go_round
          case rel =>
            have f := upto1 (p := fun t => ∀ k, k < (F.B t).n → ToI F t k) HA.out.1 HK.out.1
            first
              | exact ⟨j + 1, by omega, by go_num, by rw [← GN.out]; try simp, f, HK.out.2⟩
              | ((repeat apply Exists.intro); exact ⟨⟨j + 1, by omega, by go_num, by rw [← GN.out]; try simp, f, HK.out.2⟩, rfl⟩)
          case measure => simp [intOf]; omega
    · obtain rfl : j = F.blk.n := by omega
      rw [lastOf_all]
      clear hall hb
      go_wp2_with fail
      go_ret
      exact ⟨false, rfl, ⟨fun h => absurd h (by simp), fun h => absurd HA.out.1 h⟩, View.more LW.out HA.out.2⟩

end Go.Proofs.Ytbmfimojhcdnbaa.Wf

/-
  Depth first with a pile of steps, in plain words: what dom.grow keeps.
-/
namespace Go.Proofs.Ytbmfimojhcdnbaa.Dm
open Go.Proofs.Ytbmfimojhcdnbaa.Flo Go.Proofs.Ytbmfimojhcdnbaa.Lt

set_option linter.unusedVariables false

theorem anc_lt {par : Nat → Nat} {m : Nat} (hlt : ∀ p, 0 < p → p < m → par p < p) {i j : Nat} (h : Anc par i j) (hj : j < m) : i ≤ j := by
  induction h with
  | refl => exact Nat.le_refl _
  | @up j h0 _ ih => have := hlt j h0 hj; have := ih (by omega); omega

theorem anc_chain {par : Nat → Nat} {m : Nat} (hlt : ∀ p, 0 < p → p < m → par p < p) {a b c : Nat} (h1 : Anc par a c) (h2 : Anc par b c) (hab : a ≤ b) (hc : c < m) : Anc par a b := by
  induction h2 with
  | refl => exact h1
  | @up j h0 hb ih =>
    cases h1 with
    | refl => have := anc_lt hlt hb (by have := hlt _ h0 hc; omega); have := hlt _ h0 hc; omega
    | up _ ha => exact ih ha (by have := hlt j h0 hc; omega)

theorem anc_congr {par par' : Nat → Nat} {m : Nat} (hlt : ∀ p, 0 < p → p < m → par p < p) (he : ∀ p, p < m → par' p = par p) {i j : Nat} (h : Anc par i j) (hj : j < m) : Anc par' i j := by
  induction h with
  | refl => exact .refl
  | @up j h0 _ ih =>
    have := hlt j h0 hj
    exact .up h0 (by rw [he j hj]; exact ih (by omega))

/-- What grow keeps: the blocks met so far, whence each was met, the steps to be tried. -/
structure Gro (N : Nat → List Nat) (L : List Nat) (par : Nat → Nat) (U : List (Nat × Nat)) : Prop where
  pos : 0 < L.length
  zero : L.getD 0 0 = 0
  nodup : L.Nodup
  way : ∀ x ∈ L, Go.Proofs.Ytbmfimojhcdnbaa.Flo.Way N 0 x
  lt : ∀ p, 0 < p → p < L.length → par p < p
  edge : ∀ p, 0 < p → p < L.length → L.getD p 0 ∈ N (L.getD (par p) 0)
  last : ∀ p, p + 1 < L.length → Anc par (par (p + 1)) p
  fwd : ∀ i j, i < L.length → j < L.length → L.getD j 0 ∈ N (L.getD i 0) → i < j → Anc par i j
  ent : ∀ u ∈ U, u.1 < L.length ∧ u.2 ∈ N (L.getD u.1 0) ∧ Anc par u.1 (L.length - 1)
  sorted : U.Pairwise (fun a b => a.1 ≤ b.1)
  pend : ∀ i, i < L.length → ∀ v ∈ N (L.getD i 0), v ∈ L ∨ (i, v) ∈ U

theorem getD_app {L : List Nat} {x i : Nat} (h : i < L.length) : (L ++ [x]).getD i 0 = L.getD i 0 := by
  simp [List.getD, List.getElem?_append_left h]
theorem getD_new {L : List Nat} {x : Nat} : (L ++ [x]).getD L.length 0 = x := by simp [List.getD]
theorem getD_in {L : List Nat} {i : Nat} (h : i < L.length) : L.getD i 0 ∈ L := by simp [List.getD, h]

theorem Gro.start (N : Nat → List Nat) : Gro N [0] (fun _ => 0) ((N 0).map (fun v => (0, v))) := by
  refine ⟨by simp, rfl, by simp, fun x hx => by simp at hx; subst hx; exact .refl 0, fun p h1 h2 => by simp at h2; omega, fun p h1 h2 => by simp at h2; omega, fun p h => by simp at h, fun i j hi hj _ hij => by simp at hi hj; omega, fun u hu => ?_, ?_, fun i hi v hv => ?_⟩
  · obtain ⟨v, hv, rfl⟩ := List.mem_map.1 hu
    exact ⟨by simp, by simpa using hv, .refl⟩
  · rw [List.pairwise_map]; exact List.pairwise_of_forall (fun _ _ => Nat.le_refl _)
  · simp at hi
    subst hi
    exact .inr (List.mem_map.2 ⟨v, by simpa using hv, rfl⟩)

theorem Gro.skip {N : Nat → List Nat} {L : List Nat} {par : Nat → Nat} {U : List (Nat × Nat)} {u : Nat × Nat} (h : Gro N L par (U ++ [u])) (hu : u.2 ∈ L) : Gro N L par U := by
  refine ⟨h.pos, h.zero, h.nodup, h.way, h.lt, h.edge, h.last, h.fwd, fun x hx => h.ent x (by simp [hx]), (List.pairwise_append.1 h.sorted).1, fun i hi v hv => ?_⟩
  rcases h.pend i hi v hv with h1 | h1
  · exact .inl h1
  · rcases List.mem_append.1 h1 with h2 | h2
    · exact .inr h2
    · simp at h2
      subst h2
      exact .inl hu

/-- Whence the new one was met. -/
def parN (par : Nat → Nat) (m f : Nat) : Nat → Nat := fun p => if p = m then f else par p

theorem Gro.meet {N : Nat → List Nat} {L : List Nat} {par : Nat → Nat} {U : List (Nat × Nat)} {u : Nat × Nat} (h : Gro N L par (U ++ [u])) (hu : u.2 ∉ L) :
    Gro N (L ++ [u.2]) (parN par L.length u.1) (U ++ (N u.2).map (fun v => (L.length, v))) := by
  have hent := h.ent u (by simp)
  have hp0 := h.pos
  have hlt' : ∀ p, 0 < p → p < L.length + 1 → parN par L.length u.1 p < p := fun p h1 h2 => by
    unfold parN
    by_cases e : p = L.length
    · rw [if_pos e]; have := hent.1; omega
    · rw [if_neg e]; exact h.lt p h1 (by omega)
  have hold : ∀ p, p < L.length → parN par L.length u.1 p = par p := fun p hp => by unfold parN; rw [if_neg (by omega)]
  have cg : ∀ {i j : Nat}, Anc par i j → j < L.length → Anc (parN par L.length u.1) i j := fun ha hj => anc_congr h.lt hold ha hj
  have hnew : parN par L.length u.1 L.length = u.1 := by simp [parN]
  have top : Anc (parN par L.length u.1) u.1 L.length := .up hp0 (by rw [hnew]; exact .refl)
  have below : ∀ x ∈ U, Anc (parN par L.length u.1) x.1 L.length := fun x hx => by
    have h1 := h.ent x (by simp [hx])
    have h2 : x.1 ≤ u.1 := (List.pairwise_append.1 h.sorted).2.2 x hx u (by simp)
    have h3 := anc_chain h.lt h1.2.2 hent.2.2 h2 (by omega)
    exact (cg h3 hent.1).trans top
  refine ⟨by simp, by rw [getD_app hp0]; exact h.zero, ?_, fun x hx => ?_, fun p h1 h2 => hlt' p h1 (by simpa using h2), fun p h1 h2 => ?_, fun p hp => ?_, fun i j hi hj he hij => ?_, fun x hx => ?_, ?_, fun i hi v hv => ?_⟩
  · exact List.nodup_append.2 ⟨h.nodup, by simp, fun a ha b hb => by simp at hb; rintro rfl; exact hu (hb ▸ ha)⟩
  · rcases List.mem_append.1 hx with h1 | h1
    · exact h.way x h1
    · simp at h1
      subst h1
      exact .step (h.way _ (getD_in hent.1)) hent.2.1
  · simp at h2
    by_cases e : p = L.length
    · subst e
      rw [getD_new, hnew, getD_app hent.1]
      exact hent.2.1
    · have hp : p < L.length := by omega
      have := h.lt p h1 hp
      rw [getD_app hp, hold p hp, getD_app (by omega)]
      exact h.edge p h1 hp
  · simp at hp
    by_cases e : p + 1 = L.length
    · rw [e, hnew]
      have := hent.2.2
      rw [show L.length - 1 = p by omega] at this
      exact cg this (by omega)
    · rw [hold _ (by omega)]
      exact cg (h.last p (by omega)) (by omega)
  · simp at hi hj
    by_cases ej : j = L.length
    · subst ej
      rw [getD_new, getD_app hij] at he
      rcases h.pend i hij u.2 he with h1 | h1
      · exact absurd h1 hu
      · rcases List.mem_append.1 h1 with h2 | h2
        · exact below _ h2
        · simp at h2
          rw [show i = u.1 from congrArg Prod.fst h2]
          exact top
    · have hj' : j < L.length := by omega
      rw [getD_app hj', getD_app (by omega)] at he
      exact cg (h.fwd i j (by omega) hj' he hij) hj'
  · rw [List.length_append]
    show _ < L.length + 1 ∧ _ ∧ Anc _ _ (L.length + 1 - 1)
    rcases List.mem_append.1 hx with h1 | h1
    · have h2 := h.ent x (by simp [h1])
      exact ⟨by omega, by rw [getD_app h2.1]; exact h2.2.1, by simpa using below x h1⟩
    · obtain ⟨v, hv, rfl⟩ := List.mem_map.1 h1
      exact ⟨by simp, by rw [getD_new]; exact hv, by simpa using Anc.refl⟩
  · refine List.pairwise_append.2 ⟨(List.pairwise_append.1 h.sorted).1, ?_, fun a ha b hb => ?_⟩
    · rw [List.pairwise_map]; exact List.pairwise_of_forall (fun _ _ => Nat.le_refl _)
    · obtain ⟨v, hv, rfl⟩ := List.mem_map.1 hb
      have := (h.ent a (by simp [ha])).1
      show a.1 ≤ L.length
      omega
  · simp at hi
    by_cases e : i = L.length
    · subst e
      rw [getD_new] at hv
      exact .inr (List.mem_append_right _ (List.mem_map.2 ⟨v, hv, rfl⟩))
    · rw [getD_app (by omega)] at hv
      rcases h.pend i (by omega) v hv with h1 | h1
      · exact .inl (by simp [h1])
      · rcases List.mem_append.1 h1 with h2 | h2
        · exact .inr (by simp [h2])
        · simp at h2
          have e2 : v = u.2 := congrArg Prod.snd h2
          exact .inl (by simp [e2])

/-- Steps from place to place. -/
def ePl (N : Nat → List Nat) (L : List Nat) (i j : Nat) : Prop := i < L.length ∧ j < L.length ∧ L.getD j 0 ∈ N (L.getD i 0)

theorem Gro.dfs {N : Nat → List Nat} {L : List Nat} {par : Nat → Nat} (h : Gro N L par []) : Dfs L.length (ePl N L) par :=
  ⟨h.pos, fun i j _ he => he.2.1, h.lt, fun p h1 h2 => ⟨by have := h.lt p h1 h2; omega, h2, h.edge p h1 h2⟩, fun i j hi he hij => h.fwd i j hi he.2.1 he.2.2 hij, h.last⟩

theorem Gro.reach {N : Nat → List Nat} {L : List Nat} {par : Nat → Nat} (h : Gro N L par []) {b : Nat} (hw : Go.Proofs.Ytbmfimojhcdnbaa.Flo.Way N 0 b) : b ∈ L := by
  induction hw with
  | refl => have := getD_in h.pos; rw [h.zero] at this; exact this
  | @step b c _ hc ih =>
    obtain ⟨i, hi, e⟩ := List.getElem_of_mem ih
    have e2 : L.getD i 0 = b := by simp [List.getD, hi, e]
    rcases h.pend i hi c (by rw [e2]; exact hc) with h1 | h1
    · exact h1
    · simp at h1

end Go.Proofs.Ytbmfimojhcdnbaa.Dm

/-
  What is over what, by blocks and by places.
-/
namespace Go.Proofs.Ytbmfimojhcdnbaa.Dm
open Go.RowKit View Rd Copy Num Ty Srt Go.Proofs.Ytbmfimojhcdnbaa.Flo Go.Proofs.Ytbmfimojhcdnbaa.Lt

set_option linter.unusedVariables false

theorem Av.notroot {e : Nat → Nat → Prop} {a y : Nat} (h : Av e a y) : a ≠ 0 := by
  induction h with
  | root h => exact h
  | step _ _ _ ih => exact ih

theorem getD_inj {L : List Nat} (hn : L.Nodup) {i j : Nat} (hi : i < L.length) (hj : j < L.length) (h : L.getD i 0 = L.getD j 0) : i = j := by
  have h1 : L[i] = L[j] := by simpa [List.getD, hi, hj] using h
  have hp := List.pairwise_iff_getElem.1 hn
  rcases Nat.lt_trichotomy i j with h | h | h
  · exact absurd h1 (hp i j hi hj h)
  · exact h
  · exact absurd h1.symm (hp j i hj hi h)

theorem mem_getD {L : List Nat} {b : Nat} (h : b ∈ L) : ∃ i, i < L.length ∧ L.getD i 0 = b := by
  obtain ⟨i, hi, e⟩ := List.getElem_of_mem h
  exact ⟨i, hi, by simp [List.getD, hi, e]⟩

variable {F : FV} {L : List Nat} {par : Nat → Nat}

theorem av_way (hgr : Gro (su F) L par []) {i j : Nat} (hi : i < L.length) (h : Av (ePl (su F) L) i j) : Go.Proofs.Ytbmfimojhcdnbaa.Flo.Way (suL F (L.getD i 0 : Nat)) 0 (L.getD j 0) := by
  induction h with
  | root h => rw [hgr.zero]; exact .refl 0
  | @step x y _ he hy ih =>
    refine .step ih (mem_suL.2 ⟨he.2.2, fun e => hy ?_⟩)
    exact getD_inj hgr.nodup he.2.1 hi (by omega)

theorem way_av (hgr : Gro (su F) L par []) {i : Nat} (hi : i < L.length) (h0 : i ≠ 0) {b : Nat} (h : Go.Proofs.Ytbmfimojhcdnbaa.Flo.Way (suL F (L.getD i 0 : Nat)) 0 b) : ∃ j, j < L.length ∧ L.getD j 0 = b ∧ Av (ePl (su F) L) i j := by
  induction h with
  | refl => exact ⟨0, hgr.pos, hgr.zero, .root h0⟩
  | @step b c _ hc ih =>
    obtain ⟨j, hj, e, ha⟩ := ih
    obtain ⟨h1, h2⟩ := mem_suL.1 hc
    have hw : Go.Proofs.Ytbmfimojhcdnbaa.Flo.Way (su F) 0 c := .step (hgr.way b (by rw [← e]; exact getD_in hj)) h1
    obtain ⟨k, hk, e2⟩ := mem_getD (hgr.reach hw)
    refine ⟨k, hk, e2, .step ha ⟨hj, hk, by rw [e, e2]; exact h1⟩ (fun ek => h2 ?_)⟩
    rw [← e2, ek]

/-- Over, by blocks and by places. -/
theorem dom_av (hgr : Gro (su F) L par []) {i j : Nat} (hi : i < L.length) (hj : j < L.length) : DomR F (L.getD i 0) (L.getD j 0) ↔ ¬ Av (ePl (su F) L) i j := by
  constructor
  · rintro ⟨_, _, h⟩ ha
    rcases h with h | h
    · exact ha.ne (getD_inj hgr.nodup hj hi h.symm)
    · refine h ⟨fun e => Av.notroot ha ?_, av_way hgr hi ha⟩
      exact getD_inj hgr.nodup hi hgr.pos (by rw [e, hgr.zero])
  · intro h
    refine ⟨hgr.way _ (getD_in hi), hgr.way _ (getD_in hj), ?_⟩
    by_cases e : L.getD i 0 = L.getD j 0
    · exact .inl e
    · refine .inr fun ⟨h1, h2⟩ => ?_
      obtain ⟨k, hk, e2, ha⟩ := way_av hgr hi (fun e0 => h1 (by rw [e0, hgr.zero])) h2
      rw [getD_inj hgr.nodup hk hj e2] at ha
      exact h ha

/-- a is the nearest one over b. -/
structure NearB (F : FV) (b a : Nat) : Prop where
  dom : DomR F a b
  ne : a ≠ b
  low : ∀ d, d ≠ b → DomR F d b → DomR F d a

theorem nearB_of (hgr : Gro (su F) L par []) {p o : Nat} (hp : p < L.length) (h : Near L.length (ePl (su F) L) p o) : NearB F (L.getD p 0) (L.getD o 0) := by
  have ho := h.lt
  refine ⟨(dom_av hgr (by omega) hp).2 h.over, fun e => by have := getD_inj hgr.nodup (by omega) hp e; omega, fun d hd hdb => ?_⟩
  obtain ⟨i, hi, e⟩ := mem_getD (hgr.reach hdb.1)
  subst e
  exact (dom_av hgr hi (by omega)).2 (h.low i (fun e => hd (by rw [e])) ((dom_av hgr hi hp).1 hdb))

/-- What Over is. -/
structure OverIs (F : FV) (ov : Nat → Int) : Prop where
  some : ∀ b, b < F.blk.n → b ≠ 0 → Go.Proofs.Ytbmfimojhcdnbaa.Flo.Way (su F) 0 b → ∃ a : Nat, a < F.blk.n ∧ ov b = a ∧ NearB F b a
  none : ∀ b, b < F.blk.n → (b = 0 ∨ ¬ Go.Proofs.Ytbmfimojhcdnbaa.Flo.Way (su F) 0 b) → ov b = -1

theorem dom_trans {F : FV} {a b c : Nat} (h1 : DomR F a b) (h2 : DomR F b c) (hgr : Gro (su F) L par []) : DomR F a c := by
  obtain ⟨i, hi, rfl⟩ := mem_getD (hgr.reach h1.1)
  obtain ⟨j, hj, rfl⟩ := mem_getD (hgr.reach h1.2.1)
  obtain ⟨k, hk, rfl⟩ := mem_getD (hgr.reach h2.2.1)
  exact (dom_av hgr hi hk).2 (over_trans ((dom_av hgr hi hj).1 h1) ((dom_av hgr hj hk).1 h2))

theorem dom_anti {F : FV} {a b : Nat} (h1 : DomR F a b) (h2 : DomR F b a) (hgr : Gro (su F) L par []) : a = b := by
  obtain ⟨i, hi, rfl⟩ := mem_getD (hgr.reach h1.1)
  obtain ⟨j, hj, rfl⟩ := mem_getD (hgr.reach h1.2.1)
  rw [over_anti hgr.dfs hi hj ((dom_av hgr hi hj).1 h1) ((dom_av hgr hj hi).1 h2)]

/-- Of two over a third one is over the other. -/
theorem dom_chain {F : FV} {a b c : Nat} (h1 : DomR F a c) (h2 : DomR F b c) (hgr : Gro (su F) L par []) : DomR F a b ∨ DomR F b a := by
  obtain ⟨i, hi, rfl⟩ := mem_getD (hgr.reach h1.1)
  obtain ⟨j, hj, rfl⟩ := mem_getD (hgr.reach h2.1)
  obtain ⟨k, hk, rfl⟩ := mem_getD (hgr.reach h2.2.1)
  rcases Nat.lt_trichotomy i j with h | h | h
  · exact .inl ((dom_av hgr hi hj).2 (over_chain hgr.dfs hk ((dom_av hgr hi hk).1 h1) ((dom_av hgr hj hk).1 h2) h))
  · subst h; exact .inl ((dom_av hgr hi hi).2 (over_self i))
  · exact .inr ((dom_av hgr hj hi).2 (over_chain hgr.dfs hk ((dom_av hgr hj hk).1 h2) ((dom_av hgr hi hk).1 h1) h))

theorem dom_self {F : FV} {a : Nat} (h : Go.Proofs.Ytbmfimojhcdnbaa.Flo.Way (su F) 0 a) : DomR F a a := ⟨h, h, .inl rfl⟩

theorem nearB_unique {F : FV} {a a' b : Nat} (h : NearB F b a) (h' : NearB F b a') (hgr : Gro (su F) L par []) : a = a' :=
  dom_anti (h'.low a h.ne h.dom) (h.low a' h'.ne h'.dom) hgr

end Go.Proofs.Ytbmfimojhcdnbaa.Dm

/-
  wf: whether a block is over another, by the row of blocks above.
-/
namespace Go.Proofs.Ytbmfimojhcdnbaa.Wf
open Go.RowKit View Rd Num Opn Copy Srt Go.Proofs.Ytbmfimojhcdnbaa.Mod Go.Proofs.Ytbmfimojhcdnbaa.Chk Go.Proofs.Ytbmfimojhcdnbaa.Flo Go.Proofs.Ytbmfimojhcdnbaa.Dm

set_option linter.unusedVariables false

open Classical in
/-- How many blocks are over it. -/
noncomputable def deep (F : FV) (c : Nat) : Nat := ((List.range F.blk.n).filter (fun x => decide (DomR F x c))).length

theorem filter_lt {l : List Nat} {p q : Nat → Bool} (h : ∀ x ∈ l, p x = true → q x = true) {y : Nat} (hy : y ∈ l) (hp : p y = false) (hq : q y = true) : (l.filter p).length < (l.filter q).length := by
  induction l with
  | nil => simp at hy
  | cons z l ih =>
    have le : ∀ l' : List Nat, (∀ x ∈ l', p x = true → q x = true) → (l'.filter p).length ≤ (l'.filter q).length := by
      intro l'
      induction l' with
      | nil => intro _; simp
      | cons x l' ih' =>
        intro hh
        have h0 := ih' (fun x hx => hh x (by simp [hx]))
        have h1 := hh x (by simp)
        cases hpx : p x with
        | true => rw [List.filter_cons, List.filter_cons, hpx, h1 hpx]; simpa using h0
        | false =>
          rw [List.filter_cons, List.filter_cons, hpx]
          cases q x <;> simp <;> omega
    have hl := le l (fun x hx => h x (by simp [hx]))
    have hz := h z (by simp)
    rcases List.mem_cons.1 hy with rfl | hy'
    · rw [List.filter_cons, List.filter_cons, hp, hq]
      simp
      omega
    · have := ih (fun x hx => h x (by simp [hx])) hy'
      cases hpz : p z with
      | true => rw [List.filter_cons, List.filter_cons, hpz, hz hpz]; simpa using this
      | false =>
        rw [List.filter_cons, List.filter_cons, hpz]
        cases q z <;> simp <;> omega

theorem deep_lt {F : FV} {L : List Nat} {par : Nat → Nat} (hgr : Gro (su F) L par []) {b o : Nat} (hb : b < F.blk.n) (hw : Go.Proofs.Ytbmfimojhcdnbaa.Flo.Way (su F) 0 b) (h : NearB F b o) : deep F o < deep F b := by
  unfold deep
  refine filter_lt (y := b) (fun x _ hx => ?_) (List.mem_range.2 hb) ?_ ?_
  · simp only [decide_eq_true_eq] at hx ⊢
    exact dom_trans hx h.dom hgr
  · simp only [decide_eq_false_iff_not]
    intro hc
    exact h.ne (dom_anti h.dom hc hgr)
  · simp only [decide_eq_true_eq]
    exact dom_self hw

/-- Where the climb stands. -/
def UpAt (F : FV) (a b : Nat) (c : Int) : Prop := (c = -1 ∧ ¬ DomR F a b) ∨ ∃ n : Nat, c = n ∧ n < F.blk.n ∧ (DomR F a b ↔ DomR F a n)

noncomputable def upM (F : FV) (v : Value) : Nat := if intOf v < 0 then 0 else deep F (intOf v).toNat + 1

theorem up_next {F : FV} {L : List Nat} {par : Nat → Nat} {ov : Nat → Int} (hgr : Gro (su F) L par []) (ho : OverIs F ov) (hw : ∀ i, i < F.blk.n → Go.Proofs.Ytbmfimojhcdnbaa.Flo.Way (su F) 0 i) {a b n : Nat} (hn : n < F.blk.n) (hna : n ≠ a) (h : DomR F a b ↔ DomR F a n) : UpAt F a b (ov n) ∧ (ov n < 0 ∨ deep F (ov n).toNat < deep F n) := by
  by_cases h0 : n = 0
  · subst h0
    have e := ho.none 0 hn (.inl rfl)
    refine ⟨.inl ⟨e, fun hc => ?_⟩, .inl (by omega)⟩
    have h1 := h.1 hc
    rcases h1.2.2 with h2 | h2
    · exact hna h2.symm
    · exact h2 ⟨fun h => hna h.symm, .refl _⟩
  · obtain ⟨o, ho1, e, hN⟩ := ho.some n hn h0 (hw n hn)
    refine ⟨.inr ⟨o, e, ho1, h.trans ⟨fun h => hN.low a (fun e => hna e.symm) h, fun h => dom_trans h hN.dom hgr⟩⟩, .inr ?_⟩
    rw [e]
    exact deep_lt hgr hn (hw n hn) hN

theorem upM_lt {F : FV} {x : Int} {n : Nat} (h : x < 0 ∨ deep F x.toNat < deep F n) : upM F (.int .i64 x) < upM F (.int .i64 (n : Int)) := by
  have h1 : ¬ (intOf (.int .i64 (n : Int)) < 0) := by show ¬ ((n : Int) < 0); omega
  unfold upM
  rw [if_neg h1]
  by_cases h2 : intOf (.int .i64 x) < 0
  · rw [if_pos h2]; omega
  · rw [if_neg h2]
    show deep F x.toNat + 1 < deep F n + 1
    have h3 : ¬ x < 0 := h2
    omega

set_option maxHeartbeats 4000000 in
theorem isOver_any (F : FV) (L : List Nat) (par : Nat → Nat) (gs : Sl) (g c : Nat) (ov : Nat → Int) (a b : Nat) (w : World) (hgr : Gro (su F) L par []) (hr : Ro w g F.blk.n ov) (ho : OverIs F ov) (hw : ∀ i, i < F.blk.n → Go.Proofs.Ytbmfimojhcdnbaa.Flo.Way (su F) 0 i) (ha : a < F.blk.n) (hb : b < F.blk.n) (hn : F.blk.n ≤ 48) (hc : F.blk.n ≤ c) :
    Calls Try.prog 142 #[.agg #[.slice gs.a gs.n gs.c, .slice (some ⟨g, 0, none⟩) F.blk.n c], .int .i64 a, .int .i64 b] w fun e w' => Ans (fun r => r = true ↔ DomR F a b) w e w' := by
  have HR := hid hr
  have NX := hid (show ∀ n, n < F.blk.n → n ≠ a → (DomR F a b ↔ DomR F a n) → UpAt F a b (ov n) ∧ (ov n < 0 ∨ deep F (ov n).toNat < deep F n) from fun n h1 h2 h3 => up_next hgr ho hw h1 h2 h3)
  have SELF := hid (dom_self (hw a ha))
  obtain ⟨W, hW⟩ : ∃ W, w.alloc (.cells #[.slice gs.a gs.n gs.c, .slice (some ⟨g, 0, none⟩) F.blk.n c] 140) = W := ⟨_, rfl⟩
  have BX := hid (show W.cell? ⟨w.heap.size, 1, none⟩ = some (.slice (some ⟨g, 0, none⟩) F.blk.n c) by rw [← hW]; simp)
  have LW := hid (show Below w.heap.size w W by rw [← hW]; exact new (same w) _)
  have HWW := hid hW
  clear hgr hr ho hw hW
  go_enter Try.func142, Try.ntmps142
  go_wp2_with fail
  simp only [HWW.out]
  clear HWW
  go_loopw [2] (fun iv wr => ∃ x : Int, iv = .int .i64 x ∧ UpAt F a b x ∧ Below W.heap.size W wr) (fun iv _ => upM F iv)
  case atStart => exact ⟨b, rfl, .inr ⟨b, rfl, hb, Iff.rfl⟩, same _⟩
  case round =>
    obtain ⟨x, rfl, hup, hb⟩ := hrel
    have m1 := cell_on hb BX.out
    have HB := hid hb
    rcases hup with ⟨rfl, hno⟩ | ⟨n, rfl, hn1, hiff⟩
    · have HNO := hid hno
      have t9 : ((-1 : Int) == (a : Int)) = false := by rw [beq_eq_false_iff_ne]; omega
      clear hb hno
      go_wp2_with fail
      go_ret
      exact ⟨false, rfl, ⟨fun h => absurd h (by simp), fun h => absurd h HNO.out⟩, View.more LW.out HB.out⟩
    · by_cases hna : n = a
      · have t0 : decide ((0 : Int) ≤ (n : Int)) = true := by simp
        have t1 : ((n : Int) != (a : Int)) = false := by simp [hna]
        have t2 : ((n : Int) == (a : Int)) = true := by simp [hna]
        have t3 : (n != a) = false := by simp [hna]
        have t4 : (n == a) = true := by simp [hna]
        have YES := hid (show DomR F a b by rw [hiff, hna]; exact SELF.out)
        clear hb hiff hna
        go_wp2_with fail
        go_ret
        exact ⟨true, rfl, ⟨fun _ => YES.out, fun _ => rfl⟩, View.more LW.out HB.out⟩
      · have t0 : decide ((0 : Int) ≤ (n : Int)) = true := by simp
        have t1 : ((n : Int) != (a : Int)) = true := by rw [bne_iff_ne]; omega
        have t3 : (n != a) = true := by simp [hna]
        have i1 := int_at (g := g) (c := c) hn1
        have r1 := (HR.out.on (View.more LW.out hb)).cell n hn1
        have NN := hid (NX.out n hn1 hna hiff)
        clear hb hiff hna
        go_wp2_with fail
        go_round
        case rel => exact ⟨ov n, rfl, NN.out.1, HB.out⟩
        case measure =>
          exact upM_lt NN.out.2

end Go.Proofs.Ytbmfimojhcdnbaa.Wf

/-
  wf: whether what an instruction takes is there.
-/
namespace Go.Proofs.Ytbmfimojhcdnbaa.Wf
open Go.RowKit View Rd Num Opn Copy Srt Go.Proofs.Ytbmfimojhcdnbaa.Mod Go.Proofs.Ytbmfimojhcdnbaa.Chk Go.Proofs.Ytbmfimojhcdnbaa.Flo Go.Proofs.Ytbmfimojhcdnbaa.Dm

set_option linter.unusedVariables false

/-- The row of places where values are given. -/
structure Gv (F : FV) (w : World) (O : Nat) (bl pl : Nat → Int) : Prop where
  cb : ∀ v, v ≤ allV F → w.cell? ⟨O, v * 2, none⟩ = some (.int .i64 (bl v))
  cp : ∀ v, v ≤ allV F → w.cell? ⟨O, v * 2 + 1, none⟩ = some (.int .i64 (pl v))
  par : ∀ v, v ≤ F.par.n → bl v = 0 ∧ pl v = -1
  val : ∀ b' k', b' < F.blk.n → k' < (F.B b').n → (F.I b' k').ty ≠ 0 → bl (idx F b' k') = b' ∧ pl (idx F b' k') = k'

theorem Gv.on {F : FV} {w w' : World} {O : Nat} {bl pl : Nat → Int} (h : Gv F w O bl pl) (hb : Below w.heap.size w w') : Gv F w' O bl pl :=
  ⟨fun v hv => cell_on hb (h.cb v hv), fun v hv => cell_on hb (h.cp v hv), h.par, h.val⟩

theorem Gv.useI {F : FV} {w : World} {O : Nat} {bl pl : Nat → Int} (hw : Gv F w O bl pl) {b k i b0 k0 : Nat} (h1 : 1 ≤ F.A b k i) (h2 : F.A b k i ≤ allV F) (hb : b0 < F.blk.n) (hk : k0 < (F.B b0).n) (ht : (F.I b0 k0).ty ≠ 0) (he : F.A b k i = idx F b0 k0) : UseI F b k i ↔ There F b k i b0 k0 := by
  refine ⟨fun h => h.2.2 b0 k0 hb hk ht he, fun h => ⟨h1, h2, fun b' k' a c d e => ?_⟩⟩
  have e2 : idx F b' k' = idx F b0 k0 := by have := he.symm.trans e; omega
  have q1 := hw.val b' k' a c d
  have q2 := hw.val b0 k0 hb hk ht
  rw [e2] at q1
  have r1 : b' = b0 := by have := q1.1.symm.trans q2.1; omega
  have r2 : k' = k0 := by have := q1.2.symm.trans q2.2; omega
  rw [r1, r2]; exact h

theorem dom_zero {F : FV} {b : Nat} (h0 : 0 < F.blk.n) (h : Go.Proofs.Ytbmfimojhcdnbaa.Flo.Way (su F) 0 b) : DomR F 0 b := ⟨.refl _, h, .inr fun h => h.1 rfl⟩

/-- What a place answers: the value that stands there is there. -/
def Sees (F : FV) (b k i : Nat) (fb fp : Int) : Prop := (F.I b k).op = 26 ∧ DomR F fb.toNat (F.J b k i).toNat ∨ (F.I b k).op ≠ 26 ∧ (fb = b ∧ fp < k ∨ fb ≠ b ∧ DomR F fb.toNat b)

theorem Gv.sees {F : FV} {w : World} {O : Nat} {bl pl : Nat → Int} (hw : Gv F w O bl pl) (hway : ∀ i, i < F.blk.n → Go.Proofs.Ytbmfimojhcdnbaa.Flo.Way (su F) 0 i) {b k i v : Nat} (lb : b < F.blk.n) (hp : (F.I b k).op = 26 → (F.J b k i).toNat < F.blk.n) (hv : F.A b k i = v) (h1 : 1 ≤ v) (h2 : v ≤ allV F) :
    (∃ b0 : Nat, bl v = b0 ∧ b0 < F.blk.n) ∧ (UseI F b k i ↔ Sees F b k i (bl v) (pl v)) := by
  by_cases g : v ≤ F.par.n
  · obtain ⟨e1, e2⟩ := hw.par v g
    refine ⟨⟨0, by rw [e1]; rfl, by omega⟩, ⟨fun _ => ?_, fun _ => useI_par (by omega) (by omega)⟩⟩
    rw [e1, e2]
    by_cases ho : (F.I b k).op = 26
    · exact .inl ⟨ho, dom_zero (by omega) (hway _ (hp ho))⟩
    · refine .inr ⟨ho, ?_⟩
      by_cases hb0 : b = 0
      · exact .inl ⟨by omega, by omega⟩
      · exact .inr ⟨by omega, dom_zero (by omega) (hway b lb)⟩
  · obtain ⟨b0, k0, lb0, lk0, ht0, he0⟩ := idx_onto F F.blk.n (Nat.le_refl _) v (by omega) (by rw [lastOf_all]; omega)
    obtain ⟨e1, e2⟩ := hw.val b0 k0 lb0 lk0 ht0
    rw [he0] at e1 e2
    refine ⟨⟨b0, e1, lb0⟩, ?_⟩
    rw [hw.useI (by omega) (by omega) lb0 lk0 ht0 (by rw [hv, he0]), e1, e2]
    unfold There Sees
    by_cases ho : (F.I b k).op = 26
    · rw [if_pos ho]; simp [ho]
    · rw [if_neg ho]
      constructor
      · rintro (⟨h1, h2⟩ | ⟨h1, h2⟩)
        · exact .inr ⟨ho, .inl ⟨by omega, by omega⟩⟩
        · exact .inr ⟨ho, .inr ⟨by omega, h2⟩⟩
      · rintro (⟨h1, _⟩ | ⟨_, ⟨h1, h2⟩ | ⟨h1, h2⟩⟩)
        · exact absurd h1 ho
        · exact .inl ⟨by omega, by omega⟩
        · exact .inr ⟨by omega, h2⟩

theorem spot_at {g n c x : Nat} (hx : x < n) : ∀ wx, (Instr.indexAt 137 (.slice (some ⟨g, 0, none⟩) n c) (.int .i64 x)).run Try.prog wx = .ok (.pointer (some ⟨g, x * 2, none⟩)) wx := by
  have := index_row (s := ⟨some ⟨g, 0, none⟩, n, c⟩) rfl (show Try.prog.underlying 137 = some (.slice 143) by kernel_rfl) (show (Try.prog.info? 143).map (fun i => i.size) = some 2 by kernel_rfl) hx
  simpa using this

def ArgsOk (F : FV) (b k : Nat) (u : IV) : Prop := ∀ i, i < u.args.n → UseI F b k i

set_option maxRecDepth 10000 in
set_option maxHeartbeats 8000000 in
theorem argFault_any (F : FV) (b k : Nat) (L : List Nat) (par : Nat → Nat) (O n cO g c : Nat) (bl pl ov : Nat → Int) (w : World) (hF : In w F) (hl : Light F) (hf : FormF F) (hfl : FlowF F) (lb : b < F.blk.n) (lk : k < (F.B b).n)
    (hgv : Gv F w O bl pl) (hn : n = allV F + 1) (hgr : Gro (su F) L par []) (hr : Ro w g F.blk.n ov) (ho : OverIs F ov) (hc : F.blk.n ≤ c) (hcO : n ≤ cO) :
    Calls Try.prog 124 #[.agg #[.slice (some ⟨O, 0, none⟩) n cO, .slice (some ⟨g, 0, none⟩) F.blk.n c], (F.I b k).val, .agg #[.int .i64 b, .int .i64 k]] w fun e w' => Ans (fun r => r = true ↔ ¬ ArgsOk F b k (F.I b k)) w e w' := by
  have gb := hl.blk
  have gi := hl.ins b lb
  have ga := hl.args b lb k lk
  have gin := hl.into b lb k lk
  have gv := allV_le hl
  have hway : ∀ i, i < F.blk.n → Go.Proofs.Ytbmfimojhcdnbaa.Flo.Way (su F) 0 i := fun i hi => (hfl.2 i hi).1
  have JP := hid (show (F.I b k).op = 26 → (F.I b k).into.n = (F.I b k).args.n ∧ ∀ i, i < (F.I b k).into.n → ∃ p : Nat, F.J b k i = p ∧ p < F.blk.n from fun h => by
    obtain ⟨_, h1, h2⟩ := (hfl.2 b lb).2 k lk h
    exact ⟨phi_into (hf.2.2 b lb k lk) h, fun i hi => ⟨_, h2 i hi, pvL_lt _ (getD_mem (by omega))⟩⟩)
  have IA := hid (hF.args b lb k lk)
  have II := hid (hF.into b lb k lk)
  have HW := hid hway
  have HG := hid hgv
  have HN0 := hid hn
  have HGR := hid hgr
  have HRO := hid hr
  have HOV := hid ho
  obtain ⟨u, hu⟩ : ∃ u, F.I b k = u := ⟨_, rfl⟩
  have EU := hid hu
  rw [hu] at JP IA II ga gin ⊢
  obtain ⟨W1, hW1⟩ : ∃ W1, w.alloc (.cells #[.slice (some ⟨O, 0, none⟩) n cO, .slice (some ⟨g, 0, none⟩) F.blk.n c] 140) = W1 := ⟨_, rfl⟩
  obtain ⟨W2, hW2⟩ : ∃ W2, W1.alloc (.cells u.cells 39) = W2 := ⟨_, rfl⟩
  obtain ⟨W, hW⟩ : ∃ W, W2.alloc (.cells #[.int .i64 b, .int .i64 k] 143) = W := ⟨_, rfl⟩
  have z1 : W1.heap.size = w.heap.size + 1 := by rw [← hW1]; simp
  have z2 : W2.heap.size = w.heap.size + 1 + 1 := by rw [← hW2]; simp [z1]
  have BX := hid (show W.cell? ⟨w.heap.size, 0, none⟩ = some (.slice (some ⟨O, 0, none⟩) n cO) ∧ W.cell? ⟨w.heap.size, 1, none⟩ = some (.slice (some ⟨g, 0, none⟩) F.blk.n c) ∧ W.cell? ⟨w.heap.size + 1, 0, none⟩ = some (.int .i64 u.op) ∧ W.cell? ⟨w.heap.size + 1, 5, none⟩ = some (.slice u.args.a u.args.n u.args.c) ∧ W.cell? ⟨w.heap.size + 1, 6, none⟩ = some (.slice u.into.a u.into.n u.into.c) ∧ W.cell? ⟨w.heap.size + 1 + 1, 0, none⟩ = some (.int .i64 b) ∧ W.cell? ⟨w.heap.size + 1 + 1, 1, none⟩ = some (.int .i64 k) from by
    have a1 : W2.cell? ⟨w.heap.size, 0, none⟩ = some (.slice (some ⟨O, 0, none⟩) n cO) ∧ W2.cell? ⟨w.heap.size, 1, none⟩ = some (.slice (some ⟨g, 0, none⟩) F.blk.n c) := by
      have q : Below W1.heap.size W1 W2 := by rw [← hW2]; exact new (same _) _
      exact ⟨cell_on q (by rw [← hW1]; simp), cell_on q (by rw [← hW1]; simp)⟩
    have q : Below W2.heap.size W2 W := by rw [← hW]; exact new (same _) _
    have a2 : W2.cell? ⟨w.heap.size + 1, 0, none⟩ = some (.int .i64 u.op) ∧ W2.cell? ⟨w.heap.size + 1, 5, none⟩ = some (.slice u.args.a u.args.n u.args.c) ∧ W2.cell? ⟨w.heap.size + 1, 6, none⟩ = some (.slice u.into.a u.into.n u.into.c) := by
      rw [← z1, ← hW2]; exact ⟨by simp, by simp, by simp⟩
    exact ⟨cell_on q a1.1, cell_on q a1.2, cell_on q a2.1, cell_on q a2.2.1, cell_on q a2.2.2, by rw [← z2, ← hW]; simp, by rw [← z2, ← hW]; simp⟩)
  have LW := hid (show Below w.heap.size w W by rw [← hW, ← hW2, ← hW1]; exact new (new (new (same w) _) _) _)
  have zW : w.heap.size + 3 = W.heap.size := by rw [← hW]; simp [z2]
  obtain ⟨m0, m1, m2, m3, m4, m5, m6⟩ := BX.out
  clear hF hl hf hfl hgv hn hgr hr ho hway hu
  go_enter Try.func124, Try.ntmps124
  go_wp2_with fail
  clear hW1 hW2 hW z1 z2 m0 m1 m2 m3 m4 m5 m6
  go_loopw [13] (fun iv wr => ∃ i : Nat, i ≤ u.args.n ∧ iv = .int .i64 i ∧ (∀ t, t < i → UseI F b k t) ∧ Below W.heap.size W wr) (fun iv _ => u.args.n - (intOf iv).toNat)
  case atStart => exact ⟨0, Nat.zero_le _, rfl, fun t ht => by omega, same _⟩
  case round =>
    obtain ⟨i, hi, rfl, hall, hb⟩ := hrel
    have HI := hid (And.intro hall hb)
    have LL := hid (View.more LW.out hb)
    by_cases li : i < u.args.n
    · obtain ⟨pb, po, hpx, hpc⟩ := (IA.out.on LL.out).at li
      obtain ⟨m0, m1, m2, m3, m4, m5, m6⟩ := BX.out
      replace m0 := cell_on hb m0
      replace m1 := cell_on hb m1
      replace m2 := cell_on hb m2
      replace m4 := cell_on hb m4
      replace m5 := cell_on hb m5
      replace m6 := cell_on hb m6
      have z0 := World.block_lt_of_cell? _ _ m0
      have z1 := World.block_lt_of_cell? _ _ m2
      have z2 := World.block_lt_of_cell? _ _ m5
      clear m3
      by_cases g1 : F.A b k i < 1
      · have t1 : decide (F.A b k i < 1) = true := by simpa using g1
        have HN := hid (show ¬ ArgsOk F b k u from fun h => by have := (h i li).1; omega)
        clear hall hb g1
        go_wp2_with fail
        go_ret
        exact ⟨true, rfl, ⟨fun _ => HN.out, fun _ => rfl⟩, LL.out⟩
      have t1 : decide (F.A b k i < 1) = false := by simpa using g1
      by_cases g2 : (n : Int) ≤ F.A b k i
      · have t2 : decide ((n : Int) ≤ F.A b k i) = true := by simpa using g2
        have HN := hid (show ¬ ArgsOk F b k u from fun h => by have := (h i li).2.1; have := HN0.out; omega)
        clear hall hb g1 g2
        go_wp2_with fail
        go_ret
        exact ⟨true, rfl, ⟨fun _ => HN.out, fun _ => rfl⟩, LL.out⟩
      have t2 : decide ((n : Int) ≤ F.A b k i) = false := by simpa using g2
      obtain ⟨v, hv⟩ : ∃ v : Nat, F.A b k i = v := ⟨(F.A b k i).toNat, by omega⟩
      have hvn : v < n := by omega
      have hvv : v ≤ allV F := by have := HN0.out; omega
      have GV := HG.out.on LL.out
      have hvx := spot_at (g := O) (c := cO) hvn
      have q1 := GV.cb v hvv
      have q2 := GV.cp v hvv
      obtain ⟨⟨b0, eb0, lb0⟩, hsee⟩ := GV.sees HW.out lb (fun h => by
        obtain ⟨e, hh⟩ := JP.out (by rw [← EU.out]; exact h)
        obtain ⟨p, hp, hp2⟩ := hh i (by omega)
        rw [hp]; simpa using hp2) hv (by omega) hvv
      rw [eb0] at q1 hsee
      obtain ⟨P, hP⟩ : ∃ P, pl v = P := ⟨_, rfl⟩
      rw [hP] at q2 hsee
      rw [hv] at hpc t1 t2
      have SEE := hid (show UseI F b k i ↔ Sees F b k i b0 P from hsee)
      obtain ⟨W3, hW3⟩ : ∃ W3, wr.alloc (.cells #[.int .i64 b0, .int .i64 P] 143) = W3 := ⟨_, rfl⟩
      have N3 := hid (show Below wr.heap.size wr W3 by rw [← hW3]; exact new (same _) _)
      have L2 := hid (View.more HI.out.2 N3.out)
      have y0 : W3.cell? ⟨wr.heap.size, 0, none⟩ = some (.int .i64 b0) := by rw [← hW3]; simp
      have y1 : W3.cell? ⟨wr.heap.size, 1, none⟩ = some (.int .i64 P) := by rw [← hW3]; simp
      have M0 := cell_on N3.out m0
      have M1 := cell_on N3.out m1
      have M2 := cell_on N3.out m2
      have M4 := cell_on N3.out m4
      have M5 := cell_on N3.out m5
      have M6 := cell_on N3.out m6
      have st0 : Below W3.heap.size W3 W3.drew := Below.drew (same _)
      have A0 : ∀ wx, Below W3.heap.size W3 wx → wx.cell? ⟨w.heap.size, 0, none⟩ = some (.slice (some ⟨O, 0, none⟩) n cO) := fun wx h => cell_on h M0
      have A1 : ∀ wx, Below W3.heap.size W3 wx → wx.cell? ⟨w.heap.size, 1, none⟩ = some (.slice (some ⟨g, 0, none⟩) F.blk.n c) := fun wx h => cell_on h M1
      have A4 : ∀ wx, Below W3.heap.size W3 wx → wx.cell? ⟨w.heap.size + 1, 6, none⟩ = some (.slice u.into.a u.into.n u.into.c) := fun wx h => cell_on h M4
      have A5 : ∀ wx, Below W3.heap.size W3 wx → wx.cell? ⟨w.heap.size + 1 + 1, 0, none⟩ = some (.int .i64 b) := fun wx h => cell_on h M5
      have Y0 : ∀ wx, Below W3.heap.size W3 wx → wx.cell? ⟨wr.heap.size, 0, none⟩ = some (.int .i64 b0) := fun wx h => cell_on h y0
      have HA := hid (And.intro st0 (And.intro A0 (And.intro A1 (And.intro A4 (And.intro A5 Y0)))))
      clear st0 A0 A1 A4 A5 Y0
      have YES := hid (show ∀ wx, Below W.heap.size W wx → ¬ UseI F b k i → Ans (fun r => r = true ↔ ¬ ArgsOk F b k u) w (.returned (.bool true)) wx from fun wx h hno => ⟨true, rfl, ⟨fun _ => fun h => hno (h i li), fun _ => rfl⟩, View.more LW.out h⟩)
      clear hall hb g1 g2 hv GV hsee eb0 hP
      by_cases h26 : u.op = 26
      · have t26 : (u.op == 26) = true := by simp [h26]
        obtain ⟨e, hh⟩ := JP.out h26
        obtain ⟨p, hp, hp2⟩ := hh i (by omega)
        obtain ⟨jb, jo, hjx, hjc⟩ := (II.out.on (View.more LL.out N3.out)).at (k := i) (by omega)
        rw [hp] at hjc
        have J0 : ∀ wx, Below W3.heap.size W3 wx → wx.cell? ⟨jb, jo, none⟩ = some (.int .i64 p) := fun wx h => cell_on h hjc
        have HJ := hid J0
        have SE := hid (show UseI F b k i ↔ DomR F b0 p by
          rw [SEE.out]
          unfold Sees
          rw [EU.out, hp]
          simp [h26])
        clear h26 e hh hp hjc J0
        go_upto_region 8 with fail
        clear hW3 y0 y1 M0 M1 M2 M4 M5 M6 m0 m1 m2 m4 m5 m6 hpc q1 q2
        have J0 := HJ.out
        obtain ⟨st0, A0, A1, A4, A5, Y0⟩ := HA.out
        refine wp_region_noPanic ?_
        refine wp_region_held_drew (S := fun wx => Below W3.heap.size W3 wx) (by kernel_rfl) st0 (fun hS => ?_)
        refine takeAt (i := 0) (d := some 36) (v := ?vr80) rfl (by rfl) (by kernel_rfl) (by kernel_rfl) (by kernel_rfl) (fun _ _ _ h => h) (Or.inl ⟨by rfl, ?yr80⟩) hS ?_
        case yr80 => intro wx hSw; (go_simp) <;> with_reducible rfl
        simp only [Act.put, List.setIfInBounds_toArray, List.set_cons_zero, List.set_cons_succ]
        refine takeAt (i := 1) (d := some 37) (v := ?vr81) rfl (by rfl) (by kernel_rfl) (by kernel_rfl) (by kernel_rfl) (fun _ _ _ h => h) (Or.inl ⟨by rfl, ?yr81⟩) hS ?_
        case yr81 => intro wx hSw; (go_simp) <;> with_reducible rfl
        simp only [Act.put, List.setIfInBounds_toArray, List.set_cons_zero, List.set_cons_succ]
        refine takeAt (i := 2) (d := some 38) (v := ?vr82) rfl (by rfl) (by kernel_rfl) (by kernel_rfl) (by kernel_rfl) (fun _ _ _ h => h) (Or.inl ⟨by rfl, ?yr82⟩) hS ?_
        case yr82 => intro wx hSw; (go_simp) <;> with_reducible rfl
        simp only [Act.put, List.setIfInBounds_toArray, List.set_cons_zero, List.set_cons_succ]
        refine takeAt (i := 3) (d := some 39) (v := ?vr83) rfl (by rfl) (by kernel_rfl) (by kernel_rfl) (by kernel_rfl) (fun _ _ _ h => h) (Or.inl ⟨by rfl, ?yr83⟩) hS ?_
        case yr83 => intro wx hSw; (go_simp) <;> with_reducible rfl
        simp only [Act.put, List.setIfInBounds_toArray, List.set_cons_zero, List.set_cons_succ]
        refine takeAt (i := 4) (d := some 40) (v := ?vr84) rfl (by rfl) (by kernel_rfl) (by kernel_rfl) (by kernel_rfl) (fun _ _ _ h => h) (Or.inl ⟨by rfl, ?yr84⟩) hS ?_
        case yr84 => intro wx hSw; (go_simp) <;> with_reducible rfl
        simp only [Act.put, List.setIfInBounds_toArray, List.set_cons_zero, List.set_cons_succ]
        refine takeAt (i := 5) (d := some 41) (v := ?vr85) rfl (by rfl) (by kernel_rfl) (by kernel_rfl) (by kernel_rfl) (fun _ _ _ h => h) (Or.inl ⟨by rfl, ?yr85⟩) hS ?_
        case yr85 => intro wx hSw; (go_simp) <;> with_reducible rfl
        simp only [Act.put, List.setIfInBounds_toArray, List.set_cons_zero, List.set_cons_succ]
        refine takeAt (i := 6) (d := some 42) (v := ?vr86) rfl (by rfl) (by kernel_rfl) (by kernel_rfl) (by kernel_rfl) (fun _ _ _ h => h) (Or.inl ⟨by rfl, ?yr86⟩) hS ?_
        case yr86 => intro wx hSw; (go_simp) <;> with_reducible rfl
        simp only [Act.put, List.setIfInBounds_toArray, List.set_cons_zero, List.set_cons_succ]
        refine takeAt (i := 7) (d := some 43) (v := ?vr87) rfl (by rfl) (by kernel_rfl) (by kernel_rfl) (by kernel_rfl) (fun _ _ _ h => h) (Or.inl ⟨by rfl, ?yr87⟩) hS ?_
        case yr87 => intro wx hSw; (go_simp) <;> with_reducible rfl
        simp only [Act.put, List.setIfInBounds_toArray, List.set_cons_zero, List.set_cons_succ]
        refine wpAnyH_ready (rs := [8]) (by kernel_rfl) (by simp) ?_
        refine AllReadyH.cons rfl (fun K hK => ?_) AllReadyH.nil
        go_simp
        refine (isOver_any F L par ⟨some ⟨O, 0, none⟩, n, cO⟩ g c ov b0 p _ HGR.out (HRO.out.on (View.more (View.more LL.out N3.out) st0)) HOV.out HW.out lb0 hp2 gb hc).mono ?_
        rintro e wp1 ⟨r, rfl, hr, hbp⟩
        have p1 : Below W3.heap.size W3 wp1 := View.more st0 hbp
        have RR := hid hr
        clear hr hbp
        go_wp2_with fail
        refine hK.out _ _ p1 (fun _ => ?_)
        clear hK K
        replace hS := p1
        try simp only [Act.put, List.setIfInBounds_toArray, List.set_cons_zero, List.set_cons_succ]
        refine takeAt (i := 9) (d := some 45) (v := ?vr89) rfl (by rfl) (by kernel_rfl) (by kernel_rfl) (by kernel_rfl) (fun _ _ _ h => h) (Or.inl ⟨by rfl, ?yr89⟩) hS ?_
        case yr89 => intro wx hSw; (go_simp) <;> with_reducible rfl
        simp only [Act.put, List.setIfInBounds_toArray, List.set_cons_zero, List.set_cons_succ]
        refine wpAnyH_done (by kernel_rfl) ?_ _
        refine NoPanic.normal ?_
        have P1 := hid p1
        clear hS st0 p1 A0 A1 A4 A5 Y0 J0
        cases r with
        | false =>
          have HN := hid (show ¬ UseI F b k i from fun h => by have := RR.out.2 (SE.out.1 h); cases this)
          go_wp2_with fail
          go_ret
          exact YES.out _ (View.more L2.out P1.out) HN.out
        | true =>
          have HP := hid (SE.out.2 (RR.out.1 rfl))
          go_wp2_with fail
          go_round
          case rel => exact ⟨i + 1, by omega, by go_num, upto1 HI.out.1 HP.out, View.more L2.out P1.out⟩
          case measure => simp [intOf]; omega
      · have t26 : (u.op == 26) = false := by simp [h26]
        by_cases h5 : b0 = b
        · have t5 : ((b0 : Int) == (b : Int)) = true := by simp [h5]
          have t6 : (b0 == b) = true := by simp [h5]
          by_cases h7 : (k : Int) ≤ P
          · have t7 : decide ((k : Int) ≤ P) = true := by simpa using h7
            have HN := hid (show ¬ UseI F b k i from fun h => by
              have h2 := SEE.out.1 h
              unfold Sees at h2
              rw [EU.out] at h2
              rcases h2 with ⟨h3, _⟩ | ⟨_, ⟨_, h3⟩ | ⟨h3, _⟩⟩
              · exact h26 h3
              · omega
              · omega)
            clear h26 h5 h7
            go_wp2_with fail
            go_ret
            exact YES.out _ L2.out HN.out
          · have t7 : decide ((k : Int) ≤ P) = false := by simpa using h7
            have HP := hid (SEE.out.2 (by unfold Sees; rw [EU.out]; exact .inr ⟨h26, .inl ⟨by omega, by omega⟩⟩))
            clear h26 h5 h7
            go_wp2_with fail
            go_round
            case rel => exact ⟨i + 1, by omega, by go_num, upto1 HI.out.1 HP.out, L2.out⟩
            case measure => simp [intOf]; omega
        · have t5 : ((b0 : Int) == (b : Int)) = false := by rw [beq_eq_false_iff_ne]; omega
          have t6 : (b0 == b) = false := by simp [h5]
          have SE := hid (show UseI F b k i ↔ DomR F b0 b by
            rw [SEE.out]
            unfold Sees
            rw [EU.out]
            constructor
            · rintro (⟨h3, _⟩ | ⟨_, ⟨h3, _⟩ | ⟨_, h3⟩⟩)
              · exact absurd h3 h26
              · omega
              · simpa using h3
            · intro h3
              exact .inr ⟨h26, .inr ⟨by omega, by simpa using h3⟩⟩)
          clear h26 h5
          go_wp2_with fail
          refine (isOver_any F L par ⟨some ⟨O, 0, none⟩, n, cO⟩ g c ov b0 b _ HGR.out (HRO.out.on (View.more LL.out N3.out)) HOV.out HW.out lb0 lb gb hc).mono ?_
          rintro e wp1 ⟨r, rfl, hr, hbp⟩
          have P1 := hid hbp
          have RR := hid hr
          clear hr hbp
          cases r with
          | false =>
            have HN := hid (show ¬ UseI F b k i from fun h => by have := RR.out.2 (SE.out.1 h); cases this)
            go_wp2_with fail
            go_ret
            exact YES.out _ (View.more L2.out P1.out) HN.out
          | true =>
            have HP := hid (SE.out.2 (RR.out.1 rfl))
            go_wp2_with fail
            go_round
            case rel => exact ⟨i + 1, by omega, by go_num, upto1 HI.out.1 HP.out, View.more L2.out P1.out⟩
            case measure => simp [intOf]; omega
    · obtain rfl : i = u.args.n := by omega
      clear hall hb
      go_wp2_with fail
      go_ret
      exact ⟨false, rfl, ⟨fun h => absurd h (by simp), fun h => absurd HI.out.1 h⟩, LL.out⟩

end Go.Proofs.Ytbmfimojhcdnbaa.Wf

/-
  dom.grow: a depth-first way through the blocks that are reached.
-/
namespace Go.Proofs.Ytbmfimojhcdnbaa.Dm
open Go.RowKit View Rd Copy Num Ty Srt Go.Proofs.Ytbmfimojhcdnbaa.Flo Go.Proofs.Ytbmfimojhcdnbaa.Lt

set_option linter.unusedVariables false

theorem underlying169 : Try.prog.underlying 169 = some (.slice 168) := by kernel_rfl
theorem info168 : (Try.prog.info? 168).map (fun i => (i.zero, i.size, i.bytes)) = some (some (.agg #[.int .i64 0, .int .i64 0]), 2, 16) := by kernel_rfl
theorem size168 : (Try.prog.info? 168).map (fun i => i.size) = some 2 := by kernel_rfl

/-- The place of a block, -1 where it has none. -/
def plc (L : List Nat) (b : Nat) : Int := if b ∈ L then (L.idxOf b : Int) else -1

def flatU (U : List (Int × Nat)) : List Value := U.flatMap (fun u => [.int .i64 u.1, .int .i64 (u.2 : Int)])

theorem flatU_snoc (U : List (Int × Nat)) (u : Int × Nat) : flatU (U ++ [u]) = flatU U ++ [.int .i64 u.1, .int .i64 (u.2 : Int)] := by simp [flatU]
theorem flatU_length (U : List (Int × Nat)) : (flatU U).length = U.length * 2 := by
  induction U with
  | nil => rfl
  | cons e W ih => simp [flatU] at *; omega

theorem kinds2 {w : World} {base base' z z' n n' : Nat} {v v' : Value} {xs xs' : List Value} (h : w.ownsRow base 3 z v n xs) (h' : w.ownsRow base' 168 z' v' n' xs') : ∀ g, v.ownBlock = some g → v'.ownBlock ≠ some g := by
  intro g e e'
  rcases h.2 with ⟨rfl, _⟩ | ⟨g1, cap, cur, rfl, _, hg, _⟩
  · simp [Value.ownBlock] at e
  · rcases h'.2 with ⟨rfl, _⟩ | ⟨g2, cap2, cur2, rfl, _, hg2, _⟩
    · simp [Value.ownBlock] at e'
    · simp [Value.ownBlock] at e e'
      subst e
      subst e'
      rw [hg] at hg2
      simp at hg2

/-- Grow's lists in memory: f's box, the tree's box, the row of places, and what lies from B0 on. -/
structure TM (F : FV) (fb tb PB B0 : Nat) (wr : World) (bv pv uv : Value) (L : List Nat) (P : List Int) (Q : List Nat) (U : List (Int × Nat)) : Prop where
  fa : FuncAt wr fb F
  c0 : wr.cell? ⟨tb, 0, none⟩ = some bv
  c1 : wr.cell? ⟨tb, 1, none⟩ = some pv
  c2 : wr.cell? ⟨tb, 2, none⟩ = some (.slice (some ⟨PB, 0, none⟩) F.blk.n F.blk.n)
  cz : ∀ i, wr.frozen? ⟨tb, i, none⟩ = false
  bo : wr.ownsRow B0 3 1 bv (ints L).length ((ints L).map (Value.int .i64))
  po : wr.ownsRow B0 3 1 pv P.length (P.map (Value.int .i64))
  pl : Ro wr PB F.blk.n (plc Q)
  uo : wr.ownsRow B0 168 2 uv U.length (flatU U)
  un : ∃ g cap, uv = .slice (some ⟨g, 0, none⟩) U.length cap
  dis : ∀ g, bv.ownBlock = some g → pv.ownBlock ≠ some g
  low : fb < B0 ∧ tb < B0 ∧ PB < B0 ∧ fb ≠ tb ∧ fb ≠ PB ∧ tb ≠ PB
  sz : B0 ≤ wr.heap.size

variable {F : FV} {fb tb PB B0 : Nat} {wr : World} {bv pv uv : Value} {L : List Nat} {P : List Int} {Q : List Nat} {U : List (Int × Nat)}

theorem TM.on (h : TM F fb tb PB B0 wr bv pv uv L P Q U) {w' : World} (hb : Below wr.heap.size wr w') : TM F fb tb PB B0 w' bv pv uv L P Q U :=
  ⟨h.fa.on hb, cell_on hb h.c0, cell_on hb h.c1, cell_on hb h.c2, fun i => by rw [hb.frozen (show tb < _ from World.block_lt_of_cell? _ _ h.c0)]; exact h.cz i, owns_on hb h.bo, owns_on hb h.po, h.pl.on hb, owns_on hb h.uo, h.un, h.dis, h.low, Nat.le_trans h.sz hb.size⟩

/-- What stays, where blocks from B0 on that are none of the rows' change. -/
theorem TM.keep {w' : World} {o : Option Nat} (h : TM F fb tb PB B0 wr bv pv uv L P Q U) (hz : wr.heap.size ≤ w'.heap.size) (hb : ∀ k, k < wr.heap.size → some k ≠ o → w'.heap[k]? = wr.heap[k]?) (ho : ∀ k, o = some k → B0 ≤ k) :
    FuncAt w' fb F ∧ w'.cell? ⟨tb, 0, none⟩ = some bv ∧ w'.cell? ⟨tb, 1, none⟩ = some pv ∧ w'.cell? ⟨tb, 2, none⟩ = some (.slice (some ⟨PB, 0, none⟩) F.blk.n F.blk.n) ∧ (∀ i, w'.frozen? ⟨tb, i, none⟩ = false) ∧ Ro w' PB F.blk.n (plc Q) ∧ B0 ≤ w'.heap.size := by
  have hl := h.low
  have ne : ∀ k, k < B0 → some k ≠ o := fun k hk e => by have := ho k e.symm; omega
  have kb : ∀ k, k < B0 → w'.heap[k]? = wr.heap[k]? := fun k hk => hb k (by have := h.sz; omega) (ne k hk)
  refine ⟨h.fa.kept (p := fun k => k = fb) ⟨hz, fun k hk => by subst hk; exact kb _ hl.1⟩ rfl, ?_, ?_, ?_, fun i => ?_, h.pl.at_block (kb _ hl.2.2.1), by have := h.sz; omega⟩
  · rw [World.cell?_of_block (w := wr) (kb tb hl.2.1)]; exact h.c0
  · rw [World.cell?_of_block (w := wr) (kb tb hl.2.1)]; exact h.c1
  · rw [World.cell?_of_block (w := wr) (kb tb hl.2.1)]; exact h.c2
  · rw [World.frozen?_of_block (w := wr) (kb tb hl.2.1)]; exact h.cz i

theorem own_in {w w' : World} {base e z n : Nat} {v : Value} {xs : List Value} {o : Option Nat} (h : w.ownsRow base e z v n xs) (hb : ∀ k, k < w.heap.size → some k ≠ o → w'.heap[k]? = w.heap[k]?) (ho : ∀ k, v.ownBlock = some k → some k ≠ o) : w'.ownsRow base e z v n xs := by
  refine ⟨h.1, ?_⟩
  rcases h.2 with h | ⟨g, cap, cur, h1, h2, h3, h4⟩
  · exact .inl h
  · exact .inr ⟨g, cap, cur, h1, h2, by rw [hb g (Array.getElem?_eq_some_iff.1 h3).1 (ho g (by rw [h1]; rfl))]; exact h3, h4⟩

/-- The tree's box is written. -/
theorem TM.box (h : TM F fb tb PB B0 wr bv pv uv L P Q U) (i : Nat) (v : Value) :
    (∀ k, k ≠ tb → (wr.setCell ⟨tb, i, none⟩ v).heap[k]? = wr.heap[k]?) ∧ FuncAt (wr.setCell ⟨tb, i, none⟩ v) fb F ∧ (∀ j, (wr.setCell ⟨tb, i, none⟩ v).frozen? ⟨tb, j, none⟩ = false) ∧ Ro (wr.setCell ⟨tb, i, none⟩ v) PB F.blk.n (plc Q) := by
  have hl := h.low
  have hb : ∀ k, k ≠ tb → (wr.setCell ⟨tb, i, none⟩ v).heap[k]? = wr.heap[k]? := fun k hk => Below.heap_setCell _ _ _ _ hk
  exact ⟨hb, h.fa.kept (p := fun k => k = fb) ⟨by simp, fun k hk => by subst hk; exact hb _ hl.2.2.2.1⟩ rfl, fun j => by rw [World.frozen?_setCell]; exact h.cz j, h.pl.at_block (hb _ (fun e => hl.2.2.2.2.2 e.symm))⟩

/-- One block more. -/
theorem TM.block (h : TM F fb tb PB B0 wr bv pv uv L P Q U) {x : Nat} {bv' : Value} {w2 : World} {ob : Obj}
    (hown : w2.ownsRow B0 3 1 bv' (ints L ++ [(x : Int)]).length ((ints L ++ [(x : Int)]).map (Value.int .i64))) (hg : (wr.alloc ob).grownBy w2 bv.ownBlock) (hat : bv'.ownBlock = bv.ownBlock ∨ bv'.ownBlock = some (wr.heap.size + 1)) :
    TM F fb tb PB B0 (w2.setCell ⟨tb, 0, none⟩ bv') bv' pv uv (L ++ [x]) P Q U := by
  have hsz := hg.size
  simp only [World.size_alloc] at hsz
  have hl := h.low
  have hs := h.sz
  have hb : ∀ k, k < wr.heap.size → some k ≠ bv.ownBlock → w2.heap[k]? = wr.heap[k]? := fun k hk hne => by rw [hg.block k (by simp; omega) hne, Below.heap_alloc _ _ _ hk]
  obtain ⟨k1, k2, k3, k4, k5, k6, k7⟩ := h.keep (w' := w2) (by omega) hb (fun k e => (h.bo.lt k e).1)
  have b2 : ∀ k, k ≠ tb → (w2.setCell ⟨tb, 0, none⟩ bv').heap[k]? = w2.heap[k]? := fun k hk => Below.heap_setCell _ _ _ _ hk
  have own2 : ∀ {base e z n : Nat} {v : Value} {xs : List Value}, B0 ≤ base → w2.ownsRow base e z v n xs → (w2.setCell ⟨tb, 0, none⟩ bv').ownsRow base e z v n xs := fun hbs ho => own_in (o := some tb) ho (fun k _ hne => b2 k (fun e => hne (by rw [e]))) (fun k hk e => by have := (ho.lt k hk).1; have := Option.some.inj e; omega)
  have e2 : ints (L ++ [x]) = ints L ++ [(x : Int)] := by simp [ints]
  refine ⟨k1.kept (p := fun k => k = fb) ⟨by simp, fun k hk => by subst hk; exact b2 _ hl.2.2.2.1⟩ rfl, cell_same k2, cell_other (ne_off (by omega)) k3, cell_other (ne_off (by omega)) k4, fun i => by rw [World.frozen?_setCell]; exact k5 i, by rw [e2]; exact own2 (Nat.le_refl _) hown, own2 (Nat.le_refl _) (own_in h.po hb (fun k hk e => h.dis k e.symm hk)), k6.at_block (b2 _ (fun e => hl.2.2.2.2.2 e.symm)), own2 (Nat.le_refl _) (own_in h.uo hb (fun k hk e => kinds2 h.bo h.uo k e.symm hk)), h.un, fun g e1 e3 => ?_, hl, by simp; omega⟩
  rcases hat with h' | h'
  · rw [h'] at e1; exact h.dis g e1 e3
  · rw [h'] at e1
    have := Option.some.inj e1
    have := (h.po.lt g e3).2
    omega

/-- Whence it was met. -/
theorem TM.parent (h : TM F fb tb PB B0 wr bv pv uv L P Q U) {y : Int} {pv' : Value} {w2 : World} {ob : Obj}
    (hown : w2.ownsRow B0 3 1 pv' (P ++ [y]).length ((P ++ [y]).map (Value.int .i64))) (hg : (wr.alloc ob).grownBy w2 pv.ownBlock) (hat : pv'.ownBlock = pv.ownBlock ∨ pv'.ownBlock = some (wr.heap.size + 1)) :
    TM F fb tb PB B0 (w2.setCell ⟨tb, 1, none⟩ pv') bv pv' uv L (P ++ [y]) Q U := by
  have hsz := hg.size
  simp only [World.size_alloc] at hsz
  have hl := h.low
  have hs := h.sz
  have hb : ∀ k, k < wr.heap.size → some k ≠ pv.ownBlock → w2.heap[k]? = wr.heap[k]? := fun k hk hne => by rw [hg.block k (by simp; omega) hne, Below.heap_alloc _ _ _ hk]
  obtain ⟨k1, k2, k3, k4, k5, k6, k7⟩ := h.keep (w' := w2) (by omega) hb (fun k e => (h.po.lt k e).1)
  have b2 : ∀ k, k ≠ tb → (w2.setCell ⟨tb, 1, none⟩ pv').heap[k]? = w2.heap[k]? := fun k hk => Below.heap_setCell _ _ _ _ hk
  have own2 : ∀ {base e z n : Nat} {v : Value} {xs : List Value}, B0 ≤ base → w2.ownsRow base e z v n xs → (w2.setCell ⟨tb, 1, none⟩ pv').ownsRow base e z v n xs := fun hbs ho => own_in (o := some tb) ho (fun k _ hne => b2 k (fun e => hne (by rw [e]))) (fun k hk e => by have := (ho.lt k hk).1; have := Option.some.inj e; omega)
  refine ⟨k1.kept (p := fun k => k = fb) ⟨by simp, fun k hk => by subst hk; exact b2 _ hl.2.2.2.1⟩ rfl, cell_other (ne_off (by omega)) k2, cell_same k3, cell_other (ne_off (by omega)) k4, fun i => by rw [World.frozen?_setCell]; exact k5 i, own2 (Nat.le_refl _) (own_in h.bo hb (fun k hk e => h.dis k hk e.symm)), own2 (Nat.le_refl _) hown, k6.at_block (b2 _ (fun e => hl.2.2.2.2.2 e.symm)), own2 (Nat.le_refl _) (own_in h.uo hb (fun k hk e => kinds2 h.po h.uo k e.symm hk)), h.un, fun g e1 e3 => ?_, hl, by simp; omega⟩
  rcases hat with h' | h'
  · rw [h'] at e3; exact h.dis g e1 e3
  · rw [h'] at e3
    have := Option.some.inj e3
    have := (h.bo.lt g e1).2
    omega

/-- Its place is told. -/
theorem TM.place {x : Nat} (h : TM F fb tb PB B0 wr bv pv uv (L ++ [x]) P L U) (hx : x < F.blk.n) (hn : x ∉ L) : TM F fb tb PB B0 (wr.setCell ⟨PB, x, none⟩ (.int .i64 L.length)) bv pv uv (L ++ [x]) P (L ++ [x]) U := by
  have hl := h.low
  have b2 : ∀ k, k ≠ PB → (wr.setCell ⟨PB, x, none⟩ (.int .i64 L.length)).heap[k]? = wr.heap[k]? := fun k hk => Below.heap_setCell _ _ _ _ hk
  have own2 : ∀ {base e z n : Nat} {v : Value} {xs : List Value}, B0 ≤ base → wr.ownsRow base e z v n xs → (wr.setCell ⟨PB, x, none⟩ (.int .i64 L.length)).ownsRow base e z v n xs := fun hbs ho => own_in (o := some PB) ho (fun k _ hne => b2 k (fun e => hne (by rw [e]))) (fun k hk e => by have := (ho.lt k hk).1; have := Option.some.inj e; omega)
  have co : ∀ i {u : Value}, wr.cell? ⟨tb, i, none⟩ = some u → (wr.setCell ⟨PB, x, none⟩ (.int .i64 L.length)).cell? ⟨tb, i, none⟩ = some u := fun i u hu => by rw [World.cell?_of_block (w := wr) (b2 tb hl.2.2.2.2.2)]; exact hu
  refine ⟨h.fa.kept (p := fun k => k = fb) ⟨by simp, fun k hk => by subst hk; exact b2 _ hl.2.2.2.2.1⟩ rfl, co 0 h.c0, co 1 h.c1, co 2 h.c2, fun i => by rw [World.frozen?_setCell]; exact h.cz i, own2 (Nat.le_refl _) h.bo, own2 (Nat.le_refl _) h.po, (h.pl.set hx _).congr (fun i hi => ?_), own2 (Nat.le_refl _) h.uo, h.un, h.dis, hl, by simp; exact h.sz⟩
  unfold plc
  by_cases e : i = x
  · subst e
    rw [if_pos rfl, if_pos (by simp)]
    rw [List.idxOf_append, if_neg hn]
    simp
  · rw [if_neg e]
    by_cases hm : i ∈ L
    · rw [if_pos hm, if_pos (by simp [hm]), List.idxOf_append, if_pos hm]
    · rw [if_neg hm, if_neg (by simp [hm, e])]

/-- A step is taken off. -/
theorem TM.pop {u : Int × Nat} (h : TM F fb tb PB B0 wr bv pv uv L P Q (U ++ [u])) {g cap : Nat} (hv : uv = .slice (some ⟨g, 0, none⟩) (U ++ [u]).length cap) : TM F fb tb PB B0 wr bv pv (.slice (some ⟨g, 0, none⟩) U.length cap) L P Q U := by
  refine ⟨h.fa, h.c0, h.c1, h.c2, h.cz, h.bo, h.po, h.pl, ?_, ⟨g, cap, rfl⟩, h.dis, h.low, h.sz⟩
  have := h.uo
  rw [hv, flatU_snoc, List.length_append] at this
  exact ownsRow_pop (flatU_length U) this

/-- A step is put on. -/
theorem TM.push (h : TM F fb tb PB B0 wr bv pv uv L P Q U) {u : Int × Nat} {uv' : Value} {w2 : World} {ob : Obj}
    (hown : w2.ownsRow B0 168 2 uv' (U.length + 1) (flatU U ++ [.int .i64 u.1, .int .i64 (u.2 : Int)])) (hg : (wr.alloc ob).grownBy w2 uv.ownBlock) : TM F fb tb PB B0 w2 bv pv uv' L P Q (U ++ [u]) := by
  have hsz := hg.size
  simp only [World.size_alloc] at hsz
  have hb : ∀ k, k < wr.heap.size → some k ≠ uv.ownBlock → w2.heap[k]? = wr.heap[k]? := fun k hk hne => by rw [hg.block k (by simp; omega) hne, Below.heap_alloc _ _ _ hk]
  obtain ⟨k1, k2, k3, k4, k5, k6, k7⟩ := h.keep (w' := w2) (by omega) hb (fun k e => (h.uo.lt k e).1)
  refine ⟨k1, k2, k3, k4, k5, own_in h.bo hb (fun k hk e => kinds2 h.bo h.uo k hk e.symm), own_in h.po hb (fun k hk e => kinds2 h.po h.uo k hk e.symm), k6, by rw [flatU_snoc, List.length_append]; exact hown, ?_, h.dis, h.low, k7⟩
  rcases hown.2 with ⟨_, h0⟩ | ⟨q, c, cur, hq, _⟩
  · omega
  · exact ⟨q, c, by rw [hq]; simp⟩

end Go.Proofs.Ytbmfimojhcdnbaa.Dm

/-
  dom.grow, walked.
-/
namespace Go.Proofs.Ytbmfimojhcdnbaa.Dm
open Go.RowKit View Rd Copy Num Ty Srt Go.Proofs.Ytbmfimojhcdnbaa.Flo Go.Proofs.Ytbmfimojhcdnbaa.Lt

set_option linter.unusedVariables false

def parL (par : Nat → Nat) (m : Nat) : List Int := (List.range m).map (fun p => if p = 0 then -1 else (par p : Int))

def GroS (F : FV) (L : List Nat) (P : List Int) (U : List (Int × Nat)) : Prop :=
  (L = [] ∧ P = [] ∧ U = [(-1, 0)]) ∨ ∃ par U', U = U'.map (fun u : Nat × Nat => ((u.1 : Int), u.2)) ∧ Gro (su F) L par U' ∧ P = parL par L.length

def GrowIs (F : FV) (w : World) (e : Ending) (w' : World) : Prop := ∃ (L : List Nat) (par : Nat → Nat) (g1 c1 g2 c2 g3 : Nat), e = .returned (.agg #[.slice (some ⟨g1, 0, none⟩) L.length c1, .slice (some ⟨g2, 0, none⟩) L.length c2, .slice (some ⟨g3, 0, none⟩) F.blk.n F.blk.n]) ∧ Gro (su F) L par [] ∧
  Ro w' g1 L.length (fun i => ((L.getD i 0 : Nat) : Int)) ∧ Ro w' g2 L.length (fun p => if p = 0 then -1 else (par p : Int)) ∧ Ro w' g3 F.blk.n (plc L) ∧ w.heap.size ≤ g1 ∧ w.heap.size ≤ g2 ∧ w.heap.size ≤ g3 ∧ L.length ≤ c1 ∧ L.length ≤ c2 ∧ Below w.heap.size w w'

theorem new_cell (A : World) (c : Array Value) (t : TypeId) (i : Nat) (v : Value) (h : c[i]? = some v) : (A.alloc (.cells c t)).cell? ⟨A.heap.size, i, none⟩ = some v := by
  have hg := heap_alloc_new A (.cells c t)
  unfold World.cell?
  rw [hg]
  exact h
theorem new_froz (A : World) (c : Array Value) (t : TypeId) (i : Nat) : (A.alloc (.cells c t)).frozen? ⟨A.heap.size, i, none⟩ = false := by
  have hg := heap_alloc_new A (.cells c t)
  unfold World.frozen?
  rw [hg]
  simp

theorem way_lt {F : FV} (h0 : 0 < F.blk.n) {y : Nat} (h : Go.Proofs.Ytbmfimojhcdnbaa.Flo.Way (su F) 0 y) : y < F.blk.n := by
  cases h with
  | refl => exact h0
  | step _ hc => exact su_lt F _ _ hc

theorem map_snoc {U' : List (Int × Nat)} {u : Int × Nat} {U2 : List (Nat × Nat)} (h : U' ++ [u] = U2.map (fun u : Nat × Nat => ((u.1 : Int), u.2))) : ∃ U3 v, U2 = U3 ++ [v] ∧ U' = U3.map (fun u : Nat × Nat => ((u.1 : Int), u.2)) ∧ u = ((v.1 : Int), v.2) := by
  rcases List.eq_nil_or_concat U2 with rfl | ⟨U3, v, rfl⟩
  · simp at h
  · simp only [List.concat_eq_append, List.map_append, List.map_cons, List.map_nil] at h
    have := List.append_inj' h rfl
    refine ⟨U3, v, by simp, this.1, by simpa using this.2⟩

theorem GroS.skip {F : FV} {L : List Nat} {P : List Int} {U' : List (Int × Nat)} {uf : Int} {x : Nat} (h : GroS F L P (U' ++ [(uf, x)])) (hx : x ∈ L) : GroS F L P U' := by
  rcases h with ⟨rfl, _, _⟩ | ⟨par, U2, e1, e2, e3⟩
  · simp at hx
  · obtain ⟨U3, v, rfl, e4, e5⟩ := map_snoc e1
    have e6 : x = v.2 := congrArg Prod.snd e5
    exact .inr ⟨par, U3, e4, e2.skip (by rw [← e6]; exact hx), e3⟩

theorem parL_next (par : Nat → Nat) {m f : Nat} (hm : 0 < m) : parL (parN par m f) (m + 1) = parL par m ++ [(f : Int)] := by
  unfold parL
  rw [List.range_succ, List.map_append]
  congr 1
  · apply List.map_congr_left
    intro p hp
    have := List.mem_range.1 hp
    simp [parN, show p ≠ m by omega]
  · simp [parN, show m ≠ 0 by omega]

theorem GroS.meet {F : FV} {L : List Nat} {P : List Int} {U' : List (Int × Nat)} {uf : Int} {x : Nat} (h : GroS F L P (U' ++ [(uf, x)])) (hx : x ∉ L) : GroS F (L ++ [x]) (P ++ [uf]) (U' ++ (su F x).map (fun v => ((L.length : Int), v))) := by
  rcases h with ⟨rfl, rfl, e⟩ | ⟨par, U2, e1, e2, e3⟩
  · have e' : U' = [] ∧ uf = -1 ∧ x = 0 := by
      cases U' with
      | nil => simp at e; exact ⟨rfl, e.1, e.2⟩
      | cons a b => simp at e
    obtain ⟨rfl, rfl, rfl⟩ := e'
    exact .inr ⟨fun _ => 0, (su F 0).map (fun v => (0, v)), by simp, by simpa using Gro.start (su F), by simp [parL]⟩
  · obtain ⟨U3, v, rfl, e4, e5⟩ := map_snoc e1
    have e6 : x = v.2 := congrArg Prod.snd e5
    have e7 : uf = (v.1 : Int) := congrArg Prod.fst e5
    subst e6
    refine .inr ⟨parN par L.length v.1, U3 ++ (su F v.2).map (fun y => (L.length, y)), by rw [e4]; simp, e2.meet hx, ?_⟩
    rw [List.length_append]
    show _ = parL _ (L.length + 1)
    rw [parL_next par e2.pos, e3, e7]

theorem owns_len {w : World} {base e z n : Nat} {v : Value} {xs : List Value} (h : w.ownsRow base e z v n xs) : ∃ a c, v = .slice a n c := by
  rcases h.2 with ⟨rfl, rfl⟩ | ⟨g, cap, cur, rfl, _⟩
  · exact ⟨none, 0, rfl⟩
  · exact ⟨some ⟨g, 0, none⟩, cap, rfl⟩

theorem append_step {ops : Array Oper} {rest : List Oper} {o : Oper} {a : Act} {Q : Exit → Act → World → Prop} {w : World} (hgd : o.guard = none) (s x : Operand)
    (ho : o.op = .call { callee := .builtin .append, args := #[s, x], argTypes := #[169, 169] })
    (base : Nat) (v : Value) (n : Nat) (xs : List Value) (hs : a.eval s = v) (y z : Int) (hown : w.ownsRow base 168 2 v n xs)
    (hx : a.eval x = .slice (some ⟨w.heap.size, 0, none⟩) 1 1)
    (hsm : n ≤ 1000000) (hbase : base ≤ w.heap.size)
    (h : ∀ v' w', w'.ownsRow base 168 2 v' (n + 1) (xs ++ [.int .i64 y, .int .i64 z]) → (w.alloc (.cells #[.int .i64 y, .int .i64 z] 168)).grownBy w' v.ownBlock → (v'.ownBlock = v.ownBlock ∨ v'.ownBlock = some (w.heap.size + 1)) → wpList Try.prog ops Q rest (a.put o.dst v') w') : wpList Try.prog ops Q (o :: rest) a (w.alloc (.cells #[.int .i64 y, .int .i64 z] 168)) := by
  obtain ⟨i0, hi, hz0, hz1, hz2⟩ := info_parts info168
  refine wpList_append_own_at _ hgd s x 169 ho base 168 i0 (.agg #[.int .i64 0, .int .i64 0]) 2 16 underlying169 hi hz0 hz1 hz2 rfl (by decide) v _ _ hs (hown.alloc _) ⟨w.heap.size, 0, none⟩ 1 1 [.int .i64 y, .int .i64 z] hx rfl (cell_two_new _ _ _ _) (by intro u hu; simp at hu; rcases hu with rfl | rfl <;> rfl) (by simp only [maxLen]; omega) (by omega) (by simp; omega) ?_
  intro v' w' h1 h2 _ h4
  exact h v' w' h1 h2 (by simpa using h4)

theorem step_at {g n cap x : Nat} (hx : x < n) : ∀ wx, (Instr.indexAt 169 (.slice (some ⟨g, 0, none⟩) n cap) (.int .i64 x)).run Try.prog wx = .ok (.pointer (some ⟨g, x * 2, none⟩)) wx := by
  have := index_row (s := ⟨some ⟨g, 0, none⟩, n, cap⟩) rfl underlying169 size168 hx
  simpa using this

theorem cut_step {g c n : Nat} {cap : Nat} (h : n ≤ cap) : ∀ wx, (Instr.slice 169 (.slice (some ⟨g, 0, none⟩) c cap) none (some (.int .i64 n)) none).run Try.prog wx = .ok (.slice (some ⟨g, 0, none⟩) n cap) wx := by
  intro wx
  have he : Try.prog.elem 169 = 168 := by unfold Program.elem; rw [underlying169]
  obtain ⟨i, hi, hi'⟩ := Option.map_eq_some_iff.1 size168
  have hr := run_slice_h (P := Try.prog) wx 169 (some ⟨g, 0, none⟩) c cap (by rw [he]; exact underlying169) .i64 n (by omega) (by omega)
  rw [he] at hr
  rw [hr]
  simp [sizeOf, typeInfo, hi, hi', sliced, Addr.add_lit]

theorem TM.top {F : FV} {fb tb PB B0 : Nat} {wr : World} {bv pv : Value} {L : List Nat} {P : List Int} {Q : List Nat} {U : List (Int × Nat)} {u : Int × Nat} {g cap : Nat} (h : TM F fb tb PB B0 wr bv pv (.slice (some ⟨g, 0, none⟩) (U ++ [u]).length cap) L P Q (U ++ [u])) :
    wr.cell? ⟨g, U.length * 2, none⟩ = some (.int .i64 u.1) ∧ wr.cell? ⟨g, U.length * 2 + 1, none⟩ = some (.int .i64 (u.2 : Int)) ∧ B0 ≤ g ∧ g < wr.heap.size ∧ (U.length + 1 ≤ cap) := by
  have hc := h.uo.cells (g := g) rfl
  have hl := h.uo.lt g rfl
  have e1 : (flatU (U ++ [u]))[U.length * 2]? = some (.int .i64 u.1) := by rw [flatU_snoc, List.getElem?_append_right (by rw [flatU_length]; omega), flatU_length]; simp
  have e2 : (flatU (U ++ [u]))[U.length * 2 + 1]? = some (.int .i64 (u.2 : Int)) := by rw [flatU_snoc, List.getElem?_append_right (by rw [flatU_length]; omega), flatU_length]; simp
  have k1 := hc _ _ e1
  have k2 := hc _ _ e2
  rw [Addr.add_lit] at k1 k2
  refine ⟨by simpa using k1, by simpa using k2, hl.1, hl.2, ?_⟩
  rcases h.uo.2 with ⟨h0, _⟩ | ⟨g', c', cur, hv, _, hg, hn, _⟩
  · cases h0
  · cases hv; simpa using hn

set_option maxRecDepth 10000 in
set_option maxHeartbeats 4000000 in
theorem grow_any (F : FV) (w : World) (hF : In w F) (hl : Light F) (hj : Jng F) (h0 : 0 < F.blk.n) : Calls Try.prog 139 #[F.val] w fun e w' => GrowIs F w e w' := by
  have HF := hid hF
  have HL := hid hl
  have HJ := hid hj
  have gb := hl.blk
  have t0 : ((F.blk.n : Int) == 0) = false := by simp; omega
  clear hF hl hj
  go_enter Try.func139, Try.ntmps139
  go_wp2_with fail
  have hx0 : (((w.alloc (.cells (fcells F) 33)).alloc (.cells #[.slice none 0 0, .slice none 0 0, .slice none 0 0] 158)).alloc (.cells #[.int .i64 (-1)] 3)).cell? ⟨w.heap.size + 1 + 1, 0, none⟩ = some (.int .i64 (-1)) := by
    have := new_cell ((w.alloc (.cells (fcells F) 33)).alloc (.cells #[.slice none 0 0, .slice none 0 0, .slice none 0 0] 158)) #[.int .i64 (-1)] 3 0 _ rfl
    simp only [World.size_alloc] at this
    exact this
  have hz0 : ∀ i, i < 3 → (((w.alloc (.cells (fcells F) 33)).alloc (.cells #[.slice none 0 0, .slice none 0 0, .slice none 0 0] 158)).alloc (.cells #[.int .i64 (-1)] 3)).cell? ⟨w.heap.size + 1, i, none⟩ = some (.slice none 0 0) := fun i hi => by
    have h3 : (#[.slice none 0 0, .slice none 0 0, .slice none 0 0] : Array Value)[i]? = some (.slice none 0 0) := by
      have h3 : i = 0 ∨ i = 1 ∨ i = 2 := by omega
      rcases h3 with rfl | rfl | rfl <;> rfl
    have := new_cell (w.alloc (.cells (fcells F) 33)) #[.slice none 0 0, .slice none 0 0, .slice none 0 0] 158 i _ h3
    simp only [World.size_alloc] at this
    exact cell_on (new (same _) _) this
  have hzf : ∀ i, (((w.alloc (.cells (fcells F) 33)).alloc (.cells #[.slice none 0 0, .slice none 0 0, .slice none 0 0] 158)).alloc (.cells #[.int .i64 (-1)] 3)).frozen? ⟨w.heap.size + 1, i, none⟩ = false := fun i => by
    have := new_froz (w.alloc (.cells (fcells F) 33)) #[.slice none 0 0, .slice none 0 0, .slice none 0 0] 158 i
    simp only [World.size_alloc] at this
    rw [(new (same ((w.alloc (.cells (fcells F) 33)).alloc (.cells #[.slice none 0 0, .slice none 0 0, .slice none 0 0] 158))) (.cells #[.int .i64 (-1)] 3)).frozen (by simp)]
    exact this
  refine (repeat_any (-1) (w.heap.size + 1 + 1) F.blk.n gb _ hx0).mono ?_
  rintro e w1 ⟨PB, rfl, hr1, hP1, hb1⟩
  simp only [World.size_alloc] at hP1
  have B1 := hid (View.more (new (new (new (same w) _) _) _) hb1)
  have FA1 := hid (show FuncAt w1 w.heap.size F from (((FuncAt.alloc w F).on (new (same _) _)).on (new (same _) _)).on hb1)
  have R1 := hid (show Ro w1 PB F.blk.n (plc []) from (Ro.of_row hr1).congr (fun i hi => by simp [plc, hi]))
  have Z1 := hid (show (∀ i, i < 3 → w1.cell? ⟨w.heap.size + 1, i, none⟩ = some (.slice none 0 0)) ∧ ∀ i, w1.frozen? ⟨w.heap.size + 1, i, none⟩ = false from ⟨fun i hi => cell_on hb1 (hz0 i hi), fun i => by rw [hb1.frozen (by simp)]; exact hzf i⟩)
  obtain ⟨c0, c1, c2, c3, c4⟩ := FA1.out
  have zz := hb1.size
  simp only [World.size_alloc] at zz
  have hwl : w.heap.size < w1.heap.size := by omega
  clear hr1 hb1 hx0 hz0 hzf
  go_wp2_with fail
  obtain ⟨tb, htb⟩ : ∃ tb, w1.heap.size = tb := ⟨_, rfl⟩
  have hPBl := R1.out.lt
  have tm : TM F w.heap.size tb PB (tb + 1) ((w1.alloc (.cells #[.slice none 0 0, .slice none 0 0, .slice (some ⟨PB, 0, none⟩) F.blk.n F.blk.n] 158)).alloc (.cells #[.int .i64 (-1), .int .i64 0] 168)) (.slice none 0 0) (.slice none 0 0) (.slice (some ⟨tb + 1, 0, none⟩) 1 1) [] [] [] [(-1, 0)] := by
    have nc := fun i v h => new_cell w1 #[.slice none 0 0, .slice none 0 0, .slice (some ⟨PB, 0, none⟩) F.blk.n F.blk.n] 158 i v h
    rw [htb] at nc
    refine ⟨(FA1.out.on (new (same _) _)).on (new (same _) _), cell_on (new (same _) _) (nc 0 _ rfl), cell_on (new (same _) _) (nc 1 _ rfl), cell_on (new (same _) _) (nc 2 _ rfl), fun i => ?_, World.ownsRow_nil _ _ _ _, World.ownsRow_nil _ _ _ _, (R1.out.on (new (same _) _)).on (new (same _) _), ?_, ⟨_, _, rfl⟩, fun g e => by simp [Value.ownBlock] at e, ⟨by omega, by omega, by omega, by omega, by omega, by omega⟩, by simp; omega⟩
    · rw [(new (same (w1.alloc (.cells #[.slice none 0 0, .slice none 0 0, .slice (some ⟨PB, 0, none⟩) F.blk.n F.blk.n] 158))) _).frozen (by simp; omega)]
      have := new_froz w1 #[.slice none 0 0, .slice none 0 0, .slice (some ⟨PB, 0, none⟩) F.blk.n F.blk.n] 158 i
      rw [htb] at this
      exact this
    · have := World.ownsRow_lit (base := tb + 1) (size := 2) (e := 168) (w1.alloc (.cells #[.slice none 0 0, .slice none 0 0, .slice (some ⟨PB, 0, none⟩) F.blk.n F.blk.n] 158)) #[.int .i64 (-1), .int .i64 0] 1 (by simp; omega) (by decide) rfl
      simp only [World.size_alloc, htb] at this
      simpa [flatU] using this
  have TM0 := hid tm
  have BB0 := hid (show Below w.heap.size w ((w1.alloc (.cells #[.slice none 0 0, .slice none 0 0, .slice (some ⟨PB, 0, none⟩) F.blk.n F.blk.n] 158)).alloc (.cells #[.int .i64 (-1), .int .i64 0] 168)) from new (new B1.out _) _)
  have RC0 := hid (show (∀ i, i < 3 → ((w1.alloc (.cells #[.slice none 0 0, .slice none 0 0, .slice (some ⟨PB, 0, none⟩) F.blk.n F.blk.n] 158)).alloc (.cells #[.int .i64 (-1), .int .i64 0] 168)).cell? ⟨w.heap.size + 1, i, none⟩ = some (.slice none 0 0)) ∧ ∀ i, ((w1.alloc (.cells #[.slice none 0 0, .slice none 0 0, .slice (some ⟨PB, 0, none⟩) F.blk.n F.blk.n] 158)).alloc (.cells #[.int .i64 (-1), .int .i64 0] 168)).frozen? ⟨w.heap.size + 1, i, none⟩ = false from ⟨fun i hi => cell_on (new (new (same _) _) _) (Z1.out.1 i hi), fun i => by rw [(new (new (same w1) _) _).frozen (by show w.heap.size + 1 < _; omega)]; exact Z1.out.2 i⟩)
  obtain ⟨W, hW⟩ : ∃ W, (w1.alloc (.cells #[.slice none 0 0, .slice none 0 0, .slice (some ⟨PB, 0, none⟩) F.blk.n F.blk.n] 158)).alloc (.cells #[.int .i64 (-1), .int .i64 0] 168) = W := ⟨_, rfl⟩
  rw [hW] at TM0 BB0 RC0
  simp only [htb, hW]
  clear hW tm c0 c1 c2 c3 c4
  go_loopg [4] (F.blk.n * 21 + 1) (fun k uv wr => ∃ bv pv L P U, TM F w.heap.size tb PB (tb + 1) wr bv pv uv L P L U ∧ GroS F L P U ∧ Below w.heap.size w wr ∧ wr.heap[w.heap.size + 1]? = W.heap[w.heap.size + 1]? ∧ (F.blk.n - L.length) * 21 + U.length ≤ k ∧ (F.blk.n - L.length) * 21 + U.length ≤ 1200)
  case atStart => exact ⟨_, _, _, _, _, TM0.out, .inl ⟨rfl, rfl, rfl⟩, BB0.out, rfl, by simp, by simp; omega⟩
  case round =>
    clear TM0 BB0
    obtain ⟨bv, pv, L, P, U, ht, hg, hb, hrc, hk, hk4⟩ := hrel
    have HK4 := hid hk4
    obtain ⟨ug, ucap, hun⟩ := ht.un
    subst hun
    have HT := hid ht
    have HG := hid hg
    have HB := hid (And.intro hb hrc)
    have HK := hid hk
    clear ht hg hb hrc hk hk4
    rcases List.eq_nil_or_concat U with hU | ⟨U', u, hU⟩
    · subst hU
      obtain ⟨par, hgr, hP⟩ : ∃ par, Gro (su F) L par [] ∧ P = parL par L.length := by
        rcases HG.out with ⟨_, _, h⟩ | ⟨par, U', h1, h2, h3⟩
        · cases h
        · cases U' with
          | nil => exact ⟨par, h2, h3⟩
          | cons a b => simp at h1
      have lp := hgr.pos
      obtain ⟨g1, k1, e1, r1, b1⟩ := ro_of_owns HT.out.bo (by simp; omega) rfl
      obtain ⟨g2, k2, e2, r2, b2⟩ := ro_of_owns HT.out.po (by rw [hP]; simp [parL]; omega) rfl
      have e3 : (ints L).length = L.length := by simp
      have e4 : P.length = L.length := by rw [hP]; simp [parL]
      rw [e3] at e1 r1
      rw [e4] at e2 r2
      have n1 : L.length ≤ k1 := by
        have := HT.out.bo
        rw [e1, e3] at this
        rcases this.2 with ⟨h, _⟩ | ⟨g', c', cur, hv, _, hg, hn, _⟩
        · cases h
        · cases hv; exact hn
      have n2 : L.length ≤ k2 := by
        have := HT.out.po
        rw [e2, e4] at this
        rcases this.2 with ⟨h, _⟩ | ⟨g', c', cur, hv, _, hg, hn, _⟩
        · cases h
        · cases hv; exact hn
      have FIN := hid (show Gro (su F) L par [] ∧ Ro wr g1 L.length (fun i => ((L.getD i 0 : Nat) : Int)) ∧ Ro wr g2 L.length (fun p => if p = 0 then -1 else (par p : Int)) ∧ Ro wr PB F.blk.n (plc L) from ⟨hgr, r1.congr (fun i hi => getD_ints L i hi), r2.congr (fun i hi => by rw [hP]; simp [parL, List.getD, hi]), HT.out.pl⟩)
      have c0 := HT.out.c0
      have c1 := HT.out.c1
      have c2 := HT.out.c2
      rw [e1] at c0
      rw [e2] at c1
      have rc : ∀ i, i < 3 → wr.cell? ⟨w.heap.size + 1, i, none⟩ = some (.slice none 0 0) := fun i hi => by rw [World.cell?_of_block (w := W) HB.out.2]; exact RC0.out.1 i hi
      have rf : ∀ i, wr.frozen? ⟨w.heap.size + 1, i, none⟩ = false := fun i => by rw [World.frozen?_of_block (w := W) HB.out.2]; exact RC0.out.2 i
      have rc0 := rc 0 (by omega)
      have rc1 := rc 1 (by omega)
      have rc2 := rc 2 (by omega)
      have HN := hid (And.intro n1 (And.intro n2 (And.intro b1 b2)))
      clear hgr hP lp r1 r2 e1 e2 e3 e4 n1 n2 b1 b2 rc HG
      go_wp2_with fail
      refine bodyPost_ret (v := .agg #[.slice (some ⟨g1, 0, none⟩) L.length k1, .slice (some ⟨g2, 0, none⟩) L.length k2, .slice (some ⟨PB, 0, none⟩) F.blk.n F.blk.n]) (by rw [results_cell rfl]; go_simp) rfl ?_
      have kz : ∀ g, g ≠ w.heap.size + 1 → (((wr.setCell ⟨w.heap.size + 1, 0, none⟩ (.slice (some ⟨g1, 0, none⟩) L.length k1)).setCell ⟨w.heap.size + 1, 1, none⟩ (.slice (some ⟨g2, 0, none⟩) L.length k2)).setCell ⟨w.heap.size + 1, 2, none⟩ (.slice (some ⟨PB, 0, none⟩) F.blk.n F.blk.n)).heap[g]? = wr.heap[g]? := fun g hg => by
        rw [Below.heap_setCell _ _ _ _ hg, Below.heap_setCell _ _ _ _ hg, Below.heap_setCell _ _ _ _ hg]
      obtain ⟨q1, q2, q3, q4⟩ := HN.out
      have := FIN.out
      refine ⟨L, par, g1, k1, g2, k2, PB, rfl, FIN.out.1, FIN.out.2.1.at_block (kz _ (by omega)), FIN.out.2.2.1.at_block (kz _ (by omega)), FIN.out.2.2.2.at_block (kz _ (by omega)), by omega, by omega, by omega, q1, q2, ((HB.out.1.setCell (by show _ ≤ w.heap.size + 1; omega) _).setCell (by show _ ≤ w.heap.size + 1; omega) _).setCell (by show _ ≤ w.heap.size + 1; omega) _⟩
    · simp only [List.concat_eq_append] at hU
      subst hU
      obtain ⟨uf, x⟩ := u
      obtain ⟨h1, h2, h3, h4, h5⟩ := HT.out.top
      have hlen : (U' ++ [(uf, x)]).length = U'.length + 1 := by simp
      have hxn : x < F.blk.n := by
        rcases HG.out with ⟨_, _, h⟩ | ⟨par, U2, e1, e2, e3⟩
        · have := congrArg (fun l => l.getLast?) h
          simp at this
          omega
        · have : (uf, x) ∈ U2.map (fun u : Nat × Nat => ((u.1 : Int), u.2)) := by rw [← e1]; simp
          obtain ⟨v, hv, hv2⟩ := List.mem_map.1 this
          have h6 := (e2.ent v hv).2.1
          have h7 : v.2 = x := congrArg Prod.snd hv2
          rw [← h7]
          exact su_lt F _ _ h6
      have hLn : L.length ≤ F.blk.n ∧ (x ∉ L → L.length + 1 ≤ F.blk.n) := by
        rcases HG.out with ⟨rfl, _, h⟩ | ⟨par, U2, e1, e2, e3⟩
        · exact ⟨by simp, fun _ => by simp; omega⟩
        · have hlt : ∀ y ∈ L, y < F.blk.n := fun y hy => way_lt h0 (e2.way y hy)
          exact ⟨length_le_of_lt _ _ e2.nodup hlt, fun hx => by
            have := length_le_of_lt F.blk.n (L ++ [x]) (List.nodup_append.2 ⟨e2.nodup, by simp, fun a ha b hb => by simp at hb; rintro rfl; exact hx (hb ▸ ha)⟩) (fun y hy => by
              rcases List.mem_append.1 hy with h | h
              · exact hlt y h
              · simp at h; omega)
            simpa using this⟩
      obtain ⟨k, hkk⟩ : ∃ k, U'.length = k := ⟨_, rfl⟩
      rw [hkk] at h1 h2 h5 hlen
      rw [hlen]
      have i1 := step_at (g := ug) (cap := ucap) (Nat.lt_succ_self k)
      have i2 := cut_step (g := ug) (c := k + 1) (n := k) (cap := ucap) (by omega)
      have i3 := int_at (g := PB) (c := F.blk.n) hxn
      have c0 := HT.out.c0
      have c2 := HT.out.c2
      have p1 := HT.out.pl.cell x hxn
      have hlo := HT.out.low
      obtain ⟨l1, l2, l3, l4, l5, l6⟩ := hlo
      have hsz := HT.out.sz
      have z1 : tb < wr.heap.size := by omega
      have z2 : PB < wr.heap.size := by omega
      have z3 : w.heap.size < wr.heap.size := by omega
      have HKK := hid (And.intro hkk hlen)
      have hkb : k ≤ 1200 := by have := HK4.out; rw [hlen] at this; omega
      clear hkk hlen
      have T1 := hid (HT.out.on (new (same wr) (.cells #[.int .i64 uf, .int .i64 x] 168)))
      by_cases hxL : x ∈ L
      · have t1 : (plc L x != -1) = true := by unfold plc; rw [if_pos hxL]; simp
        have HXL := hid hxL
        clear hxL
        go_wp2_with fail
        go_roundg ((F.blk.n - L.length) * 21 + k)
        case measure => have := HK.out; rw [HKK.out.2] at this; omega
        case rel =>
          have tp := T1.out.pop (by rw [HKK.out.2])
          rw [HKK.out.1] at tp
          exact ⟨bv, pv, L, P, U', tp, HG.out.skip HXL.out, new HB.out.1 _, by rw [Below.heap_alloc _ _ _ (by omega)]; exact HB.out.2, by rw [HKK.out.1]; exact Nat.le_refl _, by have := HK4.out; rw [HKK.out.2] at this; rw [HKK.out.1]; omega⟩
      · have t1 : plc L x = -1 := by unfold plc; rw [if_neg hxL]
        rw [t1] at p1
        have HXL := hid hxL
        obtain ⟨ba, bc, hbv⟩ := owns_len HT.out.bo
        obtain ⟨m, hm⟩ : ∃ m, L.length = m := ⟨_, rfl⟩
        have hbv2 : bv = .slice ba m bc := by rw [hbv]; simp [hm]
        subst hbv2
        obtain ⟨pa, pc, hpv⟩ := owns_len HT.out.po
        subst hpv
        have c1 := HT.out.c1
        have cz := HT.out.cz
        have HM := hid hm
        have hm16 : m + 1 ≤ 48 := by have := hLn.2 hxL; omega
        have hmn : m + 1 ≤ F.blk.n := by have := hLn.2 hxL; omega
        have hh0 : ∀ i v, (#[.int .i64 uf, .int .i64 x] : Array Value)[i]? = some v → (wr.alloc (.cells #[.int .i64 uf, .int .i64 x] 168)).cell? ⟨wr.heap.size, i, none⟩ = some v := fun i v h => new_cell wr _ _ i v h
        have HH0 := hid hh0
        obtain ⟨W1, hW1⟩ : ∃ W1, wr.alloc (.cells #[.int .i64 uf, .int .i64 x] 168) = W1 := ⟨_, rfl⟩
        have W1z := hid (show W1.heap.size = wr.heap.size + 1 by rw [← hW1]; simp)
        have B1' := hid (show Below w.heap.size w W1 ∧ W1.heap[w.heap.size + 1]? = W.heap[w.heap.size + 1]? by rw [← hW1]; exact ⟨new HB.out.1 _, by rw [Below.heap_alloc _ _ _ (by omega)]; exact HB.out.2⟩)
        rw [hW1] at HH0 T1
        obtain ⟨N1, hN1⟩ : ∃ N1, wr.heap.size = N1 := ⟨_, rfl⟩
        rw [hN1] at W1z HH0
        have e1 := HH0.out 0 _ rfl
        have e2 := HH0.out 1 _ rfl
        have d0 := T1.out.c0
        have d1 := T1.out.c1
        have d2 := T1.out.c2
        have dp := T1.out.pl.cell x hxn
        rw [t1] at dp
        have hN1z : N1 < W1.heap.size := by have := W1z.out; omega
        clear hxL hbv hm hh0 c0 c1 c2 p1 cz
        have lo1 : ∀ g, (Value.slice ba m bc).ownBlock = some g → g < N1 := fun g e => by rw [← hN1]; exact (HT.out.bo.lt g e).2
        have lo2 : ∀ g, (Value.slice pa P.length pc).ownBlock = some g → g < N1 := fun g e => by rw [← hN1]; exact (HT.out.po.lt g e).2
        have LO := hid (And.intro lo1 lo2)
        have HPL := hid (show P.length = L.length by
          rcases HG.out with ⟨rfl, rfl, _⟩ | ⟨par, U2, e1, e2, rfl⟩
          · rfl
          · simp [parL])
        clear lo1 lo2
        go_wp2_with (first | (at_builtin; refine append_at rfl (.tmp 47) (.tmp 50) rfl (tb + 1) _ (ints L) rfl x T1.out.bo rfl (by simp; have := HM.out; omega) (by have := T1.out.sz; omega) ?_; intro v2 w2 o2 g2 a2; have O2 := hid (And.intro o2 (And.intro g2 a2)); obtain ⟨va, vc, hv2⟩ := owns_len o2; subst hv2; obtain ⟨n2, hn2⟩ : ∃ n2, (ints L ++ [(x : Int)]).length = n2 := ⟨_, rfl⟩; have T2 := hid (T1.out.block o2 g2 a2); rw [hn2] at O2 T2 ⊢; have hb2 : ∀ k, k < W1.heap.size → some k ≠ (Value.slice ba m bc).ownBlock → w2.heap[k]? = W1.heap[k]? := (fun k hk hne => by rw [g2.block k (by simp; omega) hne, Below.heap_alloc _ _ _ hk]); have kp2 := T1.out.keep (w' := w2) (by have := g2.size; simp at this; omega) hb2 (fun k e => (T1.out.bo.lt k e).1); have q0 := kp2.2.1; have qz := kp2.2.2.2.2.1 0; have bb2 : Below w.heap.size w w2 := (new B1'.out.1 _).grown g2 (by simp; have := B1'.out.1.size; omega) (fun q hq => by have := (T1.out.bo.lt q hq).1; omega); obtain ⟨W2, hW2⟩ : ∃ W2, w2.setCell ⟨tb, 0, none⟩ (.slice va n2 vc) = W2 := ⟨_, rfl⟩; rw [hW2] at T2; have hk2 : ∀ k, k < W1.heap.size → some k ≠ (Value.slice ba m bc).ownBlock → k ≠ tb → W2.heap[k]? = W1.heap[k]? := (fun k h1 h2 h3 => by rw [← hW2, Below.heap_setCell _ _ _ _ h3]; exact hb2 k h1 h2); have BB2 := hid (show Below w.heap.size w W2 ∧ W2.heap[w.heap.size + 1]? = W.heap[w.heap.size + 1]? from ⟨by rw [← hW2]; exact bb2.setCell (by show _ ≤ tb; omega) _, by rw [hk2 _ (by omega) (fun e => by have := (T1.out.bo.lt _ e.symm).1; omega) (by omega)]; exact B1'.out.2⟩); have e1b : W2.cell? ⟨N1, 0, none⟩ = some (.int .i64 uf) := (by rw [World.cell?_of_block (w := W1) (hk2 N1 hN1z (fun e => by have := LO.out.1 _ e.symm; omega) (by omega))]; exact HH0.out 0 _ rfl); have e2b : W2.cell? ⟨N1, 1, none⟩ = some (.int .i64 x) := (by rw [World.cell?_of_block (w := W1) (hk2 N1 hN1z (fun e => by have := LO.out.1 _ e.symm; omega) (by omega))]; exact HH0.out 1 _ rfl); have d1b := T2.out.c1; have hN2z : N1 < W2.heap.size := World.block_lt_of_cell? _ _ e1b; clear o2 g2 a2 hn2 hb2 kp2 bb2 hk2) | (at_builtin; refine append_at rfl (.tmp 54) (.tmp 57) rfl (tb + 1) _ P rfl uf T2.out.po rfl (by have := HM.out; have := HPL.out; omega) (by have := T2.out.sz; omega) ?_; intro v3 w3 o3 g3 a3; obtain ⟨xa, xc, hv3⟩ := owns_len o3; subst hv3; obtain ⟨n3, hn3⟩ : ∃ n3, (P ++ [uf]).length = n3 := ⟨_, rfl⟩; have T3 := hid (T2.out.parent o3 g3 a3); rw [hn3] at T3 ⊢; have hb3 : ∀ k, k < W2.heap.size → some k ≠ (Value.slice pa P.length pc).ownBlock → w3.heap[k]? = W2.heap[k]? := (fun k hk hne => by rw [g3.block k (by simp; omega) hne, Below.heap_alloc _ _ _ hk]); have kp3 := T2.out.keep (w' := w3) (by have := g3.size; simp at this; omega) hb3 (fun k e => (T2.out.po.lt k e).1); have q1 := kp3.2.2.1; have qz1 := kp3.2.2.2.2.1 1; have bb3 : Below w.heap.size w w3 := (new BB2.out.1 _).grown g3 (by simp; have := BB2.out.1.size; omega) (fun q hq => by have := (T2.out.po.lt q hq).1; omega); obtain ⟨W3, hW3⟩ : ∃ W3, w3.setCell ⟨tb, 1, none⟩ (.slice xa n3 xc) = W3 := ⟨_, rfl⟩; rw [hW3] at T3; have hk3 : ∀ k, k < W2.heap.size → some k ≠ (Value.slice pa P.length pc).ownBlock → k ≠ tb → W3.heap[k]? = W2.heap[k]? := (fun k h1 h2 h3 => by rw [← hW3, Below.heap_setCell _ _ _ _ h3]; exact hb3 k h1 h2); have BB3 := hid (show Below w.heap.size w W3 ∧ W3.heap[w.heap.size + 1]? = W.heap[w.heap.size + 1]? from ⟨by rw [← hW3]; exact bb3.setCell (by show _ ≤ tb; omega) _, by rw [hk3 _ (by omega) (fun e => by have := (T2.out.po.lt _ e.symm).1; omega) (by omega)]; exact BB2.out.2⟩); have e1c : W3.cell? ⟨N1, 0, none⟩ = some (.int .i64 uf) := (by rw [World.cell?_of_block (w := W2) (hk3 N1 hN2z (fun e => by have := LO.out.2 _ e.symm; omega) (by omega))]; exact e1b); have e2c : W3.cell? ⟨N1, 1, none⟩ = some (.int .i64 x) := (by rw [World.cell?_of_block (w := W2) (hk3 N1 hN2z (fun e => by have := LO.out.2 _ e.symm; omega) (by omega))]; exact e2b); have d2c := T3.out.c2; have dpc := T3.out.pl.cell x hxn; have dpz := T3.out.pl.fz x; have hN3z : N1 < W3.heap.size := World.block_lt_of_cell? _ _ e1c; obtain ⟨W4, hW4⟩ : ∃ W4, W3.setCell ⟨PB, x, none⟩ (.int .i64 m) = W4 := ⟨_, rfl⟩; have T4 := hid (T3.out.place hxn HXL.out); rw [HM.out, hW4] at T4; obtain ⟨f0, f1, f2, f3, f4⟩ := T4.out.fa; have e2d : W4.cell? ⟨N1, 1, none⟩ = some (.int .i64 x) := (by rw [← hW4]; exact cell_other (fun e => by have := congrArg Addr.block e; simp at this; omega) e2c); have BB4 := hid (show Below w.heap.size w W4 ∧ W4.heap[w.heap.size + 1]? = W.heap[w.heap.size + 1]? from ⟨by rw [← hW4]; exact BB3.out.1.setCell (by show _ ≤ PB; omega) _, by rw [← hW4, Below.heap_setCell _ _ _ _ (by show w.heap.size + 1 ≠ PB; omega)]; exact BB3.out.2⟩); clear o3 g3 a3 hn3 hb3 kp3 bb3 hk3))
        clear f0 f1 f2 f3 f4 e1 e2 e1b e2b e1c e2c d0 d1 d2 dp d1b d2c dpc dpz q0 qz q1 qz1 hW1 hW2 hW3 hW4
        refine (next_flow F x _ (HF.out.on BB4.out.1) HL.out HJ.out).mono ?_
        rintro e w5 ⟨s5, rfl, hsn5, hsi5, hsm5, hb5⟩
        rw [suI_nat] at hsn5 hsi5
        have tp := T4.out.pop (by rw [HKK.out.2])
        rw [HKK.out.1] at tp
        have T5 := hid (tp.on hb5)
        have BB5 := hid (show Below w.heap.size w w5 ∧ w5.heap[w.heap.size + 1]? = W.heap[w.heap.size + 1]? from ⟨View.more BB4.out.1 hb5, by rw [hb5.block _ (by have := T4.out.sz; omega)]; exact BB4.out.2⟩)
        have S5 := hid (And.intro hsn5 (And.intro hsi5 hsm5))
        have hs20 : s5.n ≤ 20 := by rw [hsn5]; exact su_le HL.out x
        have z5 : tb + 1 ≤ W4.heap.size := T4.out.sz
        have ugl : ug < N1 := by rw [← hN1]; exact h4
        have N1l : N1 < W4.heap.size := by have := World.block_lt_of_cell? _ _ e2d; exact this
        have hzz := hb5.size
        clear hsn5 hsi5 hsm5 hb5 tp e2d
        go_wp2_with fail
        obtain ⟨A, hA⟩ : ∃ A, (L ++ [x]) = A := ⟨_, rfl⟩
        have HA := hid hA
        rw [hA] at T5
        clear hA
        go_loopw [4, 71] (fun vv iv wx => ∃ t : Nat, t ≤ s5.n ∧ iv = .int .i64 t ∧ TM F w.heap.size tb PB (tb + 1) wx (.slice va n2 vc) (.slice xa n3 xc) vv A (P ++ [uf]) A (U' ++ ((su F x).take t).map (fun v => ((m : Int), v))) ∧ Ints wx s5 (fun i => (((su F x).getD i 0 : Nat) : Int)) ∧ (∀ g, vv.ownBlock = some g → g < W4.heap.size ∨ w5.heap.size ≤ g) ∧ w5.heap.size ≤ wx.heap.size ∧ Below w.heap.size w wx ∧ wx.heap[w.heap.size + 1]? = W.heap[w.heap.size + 1]?) (fun _ iv _ => s5.n - (intOf iv).toNat)
        case atStart => exact ⟨0, Nat.zero_le _, rfl, by simpa using T5.out, S5.out.2.1, fun g e => by simp [Value.ownBlock] at e; omega, Nat.le_refl _, BB5.out.1, BB5.out.2⟩
        case round =>
          obtain ⟨t, ht0, rfl, ht, hsi, hfar, hws, hbx, hrx⟩ := hrel
          have ST := hid (And.intro ht (And.intro hsi (And.intro hfar (And.intro hbx hrx))))
          by_cases lt : t < s5.n
          · have htl : t < (su F x).length := by rw [← S5.out.1]; exact lt
            obtain ⟨ib, io, hix, hci⟩ := hsi.at lt
            obtain ⟨y, hy⟩ : ∃ y, (su F x).getD t 0 = y := ⟨_, rfl⟩
            rw [hy] at hci
            have HY := hid hy
            have lenU : (U' ++ ((su F x).take t).map (fun v => ((m : Int), v))).length = k + t := by simp [HKK.out.1]; omega
            have LU := hid lenU
            have ht1 := ST.out.1.sz
            clear ht hsi hfar hbx hrx hy lenU
            go_wp2_with (at_builtin; refine append_step rfl (.tmp 75) (.tmp 79) rfl (tb + 1) u4 (k + t) (flatU (U' ++ ((su F x).take t).map (fun v => ((m : Int), v)))) rfl m y (by have := ST.out.1.uo; rw [LU.out] at this; exact this) rfl (by omega) (by omega) ?_; intro v6 w6 o6 g6 a6; have O6 := hid (And.intro o6 (And.intro g6 a6)); clear o6 g6 a6)
            go_round
            case rel =>
              obtain ⟨o6, g6, a6⟩ := O6.out
              obtain ⟨s1, s2, s3, s4, s6⟩ := ST.out
              have z6 := g6.size
              simp only [World.size_alloc] at z6
              have hk6 : ∀ q, q < wr.heap.size → some q ≠ u4.ownBlock → w6.heap[q]? = wr.heap[q]? := fun q hq hne => by rw [g6.block q (by simp; omega) hne, Below.heap_alloc _ _ _ hq]
              have tk : (su F x).take (t + 1) = (su F x).take t ++ [y] := by
                rw [List.take_add_one, List.getElem?_eq_getElem htl]
                simp [← HY.out, List.getD, htl]
              have eU : U' ++ ((su F x).take (t + 1)).map (fun v => ((m : Int), v)) = (U' ++ ((su F x).take t).map (fun v => ((m : Int), v))) ++ [((m : Int), y)] := by rw [tk]; simp
              refine ⟨t + 1, by omega, by go_num, by rw [eU]; exact s1.push (u := ((m : Int), y)) (by rw [LU.out]; exact o6) g6, s2.kept (p := fun q => q < wr.heap.size ∧ some q ≠ u4.ownBlock) ⟨by omega, fun q hq => hk6 q hq.1 hq.2⟩ (fun b off ha h0 => ?_), fun g e => ?_, by omega, ?_, ?_⟩
              · obtain ⟨g5, b1, b2, b3, _⟩ := S5.out.2.2 h0
                rw [b1] at ha
                have eb : g5 = b := by simpa using congrArg (fun x => x.map Addr.block) ha
                subst eb
                exact ⟨by omega, fun e => by rcases s3 g5 e.symm with h | h <;> omega⟩
              · rcases a6 with h | h
                · exact s3 g (by rw [← h]; exact e)
                · rw [h] at e; have := Option.some.inj e; exact .inr (by omega)
              · exact (new s4 _).grown g6 (by simp; have := s4.size; omega) (fun q hq => by have := (s1.uo.lt q hq).1; omega)
              · rw [hk6 _ (by omega) (fun e => by have := (s1.uo.lt _ e.symm).1; omega)]; exact s6
            case measure => simp [intOf]; omega
          · obtain rfl : t = s5.n := by omega
            clear ht hsi hfar hbx hrx
            go_wp2_with fail
            have tk : (su F x).take s5.n = su F x := by rw [S5.out.1]; simp
            have FIN := hid (show TM F w.heap.size tb PB (tb + 1) wr (.slice va n2 vc) (.slice xa n3 xc) u4 A (P ++ [uf]) A (U' ++ (su F x).map (fun v => ((m : Int), v))) ∧ GroS F A (P ++ [uf]) (U' ++ (su F x).map (fun v => ((m : Int), v))) ∧ Below w.heap.size w wr ∧ wr.heap[w.heap.size + 1]? = W.heap[w.heap.size + 1]? from ⟨by have := ST.out.1; rw [tk] at this; exact this, by rw [← HA.out]; have := HG.out.meet HXL.out; rw [HM.out] at this; exact this, ST.out.2.2.2.1, ST.out.2.2.2.2⟩)
            have MEA := hid (show (F.blk.n - A.length) * 21 + (U' ++ (su F x).map (fun v => ((m : Int), v))).length + 1 ≤ (F.blk.n - L.length) * 21 + (U' ++ [(uf, x)]).length by
              rw [← HA.out, HKK.out.2]
              simp only [List.length_append, List.length_map, HKK.out.1, ← S5.out.1, List.length_cons, List.length_nil]
              have := HM.out
              omega)
            go_roundg ((F.blk.n - A.length) * 21 + (U' ++ (su F x).map (fun v => ((m : Int), v))).length)
            case measure => have := HK.out; have := MEA.out; omega
            case rel =>
              have f := FIN.out
              have h4' := HK4.out
              have h5' := MEA.out
              first
                | exact ⟨_, _, A, _, _, f.1, f.2.1, f.2.2.1, f.2.2.2, Nat.le_refl _, by omega⟩
                | ((repeat apply Exists.intro); exact ⟨⟨_, _, A, _, _, f.1, f.2.1, f.2.2.1, f.2.2.2, Nat.le_refl _, by omega⟩, rfl⟩)

end Go.Proofs.Ytbmfimojhcdnbaa.Dm

/-
  dom.findHeads: the head of each place.
-/
namespace Go.Proofs.Ytbmfimojhcdnbaa.Dm
open Go.RowKit View Rd Copy Num Ty Srt Go.Proofs.Ytbmfimojhcdnbaa.Flo Go.Proofs.Ytbmfimojhcdnbaa.Lt

set_option linter.unusedVariables false

theorem least_mono {m : Nat} {e : Nat → Nat → Prop} {par H : Nat → Nat} {w l : Nat} {P P' : Nat → Prop} (h : Least m e par H w P l) (hp : ∀ v, v < m → P' v → P v) : Least m e par H w P' l :=
  ⟨h.le, h.way, fun v hv he hm => h.low v (hp v hm hv) he hm, fun v hv he hm => h.least v (hp v hm hv) he hm⟩

theorem least_next {F : FV} {L : List Nat} {par Hh u5 l5 : Nat → Nat} {m k t hv v bb b p : Nat} {Q : List Nat} (hgr : Gro (su F) L par []) (hm : L.length = m) (hkm : k < m) (hhd : ∀ x, k < x → x < m → Head m (ePl (su F) L) x (Hh x)) (hls : Least m (ePl (su F) L) par Hh k (fun y => ∃ i, i < t ∧ Q.getD i 0 = L.getD y 0) hv) (hkn : Kn par Hh m k u5 l5) (hvl : v < m) (hvp : L.getD v 0 = p) (hbk : L.getD k 0 = b) (hpe : b ∈ su F p) (hpt : Q.getD t 0 = p)
    (hres : if v ≤ k then bb = v else bb = l5 v ∧ u5 v ≤ k) : Least m (ePl (su F) L) par Hh k (fun y => ∃ i, i < t + 1 ∧ Q.getD i 0 = L.getD y 0) (min hv bb) := by
  have D : Dfs m (ePl (su F) L) par := by rw [← hm]; exact hgr.dfs
  have he : ePl (su F) L v k := ⟨by omega, by omega, by rw [hbk, hvp]; exact hpe⟩
  have key : Least m (ePl (su F) L) par Hh k (fun x => (∃ i, i < t ∧ Q.getD i 0 = L.getD x 0) ∨ x = v) (min hv bb) := by
    by_cases hvk : v ≤ k
    · rw [if_pos hvk] at hres
      rw [hres]
      exact hls.near D hvk hkm he
    · rw [if_neg hvk] at hres
      rw [hres.1]
      exact hls.far D (by omega) hvl he hhd (hkn v (by omega) hvl) hres.2
  refine least_mono key (fun y hy h => ?_)
  obtain ⟨i, hi, e⟩ := h
  by_cases ei : i = t
  · subst ei
    rw [hpt, ← hvp] at e
    exact .inr (getD_inj hgr.nodup (by omega) (by omega) e).symm
  · exact .inl ⟨i, by omega, e⟩

theorem CM.apart {cb gu cu gl cl m B0 : Nat} {wr : World} {wv : Value} {W : List Nat} {u l : Nat → Nat} (h : CM cb gu cu gl cl m B0 wr wv W u l) {g i : Nat} (h1 : g ≠ cb) (h2 : g ≠ gu) (h3 : g ≠ gl) (h4 : g < B0) (v : Value) : CM cb gu cu gl cl m B0 (wr.setCell ⟨g, i, none⟩ v) wv W u l := by
  have b2 : ∀ k, k ≠ g → (wr.setCell ⟨g, i, none⟩ v).heap[k]? = wr.heap[k]? := fun k hk => Below.heap_setCell _ _ _ _ hk
  have cc : ∀ j {x : Value}, wr.cell? ⟨cb, j, none⟩ = some x → (wr.setCell ⟨g, i, none⟩ v).cell? ⟨cb, j, none⟩ = some x := fun j x hx => by rw [World.cell?_of_block (w := wr) (b2 cb (fun e => h1 e.symm))]; exact hx
  exact ⟨cc 0 h.c0, cc 1 h.c1, cc 2 h.c2, fun j => by rw [World.frozen?_setCell]; exact h.cz j, h.up.at_block (b2 _ (fun e => h2 e.symm)), h.le.at_block (b2 _ (fun e => h3 e.symm)), own_keep h.wo (fun k q1 _ => b2 k (by omega)), h.low, by simp; exact h.sz⟩

theorem ints_lt {w : World} {s : Sl} {f : Nat → Int} (h : Ints w s f) : ∀ b off, s.a = some ⟨b, off, none⟩ → 0 < s.n → b < w.heap.size := fun b off ha h0 => by
  obtain ⟨b', off', ha', hc⟩ := h.2.2.2 h0
  have e := ha.symm.trans ha'
  simp at e
  obtain ⟨rfl, rfl⟩ := e
  exact World.block_lt_of_cell? _ _ (hc 0 h0)

theorem zero3 (i : Nat) (hi : i < 3) : (#[.slice none 0 0, .slice none 0 0, .slice none 0 0] : Array Value)[i]? = some (.slice none 0 0) := by
  have h3 : i = 0 ∨ i = 1 ∨ i = 2 := by omega
  rcases h3 with rfl | rfl | rfl <;> rfl

theorem cm_start {X : World} {cb gu cu gl cl m : Nat} {par : Nat → Nat} (ru : Ro X gu m (fun p => if p = 0 then -1 else (par p : Int))) (rl : Ro X gl m (fun i => (i : Int))) (bc : ∀ i, i < 3 → X.cell? ⟨cb, i, none⟩ = some (.slice none 0 0)) (bz : ∀ i, X.frozen? ⟨cb, i, none⟩ = false) (n1 : cb ≠ gu) (n2 : cb ≠ gl) (n3 : gu ≠ gl) (hcb : cb < X.heap.size) :
    CM cb gu cu gl cl m (((X.setCell ⟨cb, 0, none⟩ (.slice (some ⟨gu, 0, none⟩) m cu)).setCell ⟨cb, 1, none⟩ (.slice (some ⟨gl, 0, none⟩) m cl)).setCell ⟨cb, 2, none⟩ (.slice none 0 0)).heap.size (((X.setCell ⟨cb, 0, none⟩ (.slice (some ⟨gu, 0, none⟩) m cu)).setCell ⟨cb, 1, none⟩ (.slice (some ⟨gl, 0, none⟩) m cl)).setCell ⟨cb, 2, none⟩ (.slice none 0 0)) (.slice none 0 0) [] par (fun x => x) := by
  have b2 : ∀ k, k ≠ cb → (((X.setCell ⟨cb, 0, none⟩ (.slice (some ⟨gu, 0, none⟩) m cu)).setCell ⟨cb, 1, none⟩ (.slice (some ⟨gl, 0, none⟩) m cl)).setCell ⟨cb, 2, none⟩ (.slice none 0 0)).heap[k]? = X.heap[k]? := fun k hk => by
    rw [Below.heap_setCell _ _ _ _ hk, Below.heap_setCell _ _ _ _ hk, Below.heap_setCell _ _ _ _ hk]
  refine ⟨cell_other (ne_off (by omega)) (cell_other (ne_off (by omega)) (cell_same (bc 0 (by omega)))), cell_other (ne_off (by omega)) (cell_same (cell_other (ne_off (by omega)) (bc 1 (by omega)))), cell_same (cell_other (ne_off (by omega)) (cell_other (ne_off (by omega)) (bc 2 (by omega)))), fun i => by rw [World.frozen?_setCell, World.frozen?_setCell, World.frozen?_setCell]; exact bz i, ru.at_block (b2 _ (fun e => n1 e.symm)), rl.at_block (b2 _ (fun e => n2 e.symm)), World.ownsRow_nil _ _ _ _, ⟨by simp; exact hcb, by simp; exact ru.lt, by simp; exact rl.lt, n1, n2, n3⟩, Nat.le_refl _⟩

set_option maxRecDepth 10000 in
set_option maxHeartbeats 4000000 in
theorem findHeads_any (F : FV) (hl : Light F) (L : List Nat) (par : Nat → Nat) (hgr : Gro (su F) L par []) (g1 c1 g2 c2 g3 M : Nat) (R : Nat → Sl) (w : World) (r1 : Ro w g1 L.length (fun i => ((L.getD i 0 : Nat) : Int))) (r2 : Ro w g2 L.length (fun p => if p = 0 then -1 else (par p : Int))) (r3 : Ro w g3 F.blk.n (plc L)) (hc2 : L.length ≤ c2) (hpv : Pv w M F.blk.n R (pvL F F.blk.n)) (hm16 : L.length ≤ 48) (hlt : ∀ x ∈ L, x < F.blk.n) :
    Calls Try.prog 141 #[.agg #[.slice (some ⟨g1, 0, none⟩) L.length c1, .slice (some ⟨g2, 0, none⟩) L.length c2, .slice (some ⟨g3, 0, none⟩) F.blk.n F.blk.n], .slice (some ⟨M, 0, none⟩) F.blk.n F.blk.n] w fun e' w' => ∃ H : Nat → Nat, (∀ x, 0 < x → x < L.length → Head L.length (ePl (su F) L) x (H x)) ∧ H 0 = 0 ∧ RowIs L.length (fun p => (H p : Int)) w e' w' := by
  have D := hgr.dfs
  have mp := hgr.pos
  have HL := hid hl
  have HGR := hid hgr
  have R1 := hid r1
  have R2 := hid r2
  have R3 := hid r3
  have PV := hid hpv
  obtain ⟨m, hm⟩ : ∃ m, L.length = m := ⟨_, rfl⟩
  rw [hm] at R1 R2 D mp hc2 hm16 ⊢
  have HM := hid hm
  clear hl hgr r1 r2 r3 hpv hm
  go_enter Try.func141, Try.ntmps141
  go_wp2_with fail
  refine (count_any m (by omega) _).mono ?_
  rintro e1 w1 ⟨gh, ch, rfl, rh, hgh, hb1⟩
  have hgh1 : w.heap.size < gh := by simp at hgh; omega
  have B1 := hid (View.more (new (same w) _) hb1)
  have RH := hid rh
  have T1 := hid (show ∀ i v, (#[.slice (some ⟨g1, 0, none⟩) m c1, .slice (some ⟨g2, 0, none⟩) m c2, .slice (some ⟨g3, 0, none⟩) F.blk.n F.blk.n] : Array Value)[i]? = some v → w1.cell? ⟨w.heap.size, i, none⟩ = some v from fun i v h => cell_on hb1 (new_cell w _ _ i v h))
  have t0 := T1.out 0 _ rfl
  have t1 := T1.out 1 _ rfl
  have t2 := T1.out 2 _ rfl
  have k0 : ∀ wx, Below w1.heap.size w1 wx → wx.cell? ⟨w.heap.size, 0, none⟩ = some (.slice (some ⟨g1, 0, none⟩) m c1) := fun wx h => cell_on h t0
  have k1 : ∀ wx, Below w1.heap.size w1 wx → wx.cell? ⟨w.heap.size, 1, none⟩ = some (.slice (some ⟨g2, 0, none⟩) m c2) := fun wx h => cell_on h t1
  have st0 : Below w1.heap.size w1 w1.drew := Below.drew (same _)
  clear rh hgh hb1 t0 t1 t2
  go_wp2_with fail
  go_cut [6] from 15 to 22 (fun c wx => ∃ cb gu cu gl cl, c = .pointer (some ⟨cb, 0, none⟩) ∧ CM cb gu cu gl cl m wx.heap.size wx (.slice none 0 0) [] par (fun x => x) ∧ Below w1.heap.size w1 wx ∧ w1.heap.size ≤ cb ∧ w1.heap.size ≤ gu ∧ w1.heap.size ≤ gl)
  case first =>
    --REGION2
    refine wp_region_noPanic ?_
    refine wp_region_held_drew (S := fun wy => Below w1.heap.size w1 wy) (by kernel_rfl) st0 (fun hS => ?_)
    refine Go.Proofs.Ytbmfimojhcdnbaa.Flo.takeAt (i := 0) (d := some 15) (v := ?vc0) rfl (by rfl) (by kernel_rfl) (by kernel_rfl) (by kernel_rfl) (fun _ _ _ h => h) (Or.inl ⟨by rfl, ?yc0⟩) hS ?_
    case yc0 => intro wx hSw; (go_simp) <;> with_reducible rfl
    simp only [Act.put, List.setIfInBounds_toArray, List.set_cons_zero, List.set_cons_succ]
    refine Go.Proofs.Ytbmfimojhcdnbaa.Flo.takeAt (i := 1) (d := some 16) (v := ?vc1) rfl (by rfl) (by kernel_rfl) (by kernel_rfl) (by kernel_rfl) (fun _ _ _ h => h) (Or.inl ⟨by rfl, ?yc1⟩) hS ?_
    case yc1 => intro wx hSw; (go_simp) <;> with_reducible rfl
    simp only [Act.put, List.setIfInBounds_toArray, List.set_cons_zero, List.set_cons_succ]
    refine Go.Proofs.Ytbmfimojhcdnbaa.Flo.takeAt (i := 3) (d := some 18) (v := ?vc3) rfl (by rfl) (by kernel_rfl) (by kernel_rfl) (by kernel_rfl) (fun _ _ _ h => h) (Or.inl ⟨by rfl, ?yc3⟩) hS ?_
    case yc3 => intro wx hSw; (go_simp) <;> with_reducible rfl
    simp only [Act.put, List.setIfInBounds_toArray, List.set_cons_zero, List.set_cons_succ]
    refine Go.Proofs.Ytbmfimojhcdnbaa.Flo.takeAt (i := 4) (d := some 19) (v := ?vc4) rfl (by rfl) (by kernel_rfl) (by kernel_rfl) (by kernel_rfl) (fun _ _ _ h => h) (Or.inl ⟨by rfl, ?yc4⟩) hS ?_
    case yc4 => intro wx hSw; (go_simp) <;> with_reducible rfl
    simp only [Act.put, List.setIfInBounds_toArray, List.set_cons_zero, List.set_cons_succ]
    refine Go.Proofs.Ytbmfimojhcdnbaa.Flo.takeAt (i := 5) (d := some 20) (v := ?vc5) rfl (by rfl) (by kernel_rfl) (by kernel_rfl) (by kernel_rfl) (fun _ _ _ h => h) (Or.inl ⟨by rfl, ?yc5⟩) hS ?_
    case yc5 => intro wx hSw; (go_simp) <;> with_reducible rfl
    simp only [Act.put, List.setIfInBounds_toArray, List.set_cons_zero, List.set_cons_succ]
    obtain ⟨x0, hx0⟩ : ∃ x0, w1.drew = x0 := ⟨_, rfl⟩
    have q0 : Below w1.heap.size w1 x0 := by rw [← hx0]; exact st0
    have hq0 : w1.heap.size ≤ x0.heap.size := q0.size
    rw [hx0] at hS ⊢
    clear hx0 st0
    refine wpAnyH_ready (rs := [2, 8]) (by kernel_rfl) (by simp) ?_
    refine AllReadyH.cons rfl (fun K hK => ?_) (AllReadyH.cons rfl (fun K hK => ?_) AllReadyH.nil)
    · go_simp
      refine (clone_any g2 m c2 _ _ (R2.out.on (View.more B1.out q0)) mp (by omega) hc2).mono ?_
      rintro e2 x1 ⟨gu, cu, rfl, ru, hgu, hb1⟩
      have q1 : Below w1.heap.size w1 x1 := View.more q0 hb1
      have RU := hid ru
      have rul := ru.lt
      clear ru
      have hq1 := hb1.size
      refine hK.out _ _ q1 (fun _ => ?_)
      clear hK K
      replace hS := q1
      try simp only [Act.put, List.setIfInBounds_toArray, List.set_cons_zero, List.set_cons_succ]
      refine wpAnyH_ready (rs := [6, 8]) (by kernel_rfl) (by simp) ?_
      refine AllReadyH.cons rfl (fun K hK => ?_) (AllReadyH.cons rfl (fun K hK => ?_) AllReadyH.nil)
      · go_simp
        refine (count_any m (by omega) _).mono ?_
        rintro e3 x2 ⟨gl, cl, rfl, rl, hgl, hb2⟩
        have q2 : Below w1.heap.size w1 x2 := View.more q1 hb2
        have RL := hid rl
        have rll := rl.lt
        clear rl
        have hq2 := hb2.size
        refine hK.out _ _ q2 (fun _ => ?_)
        clear hK K
        replace hS := q2
        try simp only [Act.put, List.setIfInBounds_toArray, List.set_cons_zero, List.set_cons_succ]
        refine Go.Proofs.Ytbmfimojhcdnbaa.Flo.takeAt (i := 7) (d := some 22) (v := ?vc1x7) rfl (by rfl) (by kernel_rfl) (by kernel_rfl) (by kernel_rfl) (fun _ _ _ h => h) (Or.inl ⟨by rfl, ?yc1x7⟩) hS ?_
        case yc1x7 => intro wx hSw; (go_simp) <;> with_reducible rfl
        simp only [Act.put, List.setIfInBounds_toArray, List.set_cons_zero, List.set_cons_succ]
        refine wpAnyH_ready (rs := [8]) (by kernel_rfl) (by simp) ?_
        refine AllReadyH.cons rfl (fun K hK => ?_) AllReadyH.nil
        go_simp
        have hb3 : Below x2.heap.size x2 (x2.alloc (.cells #[.slice none 0 0, .slice none 0 0, .slice none 0 0] 172)) := new (same _) _
        have BX := hid (show (∀ i, i < 3 → (x2.alloc (.cells #[.slice none 0 0, .slice none 0 0, .slice none 0 0] 172)).cell? ⟨x2.heap.size, i, none⟩ = some (.slice none 0 0)) ∧ ∀ i, (x2.alloc (.cells #[.slice none 0 0, .slice none 0 0, .slice none 0 0] 172)).frozen? ⟨x2.heap.size, i, none⟩ = false from ⟨fun i hi => new_cell x2 _ _ i _ (zero3 i hi), fun i => new_froz x2 _ _ i⟩)
        obtain ⟨x3, hx3⟩ : ∃ x, x2.alloc (.cells #[.slice none 0 0, .slice none 0 0, .slice none 0 0] 172) = x := ⟨_, rfl⟩
        have cbz : x3.heap.size = x2.heap.size + 1 := by rw [← hx3]; simp
        obtain ⟨cb, hcb⟩ : ∃ cb, x2.heap.size = cb := ⟨_, rfl⟩
        rw [hx3] at hb3 BX ⊢
        rw [hcb] at BX cbz ⊢
        have q3 : Below w1.heap.size w1 x3 := View.more q2 (by rw [hcb] at hb3; rw [hcb]; exact hb3)
        clear hx3
        have hq3 := hb3.size
        refine hK.out _ _ q3 (fun _ => ?_)
        clear hK K
        replace hS := q3
        try simp only [Act.put, List.setIfInBounds_toArray, List.set_cons_zero, List.set_cons_succ]
        have fru := ((RU.out.on hb2).on hb3)
        have frl := (RL.out.on hb3)
        have fbc : ∀ i, i < 3 → x3.cell? ⟨cb, i, none⟩ = some (.slice none 0 0) := fun i hi => BX.out.1 i hi
        have fbz : ∀ i, x3.frozen? ⟨cb, i, none⟩ = false := fun i => by exact BX.out.2 i
        have f0 := fbc 0 (by omega)
        have f1 := fbc 1 (by omega)
        have f2 := fbc 2 (by omega)
        have s9 : Below w1.heap.size w1 (((x3.setCell ⟨cb, 0, none⟩ (.slice (some ⟨gu, 0, none⟩) m cu)).setCell ⟨cb, 1, none⟩ (.slice (some ⟨gl, 0, none⟩) m cl)).setCell ⟨cb, 2, none⟩ (.slice none 0 0)) := ((q3.setCell (by show _ ≤ cb; omega) _).setCell (by show _ ≤ cb; omega) _).setCell (by show _ ≤ cb; omega) _
        have FIN := hid (cm_start (cu := cu) (cl := cl) fru frl fbc fbz (by omega) (by omega) (by omega) (by omega))
        refine wpAnyH_ready (rs := [9]) (by kernel_rfl) (by simp) ?_
        refine AllReadyH.cons rfl (fun K hK => ?_) AllReadyH.nil
        go_simp
        refine hK.out _ _ s9 (fun _ => ?_)
        clear hK K
        replace hS := s9
        try simp only [Act.put, List.setIfInBounds_toArray, List.set_cons_zero, List.set_cons_succ]
        refine wpAnyH_done (by kernel_rfl) ?_ _
        refine NoPanic.normal ?_
        go_wp2_with fail
        go_meet
        case rel => exact ⟨cb, gu, cu, gl, cl, rfl, FIN.out, s9, by omega, by omega, by omega⟩
      · go_simp
        have hb2 : Below x1.heap.size x1 (x1.alloc (.cells #[.slice none 0 0, .slice none 0 0, .slice none 0 0] 172)) := new (same _) _
        have BX := hid (show (∀ i, i < 3 → (x1.alloc (.cells #[.slice none 0 0, .slice none 0 0, .slice none 0 0] 172)).cell? ⟨x1.heap.size, i, none⟩ = some (.slice none 0 0)) ∧ ∀ i, (x1.alloc (.cells #[.slice none 0 0, .slice none 0 0, .slice none 0 0] 172)).frozen? ⟨x1.heap.size, i, none⟩ = false from ⟨fun i hi => new_cell x1 _ _ i _ (zero3 i hi), fun i => new_froz x1 _ _ i⟩)
        obtain ⟨x2, hx2⟩ : ∃ x, x1.alloc (.cells #[.slice none 0 0, .slice none 0 0, .slice none 0 0] 172) = x := ⟨_, rfl⟩
        have cbz : x2.heap.size = x1.heap.size + 1 := by rw [← hx2]; simp
        obtain ⟨cb, hcb⟩ : ∃ cb, x1.heap.size = cb := ⟨_, rfl⟩
        rw [hx2] at hb2 BX ⊢
        rw [hcb] at BX cbz ⊢
        have q2 : Below w1.heap.size w1 x2 := View.more q1 (by rw [hcb] at hb2; rw [hcb]; exact hb2)
        clear hx2
        have hq2 := hb2.size
        refine hK.out _ _ q2 (fun _ => ?_)
        clear hK K
        replace hS := q2
        try simp only [Act.put, List.setIfInBounds_toArray, List.set_cons_zero, List.set_cons_succ]
        refine wpAnyH_ready (rs := [6]) (by kernel_rfl) (by simp) ?_
        refine AllReadyH.cons rfl (fun K hK => ?_) AllReadyH.nil
        go_simp
        refine (count_any m (by omega) _).mono ?_
        rintro e3 x3 ⟨gl, cl, rfl, rl, hgl, hb3⟩
        have q3 : Below w1.heap.size w1 x3 := View.more q2 hb3
        have RL := hid rl
        have rll := rl.lt
        clear rl
        have hq3 := hb3.size
        refine hK.out _ _ q3 (fun _ => ?_)
        clear hK K
        replace hS := q3
        try simp only [Act.put, List.setIfInBounds_toArray, List.set_cons_zero, List.set_cons_succ]
        refine Go.Proofs.Ytbmfimojhcdnbaa.Flo.takeAt (i := 7) (d := some 22) (v := ?vc2x7) rfl (by rfl) (by kernel_rfl) (by kernel_rfl) (by kernel_rfl) (fun _ _ _ h => h) (Or.inl ⟨by rfl, ?yc2x7⟩) hS ?_
        case yc2x7 => intro wx hSw; (go_simp) <;> with_reducible rfl
        simp only [Act.put, List.setIfInBounds_toArray, List.set_cons_zero, List.set_cons_succ]
        have fru := ((RU.out.on hb2).on hb3)
        have frl := RL.out
        have fbc : ∀ i, i < 3 → x3.cell? ⟨cb, i, none⟩ = some (.slice none 0 0) := fun i hi => (cell_on hb3 (BX.out.1 i hi))
        have fbz : ∀ i, x3.frozen? ⟨cb, i, none⟩ = false := fun i => by rw [hb3.frozen (show cb < _ by omega)]; exact BX.out.2 i
        have f0 := fbc 0 (by omega)
        have f1 := fbc 1 (by omega)
        have f2 := fbc 2 (by omega)
        have s9 : Below w1.heap.size w1 (((x3.setCell ⟨cb, 0, none⟩ (.slice (some ⟨gu, 0, none⟩) m cu)).setCell ⟨cb, 1, none⟩ (.slice (some ⟨gl, 0, none⟩) m cl)).setCell ⟨cb, 2, none⟩ (.slice none 0 0)) := ((q3.setCell (by show _ ≤ cb; omega) _).setCell (by show _ ≤ cb; omega) _).setCell (by show _ ≤ cb; omega) _
        have FIN := hid (cm_start (cu := cu) (cl := cl) fru frl fbc fbz (by omega) (by omega) (by omega) (by omega))
        refine wpAnyH_ready (rs := [9]) (by kernel_rfl) (by simp) ?_
        refine AllReadyH.cons rfl (fun K hK => ?_) AllReadyH.nil
        go_simp
        refine hK.out _ _ s9 (fun _ => ?_)
        clear hK K
        replace hS := s9
        try simp only [Act.put, List.setIfInBounds_toArray, List.set_cons_zero, List.set_cons_succ]
        refine wpAnyH_done (by kernel_rfl) ?_ _
        refine NoPanic.normal ?_
        go_wp2_with fail
        go_meet
        case rel => exact ⟨cb, gu, cu, gl, cl, rfl, FIN.out, s9, by omega, by omega, by omega⟩
    · go_simp
      have hb1 : Below x0.heap.size x0 (x0.alloc (.cells #[.slice none 0 0, .slice none 0 0, .slice none 0 0] 172)) := new (same _) _
      have BX := hid (show (∀ i, i < 3 → (x0.alloc (.cells #[.slice none 0 0, .slice none 0 0, .slice none 0 0] 172)).cell? ⟨x0.heap.size, i, none⟩ = some (.slice none 0 0)) ∧ ∀ i, (x0.alloc (.cells #[.slice none 0 0, .slice none 0 0, .slice none 0 0] 172)).frozen? ⟨x0.heap.size, i, none⟩ = false from ⟨fun i hi => new_cell x0 _ _ i _ (zero3 i hi), fun i => new_froz x0 _ _ i⟩)
      obtain ⟨x1, hx1⟩ : ∃ x, x0.alloc (.cells #[.slice none 0 0, .slice none 0 0, .slice none 0 0] 172) = x := ⟨_, rfl⟩
      have cbz : x1.heap.size = x0.heap.size + 1 := by rw [← hx1]; simp
      obtain ⟨cb, hcb⟩ : ∃ cb, x0.heap.size = cb := ⟨_, rfl⟩
      rw [hx1] at hb1 BX ⊢
      rw [hcb] at BX cbz ⊢
      have q1 : Below w1.heap.size w1 x1 := View.more q0 (by rw [hcb] at hb1; rw [hcb]; exact hb1)
      clear hx1
      have hq1 := hb1.size
      refine hK.out _ _ q1 (fun _ => ?_)
      clear hK K
      replace hS := q1
      try simp only [Act.put, List.setIfInBounds_toArray, List.set_cons_zero, List.set_cons_succ]
      refine wpAnyH_ready (rs := [2]) (by kernel_rfl) (by simp) ?_
      refine AllReadyH.cons rfl (fun K hK => ?_) AllReadyH.nil
      go_simp
      refine (clone_any g2 m c2 _ _ (R2.out.on (View.more B1.out q1)) mp (by omega) hc2).mono ?_
      rintro e2 x2 ⟨gu, cu, rfl, ru, hgu, hb2⟩
      have q2 : Below w1.heap.size w1 x2 := View.more q1 hb2
      have RU := hid ru
      have rul := ru.lt
      clear ru
      have hq2 := hb2.size
      refine hK.out _ _ q2 (fun _ => ?_)
      clear hK K
      replace hS := q2
      try simp only [Act.put, List.setIfInBounds_toArray, List.set_cons_zero, List.set_cons_succ]
      refine wpAnyH_ready (rs := [6]) (by kernel_rfl) (by simp) ?_
      refine AllReadyH.cons rfl (fun K hK => ?_) AllReadyH.nil
      go_simp
      refine (count_any m (by omega) _).mono ?_
      rintro e3 x3 ⟨gl, cl, rfl, rl, hgl, hb3⟩
      have q3 : Below w1.heap.size w1 x3 := View.more q2 hb3
      have RL := hid rl
      have rll := rl.lt
      clear rl
      have hq3 := hb3.size
      refine hK.out _ _ q3 (fun _ => ?_)
      clear hK K
      replace hS := q3
      try simp only [Act.put, List.setIfInBounds_toArray, List.set_cons_zero, List.set_cons_succ]
      refine Go.Proofs.Ytbmfimojhcdnbaa.Flo.takeAt (i := 7) (d := some 22) (v := ?vc3x7) rfl (by rfl) (by kernel_rfl) (by kernel_rfl) (by kernel_rfl) (fun _ _ _ h => h) (Or.inl ⟨by rfl, ?yc3x7⟩) hS ?_
      case yc3x7 => intro wx hSw; (go_simp) <;> with_reducible rfl
      simp only [Act.put, List.setIfInBounds_toArray, List.set_cons_zero, List.set_cons_succ]
      have fru := (RU.out.on hb3)
      have frl := RL.out
      have fbc : ∀ i, i < 3 → x3.cell? ⟨cb, i, none⟩ = some (.slice none 0 0) := fun i hi => (cell_on hb3 ((cell_on hb2 (BX.out.1 i hi))))
      have fbz : ∀ i, x3.frozen? ⟨cb, i, none⟩ = false := fun i => by rw [hb3.frozen (show cb < _ by omega), hb2.frozen (show cb < _ by omega)]; exact BX.out.2 i
      have f0 := fbc 0 (by omega)
      have f1 := fbc 1 (by omega)
      have f2 := fbc 2 (by omega)
      have s9 : Below w1.heap.size w1 (((x3.setCell ⟨cb, 0, none⟩ (.slice (some ⟨gu, 0, none⟩) m cu)).setCell ⟨cb, 1, none⟩ (.slice (some ⟨gl, 0, none⟩) m cl)).setCell ⟨cb, 2, none⟩ (.slice none 0 0)) := ((q3.setCell (by show _ ≤ cb; omega) _).setCell (by show _ ≤ cb; omega) _).setCell (by show _ ≤ cb; omega) _
      have FIN := hid (cm_start (cu := cu) (cl := cl) fru frl fbc fbz (by omega) (by omega) (by omega) (by omega))
      refine wpAnyH_ready (rs := [9]) (by kernel_rfl) (by simp) ?_
      refine AllReadyH.cons rfl (fun K hK => ?_) AllReadyH.nil
      go_simp
      refine hK.out _ _ s9 (fun _ => ?_)
      clear hK K
      replace hS := s9
      try simp only [Act.put, List.setIfInBounds_toArray, List.set_cons_zero, List.set_cons_succ]
      refine wpAnyH_done (by kernel_rfl) ?_ _
      refine NoPanic.normal ?_
      go_wp2_with fail
      go_meet
      case rel => exact ⟨cb, gu, cu, gl, cl, rfl, FIN.out, s9, by omega, by omega, by omega⟩
    --END2
  case rest =>
    obtain ⟨cb, gu, cu, gl, cl, rfl, hcm, hbl, hc1, hc2', hc3⟩ := hcut
    have CM0 := hid hcm
    have BLC := hid hbl
    have hz0 := hbl.size
    obtain ⟨WB, hWB⟩ : ∃ WB, WB = wc := ⟨_, rfl⟩
    subst hWB
    obtain ⟨B0, hB0⟩ : ∃ B0, WB.heap.size = B0 := ⟨_, rfl⟩
    rw [hB0] at CM0
    have TB := hid (show ∀ i v, (#[.slice (some ⟨g1, 0, none⟩) m c1, .slice (some ⟨g2, 0, none⟩) m c2, .slice (some ⟨g3, 0, none⟩) F.blk.n F.blk.n] : Array Value)[i]? = some v → WB.cell? ⟨w.heap.size, i, none⟩ = some v from fun i v h => cell_on hbl (T1.out i v h))
    have R1B := hid (R1.out.on (View.more B1.out hbl))
    have R3B := hid (R3.out.on (View.more B1.out hbl))
    have PVB := hid (PV.out.on (View.more B1.out hbl))
    have RHB := hid (RH.out.on hbl)
    have ghl := RH.out.lt
    have BWB := hid (View.more B1.out hbl)
    have t0 := TB.out 0 _ rfl
    have HB0 := hid hB0
    have wl : w.heap.size < w1.heap.size := by omega
    clear hcm hbl k0 k1 st0
    have e0 : (m : Int) - 1 = ((m - 1 : Nat) : Int) := by omega
    go_wp2_with fail
    have ghn : gh ≠ cb ∧ gh ≠ gu ∧ gh ≠ gl ∧ gh < B0 := ⟨by omega, by omega, by omega, by omega⟩
    clear t0
    go_loopw [7] (fun iv wr => ∃ (k : Nat) (Hh u l : Nat → Nat) (wv : Value) (W : List Nat), iv = .int .i64 k ∧ k < m ∧ Ro wr gh m (fun x => (Hh x : Int)) ∧ CM cb gu cu gl cl m B0 wr wv W u l ∧ (∀ x, k < x → x < m → Head m (ePl (su F) L) x (Hh x)) ∧ (∀ x, x ≤ k → Hh x = x ∧ l x = x ∧ u x = par x) ∧ Kn par Hh m k u l ∧ (∀ q, q < B0 → q ≠ cb → q ≠ gu → q ≠ gl → q ≠ gh → wr.heap[q]? = WB.heap[q]?) ∧ Below w.heap.size w wr) (fun iv _ => (intOf iv).toNat)
    case atStart => exact ⟨m - 1, fun x => x, par, fun x => x, _, _, by rw [← e0], by omega, RHB.out, CM0.out, fun x h1 h2 => by omega, fun x _ => ⟨rfl, rfl, rfl⟩, fun x h1 h2 => by omega, fun _ _ _ _ _ _ => rfl, BWB.out⟩
    case round =>
      obtain ⟨k, Hh, u, l, wv, W, rfl, hkm, hrh, hcm, hhd, hst, hkn, hfr, hb⟩ := hrel
      have HS := hid (And.intro hrh (And.intro hcm (And.intro hhd (And.intro hst (And.intro hkn (And.intro hfr hb))))))
      have rd : ∀ q, q < B0 → q ≠ cb → q ≠ gu → q ≠ gl → q ≠ gh → wr.heap[q]? = WB.heap[q]? := hfr
      by_cases hk0 : 0 < k
      · have t1 : decide ((0 : Int) < (k : Int)) = true := by simpa using hk0
        have hLk : L.getD k 0 ∈ L := getD_in (by rw [HM.out]; exact hkm)
        obtain ⟨b, hb'⟩ : ∃ b, L.getD k 0 = b := ⟨_, rfl⟩
        rw [hb'] at hLk
        have hbn := hlt b hLk
        have HBB := hid hb'
        have tw0 : wr.cell? ⟨w.heap.size, 0, none⟩ = some (.slice (some ⟨g1, 0, none⟩) m c1) := by rw [World.cell?_of_block (w := WB) (rd w.heap.size (by omega) (by omega) (by omega) (by omega) (by omega))]; exact TB.out 0 _ rfl
        have g1l := R1.out.lt
        have g3l := R3.out.lt
        have Ml := PV.out.row.lt
        have p1 : wr.cell? ⟨g1, k, none⟩ = some (.int .i64 b) := by
          rw [World.cell?_of_block (w := WB) (rd g1 (by omega) (by omega) (by omega) (by omega) (by omega))]
          have := R1B.out.cell k hkm
          rw [hb'] at this
          exact this
        have i1 := int_at (g := g1) (c := c1) hkm
        have i2 := row_at (M := M) hbn
        have p2 : wr.cell? ⟨M, b, none⟩ = some (Sl.val (R b)) := by
          rw [World.cell?_of_block (w := WB) (rd M (by omega) (by omega) (by omega) (by omega) (by omega))]
          exact PVB.out.row.cell hbn
        have RI := hid (show Ints w (R b) (fun i => (((pvL F F.blk.n b).getD i 0 : Nat) : Int)) ∧ (R b).n = (pvL F F.blk.n b).length by
          obtain ⟨s, hs, hn, hI, hmi⟩ := ints_of_owns (PV.out.own b hbn) (by simp; have := pvL_le F F.blk.n b; have := HL.out.blk; omega)
          have e : R b = s := by
            have h1 : (R b).a = s.a ∧ (R b).n = s.n ∧ (R b).c = s.c := by simpa [Sl.val] using hs
            cases hR : R b; cases s; rw [hR] at h1; simp at h1; simp [h1]
          rw [e]
          exact ⟨hI.congr (fun i hi => getD_ints _ _ (by rw [hn] at hi; simpa using hi)), by simpa using hn⟩)
        have rn20 : (R b).n ≤ 48 := by rw [RI.out.2]; have := pvL_le F F.blk.n b; have := HL.out.blk; omega
        have LST := hid (show Least m (ePl (su F) L) par Hh k (fun y => ∃ i, i < 0 ∧ (pvL F F.blk.n b).getD i 0 = L.getD y 0) k from least_mono (Least.start Hh k) (fun v _ h => by obtain ⟨i, hi, _⟩ := h; omega))
        clear hrh hcm hhd hst hkn hfr hb rd hb'
        go_wp2_with fail
        clear tw0 p1 p2
        go_loopw [40] (fun iv wx => ∃ (t hv : Nat) (u l : Nat → Nat) (wv : Value) (W : List Nat), iv = .int .i64 t ∧ t ≤ (R b).n ∧ Ro wx gh m (fun x => if x = k then (hv : Int) else (Hh x : Int)) ∧ CM cb gu cu gl cl m B0 wx wv W u l ∧ (∀ x, x ≤ k → l x = x ∧ u x = par x) ∧ Kn par Hh m k u l ∧ Least m (ePl (su F) L) par Hh k (fun y => ∃ i, i < t ∧ (pvL F F.blk.n b).getD i 0 = L.getD y 0) hv ∧ (∀ q, q < B0 → q ≠ cb → q ≠ gu → q ≠ gl → q ≠ gh → wx.heap[q]? = WB.heap[q]?) ∧ Below w.heap.size w wx) (fun iv _ => (R b).n - (intOf iv).toNat)
        case atStart =>
          refine ⟨0, k, u, l, wv, W, rfl, Nat.zero_le _, HS.out.1.congr (fun i hi => ?_), HS.out.2.1, fun x hx => (HS.out.2.2.2.1 x hx).2, HS.out.2.2.2.2.1, LST.out, HS.out.2.2.2.2.2.1, HS.out.2.2.2.2.2.2⟩
          by_cases e : i = k
          · subst e; rw [if_pos rfl, (HS.out.2.2.2.1 i (Nat.le_refl _)).1]
          · rw [if_neg e]
        case round =>
          clear LST
          obtain ⟨t, hv, u, l, wv, W, rfl, htn, hrh, hcm, hst, hkn, hls, hfr, hb⟩ := hrel
          have IS := hid (And.intro hrh (And.intro hcm (And.intro hst (And.intro hkn (And.intro hls (And.intro hfr hb))))))
          by_cases ltn : t < (R b).n
          · obtain ⟨ib, io, hix, hci⟩ := (RI.out.1.on hb).at ltn
            obtain ⟨p, hp⟩ : ∃ p, (pvL F F.blk.n b).getD t 0 = p := ⟨_, rfl⟩
            rw [hp] at hci
            have htl : t < (pvL F F.blk.n b).length := by rw [← RI.out.2]; exact ltn
            have hpm : p ∈ pvL F F.blk.n b := by rw [← hp]; exact Flo.getD_mem htl
            have hpn : p < F.blk.n := pvL_lt p hpm
            have hpe : b ∈ su F p := (mem_pvL.1 hpm).2
            have HP := hid (And.intro hp hpe)
            have tw2 : wr.cell? ⟨w.heap.size, 2, none⟩ = some (.slice (some ⟨g3, 0, none⟩) F.blk.n F.blk.n) := by rw [World.cell?_of_block (w := WB) (hfr w.heap.size (by omega) (by omega) (by omega) (by omega) (by omega))]; exact TB.out 2 _ rfl
            have p3 : wr.cell? ⟨g3, p, none⟩ = some (.int .i64 (plc L p)) := by rw [World.cell?_of_block (w := WB) (hfr g3 (by omega) (by omega) (by omega) (by omega) (by omega))]; exact R3B.out.cell p hpn
            have i3 := int_at (g := g3) (c := F.blk.n) hpn
            clear hrh hcm hst hkn hls hfr hb hp hpm
            by_cases hpL : p ∈ L
            · have e3 : plc L p = (L.idxOf p : Int) := by unfold plc; rw [if_pos hpL]
              rw [e3] at p3
              have hvl : L.idxOf p < m := by rw [← HM.out]; exact List.idxOf_lt_length_of_mem hpL
              have hvg : L.getD (L.idxOf p) 0 = p := by
                have : L.idxOf p < L.length := List.idxOf_lt_length_of_mem hpL
                simp [List.getD, this]
              obtain ⟨v, hv'⟩ : ∃ v, L.idxOf p = v := ⟨_, rfl⟩
              rw [hv'] at p3 hvl hvg
              have HV := hid hvg
              clear hv' e3 hvg
              have st0 : Below w.heap.size w wr.drew := Below.drew IS.out.2.2.2.2.2.2
              have c5 : wr.drew.cell? ⟨gh, k, none⟩ = some (.int .i64 hv) := by
                have := IS.out.1.cell k hkm
                rw [if_pos rfl] at this
                exact this
              have LO := hid (leastOf_any D v k wr.drew (IS.out.2.1.on (Below.drew (same _))) IS.out.2.2.2.1 hvl hm16 hkm)
              have i5 := int_at (g := gh) (c := ch) hkm
              go_wp2_with fail
              clear tw2 p3 i3 hci hix
              --REGION11
              refine wp_region_noPanic ?_
              refine wp_region_held_drew (S := fun wy => Below w.heap.size w wy) (by kernel_rfl) st0 (fun hS => ?_)
              refine Go.Proofs.Ytbmfimojhcdnbaa.Flo.takeAt (i := 0) (d := some 51) (v := ?vd4x0) rfl (by rfl) (by kernel_rfl) (by kernel_rfl) (by kernel_rfl) (fun _ _ _ h => h) (Or.inl ⟨by rfl, ?yd4x0⟩) hS ?_
              case yd4x0 => intro wx hSw; (go_simp) <;> with_reducible rfl
              simp only [Act.put, List.setIfInBounds_toArray, List.set_cons_zero, List.set_cons_succ]
              refine Go.Proofs.Ytbmfimojhcdnbaa.Flo.takeAt (i := 1) (d := some 52) (v := ?vd5x1) rfl (by rfl) (by kernel_rfl) (by kernel_rfl) (by kernel_rfl) (fun _ _ _ h => h) (Or.inl ⟨by rfl, ?yd5x1⟩) hS ?_
              case yd5x1 => intro wx hSw; (go_simp) <;> with_reducible rfl
              simp only [Act.put, List.setIfInBounds_toArray, List.set_cons_zero, List.set_cons_succ]
              refine Go.Proofs.Ytbmfimojhcdnbaa.Flo.takeAt (i := 2) (d := some 53) (v := ?vd6x2) rfl (by rfl) (by kernel_rfl) (by kernel_rfl) (by kernel_rfl) (fun _ _ _ h => h) (Or.inl ⟨by rfl, ?yd6x2⟩) hS ?_
              case yd6x2 => intro wx hSw; (go_simp) <;> with_reducible rfl
              simp only [Act.put, List.setIfInBounds_toArray, List.set_cons_zero, List.set_cons_succ]
              refine Go.Proofs.Ytbmfimojhcdnbaa.Flo.takeAt (i := 3) (d := some 54) (v := ?vd7x3) rfl (by rfl) (by kernel_rfl) (by kernel_rfl) (by kernel_rfl) (fun _ _ _ h => h) (Or.inl ⟨by rfl, ?yd7x3⟩) hS ?_
              case yd7x3 => intro wx hSw; (go_simp) <;> with_reducible rfl
              simp only [Act.put, List.setIfInBounds_toArray, List.set_cons_zero, List.set_cons_succ]
              refine Go.Proofs.Ytbmfimojhcdnbaa.Flo.takeAt (i := 4) (d := some 55) (v := ?vd8x4) rfl (by rfl) (by kernel_rfl) (by kernel_rfl) (by kernel_rfl) (fun _ _ _ h => h) (Or.inl ⟨by rfl, ?yd8x4⟩) hS ?_
              case yd8x4 => intro wx hSw; (go_simp) <;> with_reducible rfl
              simp only [Act.put, List.setIfInBounds_toArray, List.set_cons_zero, List.set_cons_succ]
              refine Go.Proofs.Ytbmfimojhcdnbaa.Flo.takeAt (i := 6) (d := some 57) (v := ?vd9x6) rfl (by rfl) (by kernel_rfl) (by kernel_rfl) (by kernel_rfl) (fun _ _ _ h => h) (Or.inl ⟨by rfl, ?yd9x6⟩) hS ?_
              case yd9x6 => intro wx hSw; (go_simp) <;> with_reducible rfl
              simp only [Act.put, List.setIfInBounds_toArray, List.set_cons_zero, List.set_cons_succ]
              refine Go.Proofs.Ytbmfimojhcdnbaa.Flo.takeAt (i := 7) (d := some 58) (v := ?vd10x7) rfl (by rfl) (by kernel_rfl) (by kernel_rfl) (by kernel_rfl) (fun _ _ _ h => h) (Or.inl ⟨by rfl, ?yd10x7⟩) hS ?_
              case yd10x7 => intro wx hSw; (go_simp) <;> with_reducible rfl
              simp only [Act.put, List.setIfInBounds_toArray, List.set_cons_zero, List.set_cons_succ]
              obtain ⟨x0, hx0⟩ : ∃ x0, wr.drew = x0 := ⟨_, rfl⟩
              have D0 := hid (show Below wr.heap.size wr x0 by rw [← hx0]; exact Below.drew (same _))
              have DH := hid (show ∀ g : Nat, x0.heap[g]? = wr.heap[g]? from fun g => by rw [← hx0]; rfl)
              rw [hx0] at st0 c5 LO hS ⊢
              clear hx0
              refine wpAnyH_ready (rs := [5, 8]) (by kernel_rfl) (by simp) ?_
              refine AllReadyH.cons rfl (fun K hK => ?_) (AllReadyH.cons rfl (fun K hK => ?_) AllReadyH.nil)
              · go_simp
                refine hK.out _ _ st0 (fun _ => ?_)
                clear hK K
                replace hS := st0
                try simp only [Act.put, List.setIfInBounds_toArray, List.set_cons_zero, List.set_cons_succ]
                refine wpAnyH_ready (rs := [8]) (by kernel_rfl) (by simp) ?_
                refine AllReadyH.cons rfl (fun K hK => ?_) AllReadyH.nil
                go_simp
                refine LO.out.mono ?_
                rintro e5 x5 ⟨bb, wv5, W5, u5, l5, rfl, hcm5, hkn5, hst5, hres5, hz5, hfr5, hbl5⟩
                have c6 : x5.cell? ⟨gh, k, none⟩ = some (.int .i64 hv) := by rw [World.cell?_of_block (w := x0) (hfr5 gh ghn.2.2.2 ghn.1 ghn.2.1 ghn.2.2.1)]; exact c5
                have z6 : x5.frozen? ⟨gh, k, none⟩ = false := by rw [World.frozen?_of_block (w := x0) (hfr5 gh ghn.2.2.2 ghn.1 ghn.2.1 ghn.2.2.1), World.frozen?_of_block (w := wr) (DH.out gh)]; exact IS.out.1.fz k
                have q5 : Below w.heap.size w x5 := st0.trans (hbl5 w.heap.size (by omega) (by omega) (by omega) (by omega))
                have H5 := hid (And.intro hcm5 (And.intro hkn5 (And.intro hst5 (And.intro hres5 (And.intro hz5 hfr5)))))
                clear hcm5 hkn5 hst5 hres5 hz5 hfr5 hbl5
                refine hK.out _ _ q5 (fun _ => ?_)
                clear hK K
                replace hS := q5
                try simp only [Act.put, List.setIfInBounds_toArray, List.set_cons_zero, List.set_cons_succ]
                refine Go.Proofs.Ytbmfimojhcdnbaa.Flo.takeAt (i := 9) (d := some 60) (v := ?vd11x9) rfl (by rfl) (by kernel_rfl) (by kernel_rfl) (by kernel_rfl) (fun _ _ _ h => h) (Or.inl ⟨by rfl, ?yd11x9⟩) hS ?_
                case yd11x9 => intro wx hSw; (go_simp) <;> with_reducible rfl
                simp only [Act.put, List.setIfInBounds_toArray, List.set_cons_zero, List.set_cons_succ]
                refine Go.Proofs.Ytbmfimojhcdnbaa.Flo.takeAt (i := 10) (d := some 61) (v := ?vd12x10) rfl (by rfl) (by kernel_rfl) (by kernel_rfl) (by kernel_rfl) (fun _ _ _ h => h) (Or.inl ⟨by rfl, ?yd12x10⟩) hS ?_
                case yd12x10 => intro wx hSw; (go_simp) <;> with_reducible rfl
                simp only [Act.put, List.setIfInBounds_toArray, List.set_cons_zero, List.set_cons_succ]
                have hmin : (if bb < hv then (bb : Int) else (hv : Int)) = ((min hv bb : Nat) : Int) := by split <;> omega
                have s7 : Below w.heap.size w (x5.setCell ⟨gh, k, none⟩ (.int .i64 ((min hv bb : Nat) : Int))) := q5.setCell (by show _ ≤ gh; omega) _
                refine wpAnyH_ready (rs := [11]) (by kernel_rfl) (by simp) ?_
                refine AllReadyH.cons rfl (fun K hK => ?_) AllReadyH.nil
                go_simp
                refine hK.out _ _ s7 (fun _ => ?_)
                clear hK K
                replace hS := s7
                try simp only [Act.put, List.setIfInBounds_toArray, List.set_cons_zero, List.set_cons_succ]
                refine wpAnyH_done (by kernel_rfl) ?_ _
                refine NoPanic.normal ?_
                go_wp2_with fail
                go_round
                case rel =>
                  obtain ⟨a1, a2, a3, a4, a5, a6⟩ := H5.out
                  refine ⟨t + 1, min hv bb, u5, l5, wv5, W5, by go_num, by omega, ?_, a1.apart ghn.1 ghn.2.1 ghn.2.2.1 ghn.2.2.2 _, fun x hx => ?_, a2, least_next HGR.out HM.out hkm HS.out.2.2.1 IS.out.2.2.2.2.1 a2 hvl HV.out HBB.out HP.out.2 HP.out.1 a4, fun r h1 h2 h3 h4 h5 => ?_, s7⟩
                  · refine ((IS.out.1.at_block ((a6 gh ghn.2.2.2 ghn.1 ghn.2.1 ghn.2.2.1).trans (DH.out gh))).set hkm ((min hv bb : Nat) : Int)).congr (fun i hi => ?_)
                    by_cases e : i = k <;> simp [e]
                  · have := IS.out.2.2.1 x hx
                    rw [(a3 x hx).1, (a3 x hx).2]; exact this
                  · rw [Below.heap_setCell _ _ _ _ h5, a6 r h1 h2 h3 h4, DH.out r]; exact IS.out.2.2.2.2.2.1 r h1 h2 h3 h4 h5
                case measure => simp [intOf]; omega
              · go_simp
                refine LO.out.mono ?_
                rintro e5 x5 ⟨bb, wv5, W5, u5, l5, rfl, hcm5, hkn5, hst5, hres5, hz5, hfr5, hbl5⟩
                have c6 : x5.cell? ⟨gh, k, none⟩ = some (.int .i64 hv) := by rw [World.cell?_of_block (w := x0) (hfr5 gh ghn.2.2.2 ghn.1 ghn.2.1 ghn.2.2.1)]; exact c5
                have z6 : x5.frozen? ⟨gh, k, none⟩ = false := by rw [World.frozen?_of_block (w := x0) (hfr5 gh ghn.2.2.2 ghn.1 ghn.2.1 ghn.2.2.1), World.frozen?_of_block (w := wr) (DH.out gh)]; exact IS.out.1.fz k
                have q5 : Below w.heap.size w x5 := st0.trans (hbl5 w.heap.size (by omega) (by omega) (by omega) (by omega))
                have H5 := hid (And.intro hcm5 (And.intro hkn5 (And.intro hst5 (And.intro hres5 (And.intro hz5 hfr5)))))
                clear hcm5 hkn5 hst5 hres5 hz5 hfr5 hbl5
                refine hK.out _ _ q5 (fun _ => ?_)
                clear hK K
                replace hS := q5
                try simp only [Act.put, List.setIfInBounds_toArray, List.set_cons_zero, List.set_cons_succ]
                refine wpAnyH_ready (rs := [5]) (by kernel_rfl) (by simp) ?_
                refine AllReadyH.cons rfl (fun K hK => ?_) AllReadyH.nil
                go_simp
                refine hK.out _ _ q5 (fun _ => ?_)
                clear hK K
                replace hS := q5
                try simp only [Act.put, List.setIfInBounds_toArray, List.set_cons_zero, List.set_cons_succ]
                refine Go.Proofs.Ytbmfimojhcdnbaa.Flo.takeAt (i := 9) (d := some 60) (v := ?vd13x9) rfl (by rfl) (by kernel_rfl) (by kernel_rfl) (by kernel_rfl) (fun _ _ _ h => h) (Or.inl ⟨by rfl, ?yd13x9⟩) hS ?_
                case yd13x9 => intro wx hSw; (go_simp) <;> with_reducible rfl
                simp only [Act.put, List.setIfInBounds_toArray, List.set_cons_zero, List.set_cons_succ]
                refine Go.Proofs.Ytbmfimojhcdnbaa.Flo.takeAt (i := 10) (d := some 61) (v := ?vd14x10) rfl (by rfl) (by kernel_rfl) (by kernel_rfl) (by kernel_rfl) (fun _ _ _ h => h) (Or.inl ⟨by rfl, ?yd14x10⟩) hS ?_
                case yd14x10 => intro wx hSw; (go_simp) <;> with_reducible rfl
                simp only [Act.put, List.setIfInBounds_toArray, List.set_cons_zero, List.set_cons_succ]
                have hmin : (if bb < hv then (bb : Int) else (hv : Int)) = ((min hv bb : Nat) : Int) := by split <;> omega
                have s7 : Below w.heap.size w (x5.setCell ⟨gh, k, none⟩ (.int .i64 ((min hv bb : Nat) : Int))) := q5.setCell (by show _ ≤ gh; omega) _
                refine wpAnyH_ready (rs := [11]) (by kernel_rfl) (by simp) ?_
                refine AllReadyH.cons rfl (fun K hK => ?_) AllReadyH.nil
                go_simp
                refine hK.out _ _ s7 (fun _ => ?_)
                clear hK K
                replace hS := s7
                try simp only [Act.put, List.setIfInBounds_toArray, List.set_cons_zero, List.set_cons_succ]
                refine wpAnyH_done (by kernel_rfl) ?_ _
                refine NoPanic.normal ?_
                go_wp2_with fail
                go_round
                case rel =>
                  obtain ⟨a1, a2, a3, a4, a5, a6⟩ := H5.out
                  refine ⟨t + 1, min hv bb, u5, l5, wv5, W5, by go_num, by omega, ?_, a1.apart ghn.1 ghn.2.1 ghn.2.2.1 ghn.2.2.2 _, fun x hx => ?_, a2, least_next HGR.out HM.out hkm HS.out.2.2.1 IS.out.2.2.2.2.1 a2 hvl HV.out HBB.out HP.out.2 HP.out.1 a4, fun r h1 h2 h3 h4 h5 => ?_, s7⟩
                  · refine ((IS.out.1.at_block ((a6 gh ghn.2.2.2 ghn.1 ghn.2.1 ghn.2.2.1).trans (DH.out gh))).set hkm ((min hv bb : Nat) : Int)).congr (fun i hi => ?_)
                    by_cases e : i = k <;> simp [e]
                  · have := IS.out.2.2.1 x hx
                    rw [(a3 x hx).1, (a3 x hx).2]; exact this
                  · rw [Below.heap_setCell _ _ _ _ h5, a6 r h1 h2 h3 h4, DH.out r]; exact IS.out.2.2.2.2.2.1 r h1 h2 h3 h4 h5
                case measure => simp [intOf]; omega
              --END11
            · have e3 : plc L p = -1 := by unfold plc; rw [if_neg hpL]
              rw [e3] at p3
              have HPL := hid hpL
              clear hpL
              go_wp2_with fail
              go_round
              case rel =>
                refine ⟨t + 1, hv, u, l, wv, W, by go_num, by omega, IS.out.1, IS.out.2.1, IS.out.2.2.1, IS.out.2.2.2.1, least_mono IS.out.2.2.2.2.1 (fun y hy h => ?_), IS.out.2.2.2.2.2.1, IS.out.2.2.2.2.2.2⟩
                obtain ⟨i, hi, e⟩ := h
                by_cases ei : i = t
                · subst ei
                  rw [HP.out.1] at e
                  exact absurd (by rw [e]; exact getD_in (by rw [HM.out]; exact hy)) HPL.out
                · exact ⟨i, by omega, e⟩
              case measure => simp [intOf]; omega
          · obtain rfl : t = (R b).n := by omega
            have c5 := hrh.cell k hkm
            rw [if_pos rfl] at c5
            have d1 := hcm.c1
            have p5 := hcm.le.cell k hkm
            have z5 := hcm.le.fz k
            have i5 := int_at (g := gh) (c := ch) hkm
            have i6 := int_at (g := gl) (c := cl) hkm
            have glb := hcm.low.2.2.1
            clear hrh hcm hst hkn hls hfr hb
            have HDK := hid (show Head m (ePl (su F) L) k hv from IS.out.2.2.2.2.1.head D (fun v hvm he => by
              have h1 : L.getD v 0 ∈ pvL F F.blk.n b := mem_pvL.2 ⟨hlt _ (getD_in he.1), by rw [← HBB.out]; exact he.2.2⟩
              obtain ⟨i, hi, e⟩ := mem_getD h1
              exact ⟨i, by rw [RI.out.2]; exact hi, e⟩) hk0 hkm HS.out.2.2.1)
            go_wp2_with fail
            go_region
            go_wp2_with fail
            have K1 := hid (show ((k : Int) - 1) = ((k - 1 : Nat) : Int) by omega)
            go_round
            case rel =>
              obtain ⟨a1, a2, a3, a4, a5, a6, a7⟩ := IS.out
              have cm := (a2.short hkm hv).on (Below.drew (same _))
              have hE : ∀ z, k < z → (fun x => if x = k then hv else Hh x) z = Hh z := fun z hz => by simp [show z ≠ k by omega]
              have FIN : ∃ (k' : Nat) (Hh' u' l' : Nat → Nat) (wv' : Value) (W' : List Nat), Value.int .i64 ((k : Int) - 1) = .int .i64 k' ∧ k' < m ∧ Ro ((wr.setCell ⟨gl, k, none⟩ (.int .i64 hv)).drew) gh m (fun x => (Hh' x : Int)) ∧ CM cb gu cu gl cl m B0 ((wr.setCell ⟨gl, k, none⟩ (.int .i64 hv)).drew) wv' W' u' l' ∧ (∀ x, k' < x → x < m → Head m (ePl (su F) L) x (Hh' x)) ∧ (∀ x, x ≤ k' → Hh' x = x ∧ l' x = x ∧ u' x = par x) ∧ Kn par Hh' m k' u' l' ∧ (∀ q, q < B0 → q ≠ cb → q ≠ gu → q ≠ gl → q ≠ gh → ((wr.setCell ⟨gl, k, none⟩ (.int .i64 hv)).drew).heap[q]? = WB.heap[q]?) ∧ Below w.heap.size w ((wr.setCell ⟨gl, k, none⟩ (.int .i64 hv)).drew) := by
                refine ⟨k - 1, fun x => if x = k then hv else Hh x, u, fun x => if x = k then hv else l x, wv, W, by rw [K1.out], by omega, ?_, cm, fun x h1 h2 => ?_, fun x hx => ?_, fun x h1 h2 => ?_, fun q h1 h2 h3 h4 h5 => ?_, Below.drew (a7.setCell (by show _ ≤ gl; omega) _)⟩
                · refine ((a1.setOther (by show gh ≠ gl; exact ghn.2.2.1) (.int .i64 hv)).on (Below.drew (same _))).congr (fun i hi => ?_)
                  by_cases e : i = k <;> simp [e]
                · by_cases e : x = k
                  · subst e; simp only [if_true]; exact HDK.out
                  · simp only [if_neg e]; exact HS.out.2.2.1 x (by omega) h2
                · have hx' : x ≠ k := by omega
                  simp only [if_neg hx']
                  exact ⟨(HS.out.2.2.2.1 x (by omega)).1, (a3 x (by omega)).1, (a3 x (by omega)).2⟩
                · by_cases e : x = k
                  · subst e
                    have := Climb.start (H := fun y => if y = x then hv else Hh y) D hk0 hkm (v := x - 1) (by omega)
                    simp only [if_true] at this ⊢
                    rw [(a3 x (Nat.le_refl _)).2]
                    exact this
                  · simp only [if_neg e]
                    exact ((a4 x (by omega) h2).congr hE).mono (by omega)
                · show (wr.setCell _ _).heap[q]? = _
                  rw [Below.heap_setCell _ _ _ _ h4]; exact a6 q h1 h2 h3 h4 h5
              first
                | exact FIN
                | ((repeat apply Exists.intro); exact ⟨FIN, rfl⟩)
            case measure => first | (simp [intOf]; done) | (simp [intOf]; omega)
      · obtain rfl : k = 0 := by omega
        clear hrh hcm hhd hst hkn hfr hb rd
        go_wp2_with fail
        go_ret
        exact ⟨Hh, HS.out.2.2.1, (HS.out.2.2.2.1 0 (by omega)).1, gh, ch, rfl, HS.out.1, by omega, HS.out.2.2.2.2.2.2⟩

end Go.Proofs.Ytbmfimojhcdnbaa.Dm
