/-
  dom.putAbove, walked.
-/
import Derived.Test.YtahjippocejphaaDmn
namespace Go.Proofs.Ytahjippocejphaa.Dm
open Go.RowKit View Rd Copy Num Ty Srt Go.Proofs.Ytahjippocejphaa.Flo Go.Proofs.Ytahjippocejphaa.Lt

set_option linter.unusedVariables false

/-- b stands behind the rows of those that p puts it to, and that have it not yet. -/
def Put1 (F : FV) (p b : Nat) (A : Nat → Prop) (cv : Int) (Lf Lg : Nat → List Nat) : Prop := ∀ a, a < F.blk.n → ((Fr F p b a ∧ ¬ A a ∧ ¬ UpTo F cv a) → Lg a = Lf a ++ [b]) ∧ (¬ (Fr F p b a ∧ ¬ A a ∧ ¬ UpTo F cv a) → Lg a = Lf a)

def PutIs (F : FV) (p b M T go : Nat) (ov : Nat → Int) (A : Nat → Prop) (Lf : Nat → List Nat) (w : World) (e : Ending) (w' : World) : Prop :=
  ∃ (R : Nat → Sl) (Lg : Nat → List Nat), e = .returned (.tuple #[]) ∧ Pv w' M F.blk.n R Lg ∧ (∀ i, i < F.blk.n → ∀ g, (Sl.val (R i)).ownBlock = some g → T ≤ g) ∧ (∀ q, q < T → q ≠ M → w'.heap[q]? = w.heap[q]?) ∧ Put1 F p b A (-1) Lf Lg ∧ w.heap.size ≤ w'.heap.size ∧ (∀ B, B ≤ M → Below B w w')

theorem Put1.stop {F : FV} {p b : Nat} {A : Nat → Prop} {cv : Int} {Lf Lg : Nat → List Nat} (h : Put1 F p b A cv Lf Lg) (hn : ∀ a, Fr F p b a → ¬ A a → ¬ UpTo F cv a) : Put1 F p b A (-1) Lf Lg := fun a ha =>
  ⟨fun q => (h a ha).1 ⟨q.1, q.2.1, hn a q.1 q.2.1⟩, fun q => (h a ha).2 fun ⟨x, y, z⟩ => q ⟨x, y, fun u => by have := u.1; omega⟩⟩

theorem Put1.next {F : FV} {p b c : Nat} {A : Nat → Prop} {nv : Int} {Lf Lg : Nat → List Nat} (h : Put1 F p b A (c : Int) Lf Lg) (hf : Fr F p b c) (hA : ¬ A c) (hup : ∀ a, UpTo F (c : Int) a ↔ a = c ∨ UpTo F nv a) (hno : ¬ UpTo F nv c) : Put1 F p b A nv Lf (fun i => if i = c then Lg c ++ [b] else Lg i) := fun a ha => by
  by_cases e : a = c
  · subst e
    have h1 := (h a ha).2 (fun q => q.2.2 ((hup a).2 (.inl rfl)))
    simp only [if_true]
    exact ⟨fun _ => by rw [h1], fun q => absurd ⟨hf, hA, hno⟩ q⟩
  · have h1 : UpTo F (c : Int) a ↔ UpTo F nv a := by rw [hup a]; simp [e]
    rw [← h1]
    simp only [if_neg e]
    exact h a ha

set_option maxRecDepth 10000 in
set_option maxHeartbeats 4000000 in
theorem putAbove_any {F : FV} {L : List Nat} {par : Nat → Nat} {ov : Nat → Int} {p b : Nat} (hgr : Gro (su F) L par []) (hov : OverIs F ov) (hp : Go.Proofs.Ytahjippocejphaa.Flo.Way (su F) 0 p) (hb : b ∈ su F p) (h0 : 0 < F.blk.n) (h16 : F.blk.n ≤ 16) (M T go co : Nat) (R : Nat → Sl) (Lf : Nat → List Nat) (A : Nat → Prop) (w : World) (hpv : Pv w M F.blk.n R Lf) (hfar : ∀ i, i < F.blk.n → ∀ g, (Sl.val (R i)).ownBlock = some g → T ≤ g) (hro : Ro w go F.blk.n ov) (hgo : go < T) (hgm : go ≠ M) (hMT : M < T) (hT : T ≤ w.heap.size) (hA : ∀ a, a < F.blk.n → (EndsB (Lf a) b ↔ A a)) (hcl : ∀ x y, A y → DomR F x y → Fr F p b x → A x) (hlen : ∀ a, a < F.blk.n → (Lf a).length ≤ 100) :
    Calls Try.prog 75 #[.slice (some ⟨M, 0, none⟩) F.blk.n F.blk.n, .slice (some ⟨go, 0, none⟩) F.blk.n co, .int .i64 p, .int .i64 b] w fun e w' => PutIs F p b M T go ov A Lf w e w' := by
  have hpn : p < F.blk.n := way_ltK h0 hp
  have hbn : b < F.blk.n := su_lt F p b hb
  have PV := hid hpv
  have FAR := hid hfar
  have RO := hid hro
  have HA := hid hA
  have HCL := hid hcl
  have HLN := hid hlen
  clear hpv hfar hro hA hcl hlen
  go_enter Try.func75, Try.ntmps75
  go_wp2_with fail
  go_loopg [8] (L.length + 1) (fun k iv wr => ∃ (cv : Int) (R : Nat → Sl) (Lg : Nat → List Nat), iv = .int .i64 cv ∧ CurOk F ov p b cv ∧ Pv wr M F.blk.n R Lg ∧ (∀ i, i < F.blk.n → ∀ g, (Sl.val (R i)).ownBlock = some g → T ≤ g) ∧ (∀ q, q < T → q ≠ M → wr.heap[q]? = w.heap[q]?) ∧ Put1 F p b A cv Lf Lg ∧ w.heap.size ≤ wr.heap.size ∧ (∀ B, B ≤ M → Below B w wr) ∧ (0 ≤ cv → L.idxOf cv.toNat + 1 ≤ k))
  case atStart =>
    refine ⟨p, _, Lf, rfl, CurOk.start hgr hov hp hpn hb, PV.out, FAR.out, fun _ _ _ => rfl, fun a ha => ⟨fun h => ?_, fun _ => rfl⟩, Nat.le_refl _, fun B _ => Below.refl _ _, fun _ => ?_⟩
    · exact absurd ⟨by omega, by simpa using h.1.1⟩ h.2.2
    · have := List.idxOf_lt_length_of_mem (hgr.reach hp)
      simp; omega
  case round =>
    obtain ⟨cv, R, Lg, rfl, hcu, hpv, hfar, hfr, hput, hsz, hbl, hkk⟩ := hrel
    have HS := hid (And.intro hcu (And.intro hpv (And.intro hfar (And.intro hfr (And.intro hput (And.intro hsz hbl))))))
    have HKK := hid hkk
    have ro : Ro wr go F.blk.n ov := RO.out.at_block (hfr go hgo hgm)
    have i1 := int_at (g := go) (c := co) hbn
    have p1 := ro.cell b hbn
    by_cases hst : cv = ov b
    · have t1 : (cv != ov b) = false := by simp [hst]
      have HST := hid hst
      clear hcu hpv hfar hfr hput hbl hkk hst
      go_wp2_with fail
      go_end0
      exact ⟨R, Lg, rfl, HS.out.2.1, HS.out.2.2.1, HS.out.2.2.2.1, HS.out.2.2.2.2.1.stop (fun a hf _ hu => fr_done hgr hov hp hb h0 hf (by rw [← HST.out]; exact hu)), HS.out.2.2.2.2.2.1, HS.out.2.2.2.2.2.2⟩
    · have t1 : (cv != ov b) = true := by simp [hst]
      obtain ⟨c, rfl, hcn, hcp⟩ : ∃ c : Nat, cv = c ∧ c < F.blk.n ∧ DomR F c p := by
        rcases hcu with ⟨h1, h2⟩ | ⟨c, h1, h2, h3, _⟩
        · subst h2; rw [hov.none 0 h0 (.inl rfl)] at hst; exact absurd h1 hst
        · exact ⟨c, h1, h2, h3⟩
      have i2 := row_at (M := M) hcn
      have p2 := hpv.row.cell hcn
      have z2 := hpv.row.frozen c
      have hml := hpv.row.lt
      have i3 := int_at (g := go) (c := co) hcn
      have p3 := ro.cell c hcn
      have HST := hid hst
      have hup := up_next hgr hov hcn hcp.1 h0
      have hLc : Lg c = Lf c := (hput c hcn).2 (fun q => q.2.2 ((hup c).2 (.inl rfl)))
      have hlc := HLN.out c hcn
      have hAc := HA.out c hcn
      rw [← hLc] at hlc hAc
      have RI := hid (show Ints wr (R c) (fun i => (((Lg c).getD i 0 : Nat) : Int)) ∧ (R c).n = (Lg c).length by
        obtain ⟨s, hs, hn, hI, hmi⟩ := ints_of_owns (hpv.own c hcn) (by simp; omega)
        have e : R c = s := by
          have h1 : (R c).a = s.a ∧ (R c).n = s.n ∧ (R c).c = s.c := by simpa [Sl.val] using hs
          cases hR : R c; cases s; rw [hR] at h1; simp at h1; simp [h1]
        rw [e]
        exact ⟨hI.congr (fun i hi => getD_ints _ _ (by rw [hn] at hi; simpa using hi)), by simpa using hn⟩)
      have rn : (R c).n ≤ 1000 := by rw [RI.out.2]; omega
      have FRC := hid (fr_cur hgr hov hp hb hcu hst)
      have NXT := hid (CurOk.next hgr hov hcu hst h0 hbn)
      have HUP := hid hup
      have HAC := hid hAc
      have HCP := hid hcp
      clear hcu hpv hfar hfr hput hbl hkk hup hLc hAc hcp
      go_wp2_with fail
      refine (endsWith_any (R c) (Lg c) b wr RI.out.1 RI.out.2 rn).mono ?_
      rintro e w1 ⟨r, rfl, hr, hb1⟩
      have HR := hid hr
      have PV1 := hid (HS.out.2.1.on hb1)
      have RO1 := hid (ro.on hb1)
      have FR1 := hid (show ∀ q, q < T → q ≠ M → w1.heap[q]? = w.heap[q]? from fun q h1 h2 => by rw [hb1.block q (by omega)]; exact HS.out.2.2.2.1 q h1 h2)
      have BL1 := hid (show ∀ B, B ≤ M → Below B w w1 from fun B hB => (HS.out.2.2.2.2.2.2 B hB).trans (hb1.mono (by omega)))
      have hs1 := hb1.size
      have q1 := RO1.out.cell b hbn
      have q2 := PV1.out.row.cell hcn
      have y2 := PV1.out.row.frozen c
      have q3 := RO1.out.cell c hcn
      clear hr hb1 p1 p2 p3 z2 ro
      cases r
      · have NA := hid (show ¬ A c from fun h => by have := HR.out.2 (HAC.out.2 h); simp at this)
        go_wp2_with (at_builtin; refine append_at rfl (.tmp 34) (.tmp 36) rfl (M + 1) (Sl.val (R c)) (ints (Lg c)) rfl b (PV1.out.own c hcn) rfl (by first | (simp; done) | (simp; omega) | omega) (by omega) ?_; intro v2 w3 hown2 hgr2 hat2; obtain ⟨s2, rfl⟩ := owns_sl hown2; have hkM : w3.heap[M]? = (w1.alloc (.cells #[.int .i64 b] 3)).heap[M]? := hgr2.block _ (by first | (simp; done) | (simp; omega) | omega) (fun e => by have := ((PV1.out.own c hcn).lt _ e.symm).1; omega); have hkg : w3.heap[go]? = w1.heap[go]? := (by rw [hgr2.block go (by first | (simp; done) | (simp; omega) | omega) (fun e => by have := HS.out.2.2.1 c hcn go e.symm; omega), Below.heap_alloc _ _ _ (by omega)]); have hr2 : w3.rowIs M 30 F.blk.n (fun i => Sl.val (R i)) := World.rowIs.of_block (World.rowIs.alloc PV1.out.row (.cells #[.int .i64 b] 3)) hkM; have hrc2 := hr2.cell hcn; have hrf2 := hr2.frozen c; have q4 := ((RO1.out.at_block hkg).setOther (a := ⟨M, c, none⟩) hgm (Sl.val s2)).cell c hcn; have OW := hid (And.intro hown2 (And.intro hgr2 hat2)); clear hown2 hgr2 hat2 hkM hr2 hkg)
        have hz3 := OW.out.2.1.size
        simp only [World.size_alloc] at hz3
        go_roundg (L.idxOf c)
        case measure => have := HKK.out (by omega); simp at this; omega
        case rel =>
          obtain ⟨o1, o2, o3⟩ := OW.out
          have hP := PV1.out.step hcn o1 o2 o3
          have hk3 : ∀ q, q < w1.heap.size → some q ≠ (Sl.val (R c)).ownBlock → w3.heap[q]? = w1.heap[q]? := fun q h1 h2 => by rw [o2.block q (by simp; omega) h2, Below.heap_alloc _ _ _ h1]
          refine ⟨ov c, _, _, rfl, NXT.out, hP, fun i hi g hg => ?_, fun q h1 h2 => ?_, HS.out.2.2.2.2.1.next FRC.out NA.out HUP.out (not_up_next hgr hov hcn HCP.out.1 h0), by simp; omega, fun B hB => (((BL1.out B hB).alloc (by omega) _).grown o2 (by simp; omega) (fun q hq => by have := ((PV1.out.own c hcn).lt q hq).1; omega)).setCell (by show _ ≤ M; omega) _, fun h => ?_⟩
          · by_cases e : i = c
            · simp only [if_pos e] at hg
              rcases o3 with h | h
              · rw [h] at hg; exact HS.out.2.2.1 c hcn g hg
              · rw [h] at hg; have := Option.some.inj hg; omega
            · simp only [if_neg e] at hg; exact HS.out.2.2.1 i hi g hg
          · rw [Below.heap_setCell _ _ _ _ h2, hk3 q (by omega) (fun e => by have := HS.out.2.2.1 c hcn q e.symm; omega)]
            exact FR1.out q h1 h2
          · by_cases hc0 : c = 0
            · subst hc0; rw [hov.none 0 h0 (.inl rfl)] at h; omega
            · obtain ⟨d, hdn, hd, hnd⟩ := hov.some c hcn hc0 HCP.out.1
              rw [hd]
              have := dom_idx hgr hnd.dom hnd.ne
              simp; omega
      · have YA := hid (show A c from HAC.out.1 (HR.out.1 rfl))
        go_wp2_with fail
        go_end0
        exact ⟨R, Lg, rfl, PV1.out, HS.out.2.2.1, FR1.out, HS.out.2.2.2.2.1.stop (fun a hf hna hu => hna (HCL.out a c YA.out (by simpa using hu.2) hf)), by omega, BL1.out⟩

end Go.Proofs.Ytahjippocejphaa.Dm
