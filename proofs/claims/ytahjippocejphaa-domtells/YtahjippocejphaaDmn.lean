/-
  dom.endsWith, dom.putAbove.
-/
import Derived.Test.YtahjippocejphaaDmm
import Derived.Test.YtahjippocejphaaDmk
namespace Go.Proofs.Ytahjippocejphaa.Dm
open Go.RowKit View Rd Copy Num Ty Srt Go.Proofs.Ytahjippocejphaa.Flo Go.Proofs.Ytahjippocejphaa.Lt

set_option linter.unusedVariables false

def EndsB (l : List Nat) (b : Nat) : Prop := ∃ pre, l = pre ++ [b]

set_option maxRecDepth 10000 in
set_option maxHeartbeats 1000000 in
theorem endsWith_any (s : Sl) (l : List Nat) (b : Nat) (w : World) (hs : Ints w s (fun i => ((l.getD i 0 : Nat) : Int))) (hn : s.n = l.length) (h20 : s.n ≤ 1000) : Calls Try.prog 109 #[.slice s.a s.n s.c, .int .i64 b] w fun e w' => Ans (fun r => r = true ↔ EndsB l b) w e w' := by
  by_cases h0 : s.n = 0
  · have t0 : decide ((0 : Int) < (s.n : Int)) = false := by simp [h0]
    have HN := hid (show ¬ EndsB l b from fun ⟨pre, h⟩ => by rw [h] at hn; simp at hn; omega)
    clear hn
    go_enter Try.func109, Try.ntmps109
    go_wp2_with fail
    go_ret
    exact ⟨false, rfl, by simp only [Bool.false_eq_true, false_iff]; exact HN.out, same w⟩
  have t0 : decide ((0 : Int) < (s.n : Int)) = true := by simp; omega
  obtain ⟨m, hm⟩ : ∃ m, s.n = m + 1 := ⟨s.n - 1, by omega⟩
  obtain ⟨ib, io, hix, hc⟩ := hs.at (k := m) (by omega)
  have e1 : (m : Int) = (s.n : Int) - 1 := by omega
  rw [e1] at hix
  have key : EndsB l b ↔ l.getD m 0 = b := by
    constructor
    · rintro ⟨pre, rfl⟩
      have : m = pre.length := by simp at hn; omega
      subst this
      simp [List.getD]
    · intro h
      refine ⟨l.take m, ?_⟩
      have hl : m < l.length := by omega
      have : l = l.take m ++ l.drop m := (List.take_append_drop m l).symm
      rw [List.drop_eq_getElem_cons hl, List.drop_eq_nil_of_le (by omega)] at this
      rw [← h]
      simp only [List.getD, List.getElem?_eq_getElem hl]
      exact this
  obtain ⟨y, hy⟩ : ∃ y, l.getD m 0 = y := ⟨_, rfl⟩
  rw [hy] at key
  have hc2 : w.cell? ⟨ib, io, none⟩ = some (.int .i64 y) := by rw [hc, hy]
  have KEY := hid key
  clear key hm e1 hn hc hy
  by_cases hb : y = b
  · have t1 : ((y : Int) == (b : Int)) = true := by simp [hb]
    have HB := hid hb
    clear hb
    go_enter Try.func109, Try.ntmps109
    go_wp2_with fail
    go_ret
    exact ⟨true, rfl, by simp only [true_iff]; exact KEY.out.2 HB.out, same w⟩
  · have t1 : ((y : Int) == (b : Int)) = false := by simp; omega
    have HB := hid hb
    clear hb
    go_enter Try.func109, Try.ntmps109
    go_wp2_with fail
    go_ret
    exact ⟨false, rfl, by simp only [Bool.false_eq_true, false_iff]; exact fun h => HB.out (KEY.out.1 h), same w⟩

/-- In front of a, as one Prev p of b tells it. -/
def Fr (F : FV) (p b a : Nat) : Prop := DomR F a p ∧ (a = b ∨ ¬ DomR F a b)

theorem dom_idx {F : FV} {L : List Nat} {par : Nat → Nat} (hgr : Gro (su F) L par []) {a c : Nat} (h : DomR F a c) (hne : a ≠ c) : L.idxOf a < L.idxOf c := by
  have ha := hgr.reach h.1
  have hc := hgr.reach h.2.1
  have h1 : L.idxOf a < L.length := List.idxOf_lt_length_of_mem ha
  have h2 : L.idxOf c < L.length := List.idxOf_lt_length_of_mem hc
  have e1 : L.getD (L.idxOf a) 0 = a := by simp [List.getD, h1]
  have e2 : L.getD (L.idxOf c) 0 = c := by simp [List.getD, h2]
  have h3 := (dom_av hgr h1 h2).1 (by rw [e1, e2]; exact h)
  have h4 := (over_anc hgr.dfs h2 h3).le hgr.dfs h2
  rcases Nat.lt_or_eq_of_le h4 with h | h
  · exact h
  · exact absurd (by rw [← e1, ← e2, h]) hne

/-- Where the way up stands: at none, or at one over p, not yet above b's Over. -/
def CurOk (F : FV) (ov : Nat → Int) (p b : Nat) (cv : Int) : Prop := (cv = -1 ∧ b = 0) ∨ ∃ c : Nat, cv = c ∧ c < F.blk.n ∧ DomR F c p ∧ (b ≠ 0 → ∃ d : Nat, ov b = d ∧ DomR F d c)

def UpTo (F : FV) (cv : Int) (a : Nat) : Prop := 0 ≤ cv ∧ DomR F a cv.toNat

variable {F : FV} {L : List Nat} {par : Nat → Nat} {ov : Nat → Int} {p b : Nat}

theorem over_prev (hgr : Gro (su F) L par []) (hov : OverIs F ov) (hp : Go.Proofs.Ytahjippocejphaa.Flo.Way (su F) 0 p) (hb : b ∈ su F p) (hb0 : b ≠ 0) : ∃ d : Nat, ov b = d ∧ NearB F b d ∧ DomR F d p := by
  have hbw : Go.Proofs.Ytahjippocejphaa.Flo.Way (su F) 0 b := .step hp hb
  obtain ⟨d, _, hd, hn⟩ := hov.some b (su_lt F p b hb) hb0 hbw
  refine ⟨d, hd, hn, hn.dom.1, hp, ?_⟩
  by_cases e : d = p
  · exact .inl e
  · refine .inr fun ⟨h1, h2⟩ => ?_
    rcases hn.dom.2.2 with h | h
    · exact hn.ne h
    · exact h ⟨h1, .step h2 (mem_suL.2 ⟨hb, fun e2 => hn.ne (by omega)⟩)⟩

theorem CurOk.start (hgr : Gro (su F) L par []) (hov : OverIs F ov) (hp : Go.Proofs.Ytahjippocejphaa.Flo.Way (su F) 0 p) (hpn : p < F.blk.n) (hb : b ∈ su F p) : CurOk F ov p b p :=
  .inr ⟨p, rfl, hpn, dom_self hp, fun hb0 => by
    obtain ⟨d, h1, _, h3⟩ := over_prev hgr hov hp hb hb0
    exact ⟨d, h1, h3⟩⟩

theorem CurOk.next (hgr : Gro (su F) L par []) (hov : OverIs F ov) {c : Nat} (h : CurOk F ov p b (c : Int)) (hne : (c : Int) ≠ ov b) (h0 : 0 < F.blk.n) (hbn : b < F.blk.n) : CurOk F ov p b (ov c) := by
  rcases h with ⟨h1, _⟩ | ⟨c', hc, hcn, hcp, hd⟩
  · omega
  · obtain rfl : c' = c := by omega
    by_cases hc0 : c' = 0
    · subst hc0
      by_cases hb0 : b = 0
      · exact .inl ⟨hov.none 0 h0 (.inl rfl), hb0⟩
      · obtain ⟨d, hd1, hd2⟩ := hd hb0
        have h00 : DomR F 0 d := ⟨.refl 0, hd2.1, .inr fun q => q.1 rfl⟩
        have := dom_anti hd2 h00 hgr
        subst this
        exact absurd hd1.symm hne
    · obtain ⟨a, han, ha, hna⟩ := hov.some c' hcn hc0 hcp.1
      rw [ha]
      refine .inr ⟨a, rfl, han, dom_trans hna.dom hcp hgr, fun hb0 => ?_⟩
      obtain ⟨d, hd1, hd2⟩ := hd hb0
      exact ⟨d, hd1, hna.low d (fun e => hne (by rw [hd1, e])) hd2⟩

/-- What is above the next one is above this one, and this one is not. -/
theorem up_next (hgr : Gro (su F) L par []) (hov : OverIs F ov) {c : Nat} (hcn : c < F.blk.n) (hcw : Go.Proofs.Ytahjippocejphaa.Flo.Way (su F) 0 c) (h0 : 0 < F.blk.n) (a : Nat) : UpTo F (c : Int) a ↔ a = c ∨ UpTo F (ov c) a := by
  unfold UpTo
  by_cases hc0 : c = 0
  · subst hc0
    rw [hov.none 0 h0 (.inl rfl)]
    constructor
    · rintro ⟨_, h⟩
      have h' : DomR F a 0 := by simpa using h
      have h00 : DomR F 0 a := ⟨.refl 0, h'.1, .inr fun q => q.1 rfl⟩
      exact .inl (dom_anti h' h00 hgr)
    · rintro (rfl | ⟨h, _⟩)
      · exact ⟨by omega, by simpa using dom_self hcw⟩
      · omega
  · obtain ⟨d, hdn, hd, hnd⟩ := hov.some c hcn hc0 hcw
    rw [hd]
    constructor
    · rintro ⟨_, h⟩
      have h' : DomR F a c := by simpa using h
      by_cases e : a = c
      · exact .inl e
      · exact .inr ⟨by omega, by simpa using hnd.low a e h'⟩
    · rintro (rfl | ⟨_, h⟩)
      · exact ⟨by omega, by simpa using dom_self hcw⟩
      · have h' : DomR F a d := by simpa using h
        exact ⟨by omega, by simpa using dom_trans h' hnd.dom hgr⟩

/-- This one is not above the next. -/
theorem not_up_next (hgr : Gro (su F) L par []) (hov : OverIs F ov) {c : Nat} (hcn : c < F.blk.n) (hcw : Go.Proofs.Ytahjippocejphaa.Flo.Way (su F) 0 c) (h0 : 0 < F.blk.n) : ¬ UpTo F (ov c) c := by
  rintro ⟨h1, h2⟩
  by_cases hc0 : c = 0
  · subst hc0; rw [hov.none 0 h0 (.inl rfl)] at h1; omega
  · obtain ⟨d, hdn, hd, hnd⟩ := hov.some c hcn hc0 hcw
    rw [hd] at h2
    exact hnd.ne (dom_anti hnd.dom (by simpa using h2) hgr)

/-- All the way is in front, as long as it is not at b's Over. -/
theorem fr_cur (hgr : Gro (su F) L par []) (hov : OverIs F ov) (hp : Go.Proofs.Ytahjippocejphaa.Flo.Way (su F) 0 p) (hb : b ∈ su F p) {c : Nat} (h : CurOk F ov p b (c : Int)) (hne : (c : Int) ≠ ov b) : Fr F p b c := by
  rcases h with ⟨h1, _⟩ | ⟨c', hc, hcn, hcp, hd⟩
  · omega
  · obtain rfl : c' = c := by omega
    refine ⟨hcp, ?_⟩
    by_cases e : c' = b
    · exact .inl e
    · refine .inr fun hcb => ?_
      by_cases hb0 : b = 0
      · subst hb0
        have h00 : DomR F 0 c' := ⟨.refl 0, hcb.1, .inr fun q => q.1 rfl⟩
        exact e (dom_anti hcb h00 hgr)
      · obtain ⟨d, h1, hn, _⟩ := over_prev hgr hov hp hb hb0
        obtain ⟨d', h1', hd'⟩ := hd hb0
        obtain rfl : d' = d := by omega
        exact hne (by rw [h1, dom_anti (hn.low c' e hcb) hd' hgr])

/-- None is left at b's Over. -/
theorem fr_done (hgr : Gro (su F) L par []) (hov : OverIs F ov) (hp : Go.Proofs.Ytahjippocejphaa.Flo.Way (su F) 0 p) (hb : b ∈ su F p) (h0 : 0 < F.blk.n) {a : Nat} (hf : Fr F p b a) : ¬ UpTo F (ov b) a := by
  rintro ⟨h1, h2⟩
  by_cases hb0 : b = 0
  · subst hb0; rw [hov.none 0 h0 (.inl rfl)] at h1; omega
  · obtain ⟨d, hd, hn, _⟩ := over_prev hgr hov hp hb hb0
    rw [hd] at h2
    have h3 : DomR F a d := by simpa using h2
    have h4 := dom_trans h3 hn.dom hgr
    rcases hf.2 with h | h
    · subst h; exact hn.ne (dom_anti hn.dom h3 hgr)
    · exact h h4

end Go.Proofs.Ytahjippocejphaa.Dm
