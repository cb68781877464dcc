/-
  Numbers turned round, a Phi's first and last entry changed places: made neat, it is the function again (no program in it). plnlaw3.IrShuffled answers true.
-/
import Derived.Test.YtahjippocejphaaShf0
import Derived.Test.YtahjippocejphaaChkZ
import Derived.Test.YtahjippocejphaaChkW
import Derived.Test.YtahjippocejphaaShw
import Derived.Test.YtahjippocejphaaChkAll

namespace Go.Proofs.Ytahjippocejphaa.Shf
open Go.RowKit View Rd Copy Srt Num Ty Own Go.Proofs.Ytahjippocejphaa.Chk Go.Proofs.Ytahjippocejphaa.Flo

set_option linter.unusedVariables false

theorem sel_congr {c : Int} {p q p' q' : Nat → Int} : ∀ {n : Nat}, (∀ i, i < n → p i = p' i ∧ q i = q' i) → sel c p q n = sel c p' q' n
  | 0, _ => rfl
  | n + 1, h => by rw [sel, sel, sel_congr (fun i hi => h i (by omega)), (h n (by omega)).1, (h n (by omega)).2]

theorem sel_none {c : Int} {p q : Nat → Int} : ∀ {n : Nat}, (∀ i, i < n → q i ≠ c) → sel c p q n = []
  | 0, _ => rfl
  | n + 1, h => by rw [sel, sel_none (fun i hi => h i (by omega)), if_neg (h n (by omega))]; rfl

theorem sel_one {c : Int} {p q : Nat → Int} : ∀ {n : Nat}, (∀ i j, i < n → j < n → q i = q j → i = j) → ∀ {i : Nat}, i < n → q i = c → sel c p q n = [p i]
  | 0, _, i, hi, _ => by omega
  | n + 1, h, i, hi, e => by
    by_cases q' : i = n
    · subst q'
      rw [sel, sel_none (fun j hj ej => by have := h j i (by omega) (by omega) (by rw [ej, e]); omega), if_pos e]
      rfl
    · rw [sel, sel_one (fun a b ha hb => h a b (by omega) (by omega)) (by omega : i < n) e, if_neg (fun ej => by have := h i n (by omega) (by omega) (by rw [ej, e]); omega)]
      rfl

theorem sel_swi {c : Int} {p q : Nat → Int} {n l : Nat} (hl : l < n) (h : ∀ i j, i < n → j < n → q i = q j → i = j) : sel c (fun i => p (swi l i)) (fun i => q (swi l i)) n = sel c p q n := by
  by_cases e : ∃ i, i < n ∧ q i = c
  · obtain ⟨i, hi, he⟩ := e
    rw [sel_one h hi he, sel_one (i := swi l i) (fun a b ha hb hab => swi_inj (h _ _ (swi_lt hl ha) (swi_lt hl hb) hab)) (swi_lt hl hi) (by show q (swi l (swi l i)) = c; rw [swi_swi]; exact he)]
    show [p (swi l (swi l i))] = [p i]
    rw [swi_swi]
  · rw [sel_none (fun i hi he => e ⟨i, hi, he⟩), sel_none (fun i hi he => e ⟨_, swi_lt hl hi, he⟩)]

/-- What the numbers up to b have become. -/
def MapK (b : Nat) (s : Int → Int) (m : Int → Option Int) : Prop := (∀ v : Int, 1 ≤ v → v ≤ b → m (s v) = some v) ∧ ∀ x, (∀ v : Int, 1 ≤ v → v ≤ b → x ≠ s v) → m x = none

theorem Shuf.giv {F G : FV} {s : Int → Int} (h : Shuf F G s) {j : Nat} (hj : j < F.blk.n) {k : Nat} (hk : k ≤ (F.B j).n) : View.giv (G.I j) k = View.giv (F.I j) k := giv_congr fun t ht => h.ty j hj t (by omega)

theorem Shuf.last {F G : FV} {s : Int → Int} (h : Shuf F G s) {j : Nat} (hj : j ≤ F.blk.n) : lastOf G j = lastOf F j := by
  show G.par.n + _ = F.par.n + _
  rw [h.par, cnt_congr (g := fun j => View.giv (F.I j) (F.B j).n) (fun t ht => by rw [h.B t (by omega)]; exact h.giv (by omega) (Nat.le_refl _))]

theorem shuf_row {F G : FV} {s : Int → Int} (h : Shuf F G s) (hu : UseF F) (hs : ∀ u v : Int, 1 ≤ u → u ≤ allV F → 1 ≤ v → v ≤ allV F → s u = s v → u = v) {j : Nat} (hj : j < F.blk.n) (hm : MapK (lastOf F j) s (allMap G j)) : ∀ {k : Nat}, k ≤ (F.B j).n → MapK (lastOf F j + View.giv (F.I j) k) s (rowMap (allMap G j) (lastOf G j) (G.I j) k)
  | 0, _ => hm
  | k + 1, hk => by
    have ih := shuf_row h hu hs hj hm (k := k) (by omega)
    have et := h.ty j hj k (by omega)
    by_cases ht : (F.I j k).ty = 0
    · have e : View.giv (F.I j) (k + 1) = View.giv (F.I j) k := by simp [View.giv, ht]
      rw [e]
      have e2 : rowMap (allMap G j) (lastOf G j) (G.I j) (k + 1) = rowMap (allMap G j) (lastOf G j) (G.I j) k := by
        funext v
        exact rowMap_no (fun c => c.1 (by rw [et]; exact ht))
      rw [e2]
      exact ih
    · have eg : View.giv (F.I j) (k + 1) = View.giv (F.I j) k + 1 := by simp [View.giv, ht]
      have hid : (F.I j k).to = idx F j k := hu.1 j hj k (by omega) ht
      have hie := idx_eq F ht (b := j) (k := k)
      have hto := h.to j hj k (by omega) ht
      have hmax : idx F j k ≤ allV F := by
        have h1 := lastOf_mono F (show j + 1 ≤ F.blk.n by omega)
        rw [lastOf_next, lastOf_all] at h1
        have h2 := Chk.giv_mono (F.I j) (show k + 1 ≤ (F.B j).n by omega)
        unfold idx
        omega
      obtain ⟨u, hue⟩ : ∃ u : Nat, idx F j k = u := ⟨_, rfl⟩
      rw [hue] at hid hie hmax
      rw [hid] at hto
      have hnone : rowMap (allMap G j) (lastOf G j) (G.I j) k (G.I j k).to = none := ih.2 _ (fun v h1 h2 e => by
        rw [hto] at e
        have := hs u v (by omega) (by omega) h1 (by omega) e
        omega)
      have hyes : rowMap (allMap G j) (lastOf G j) (G.I j) (k + 1) (G.I j k).to = some (u : Int) := by
        rw [rowMap_yes (by rw [et]; exact ht) hnone rfl, h.last (by omega), h.giv hj (by omega), eg]
        congr 1
        omega
      have hno : ∀ x, x ≠ (G.I j k).to → rowMap (allMap G j) (lastOf G j) (G.I j) (k + 1) x = rowMap (allMap G j) (lastOf G j) (G.I j) k x := fun x hx => rowMap_no (fun c => hx c.2.2)
      rw [eg]
      constructor
      · intro v h1 h2
        by_cases e : v = u
        · rw [e, ← hto]; exact hyes
        · rw [hno _ (fun q => by rw [hto] at q; exact e (hs v u h1 (by omega) (by omega) (by omega) q))]
          exact ih.1 v h1 (by omega)
      · intro x hx
        rw [hno x (fun q => hx u (by omega) (by omega) (by rw [q, hto]))]
        exact ih.2 x (fun v h1 h2 => hx v h1 (by omega))

theorem shuf_all {F G : FV} {s : Int → Int} (h : Shuf F G s) (hu : UseF F) (hs : ∀ u v : Int, 1 ≤ u → u ≤ allV F → 1 ≤ v → v ≤ allV F → s u = s v → u = v) (hl : ∀ v : Int, v ≤ F.par.n → s v = v) : ∀ {j : Nat}, j ≤ F.blk.n → MapK (lastOf F j) s (allMap G j)
  | 0, _ => by
    have e : lastOf F 0 = F.par.n := rfl
    rw [e]
    show MapK F.par.n s (m0 G.par.n)
    rw [h.par]
    constructor
    · intro v h1 h2
      rw [hl v h2]
      exact if_pos ⟨h1, h2⟩
    · intro x hx
      exact if_neg (fun q => hx x q.1 q.2 (hl x q.2).symm)
  | j + 1, hj => by
    have := shuf_row h hu hs (by omega) (shuf_all h hu hs hl (j := j) (by omega)) (Nat.le_refl (F.B j).n)
    rw [lastOf_next]
    show MapK _ s (rowMap _ _ _ (G.B j).n)
    rw [h.B j (by omega)]
    exact this

theorem shuf_nm {F G : FV} {s : Int → Int} (h : Shuf F G s) (hu : UseF F) (hs : ∀ u v : Int, 1 ≤ u → u ≤ allV F → 1 ≤ v → v ≤ allV F → s u = s v → u = v) (hl : ∀ v : Int, v ≤ F.par.n → s v = v) {v : Int} (h1 : 1 ≤ v) (h2 : v ≤ allV F) : nm G (s v) = v := by
  unfold nm
  rw [h.blk, (shuf_all h hu hs hl (Nat.le_refl _)).1 v h1 h2]
  rfl

theorem form_to {v : IV} (h : formB v = true) (h0 : v.ty = 0) : v.to = 0 := by
  unfold formB at h
  simp [h0] at h
  exact h.2

theorem form_phi {v : IV} (h : formB v = true) (h0 : v.op = 26) : v.into.n = v.args.n := by
  unfold formB swB at h
  simp [h0] at h
  omega

theorem pvL_up {F : FV} {n b i j : Nat} (hij : i < j) (hj : j < (pvL F n b).length) : (pvL F n b).getD i 0 < (pvL F n b).getD j 0 := by
  have hs : (pvL F n b).Pairwise (· < ·) := by
    unfold pvL
    exact List.Pairwise.filter _ List.pairwise_lt_range
  have := List.pairwise_iff_getElem.1 hs i j (by omega) hj hij
  have e1 : (pvL F n b).getD i 0 = (pvL F n b)[i] := by simp [List.getD, show i < (pvL F n b).length by omega]
  have e2 : (pvL F n b).getD j 0 = (pvL F n b)[j] := by simp [List.getD, hj]
  rw [e1, e2]
  exact this

theorem pvL_rise {F : FV} {n b i j : Nat} (hij : i < j) (hj : j < (pvL F n b).length) : (pvL F n b).getD i 0 ≤ (pvL F n b).getD j 0 := Nat.le_of_lt (pvL_up hij hj)

theorem pvL_inj {F : FV} {n b i j : Nat} (hi : i < (pvL F n b).length) (hj : j < (pvL F n b).length) (h : (pvL F n b).getD i 0 = (pvL F n b).getD j 0) : i = j := by
  rcases Nat.lt_trichotomy i j with q | q | q
  · have := pvL_up q hj; omega
  · exact q
  · have := pvL_up q hi; omega

/-- Made neat, it is the function again. -/
theorem shuf_neat {F G H : FV} {s : Int → Int} (hf : FormF F) (hw : FlowF F) (hu : UseF F) (hs : ∀ u v : Int, 1 ≤ u → u ≤ allV F → 1 ≤ v → v ≤ allV F → s u = s v → u = v) (hl : ∀ v : Int, v ≤ F.par.n → s v = v) (h : Shuf F G s) (h' : Neats G H) : EqF H F := by
  refine ⟨by rw [h'.name, h.name], by rw [h'.out, h.out], by rw [h'.res, h.res], ⟨by rw [h'.par, h.par], fun i hi => by rw [h'.P i (by rw [← h'.par]; exact hi), h.P]⟩, by rw [h'.blk, h.blk], fun j hj => ?_⟩
  have hjG : j < G.blk.n := by rw [← h'.blk]; exact hj
  have hjF : j < F.blk.n := by rw [← h.blk]; exact hjG
  refine ⟨by rw [h'.B j hjG, h.B j hjF], fun k hk => ?_⟩
  have hkG : k < (G.B j).n := by rw [← h'.B j hjG]; exact hk
  have hkF : k < (F.B j).n := by rw [← h.B j hjF]; exact hkG
  have form := hf.2.2 j hjF k hkF
  have arg : ∀ i, i < (F.I j k).args.n → nm G (s (F.A j k i)) = F.A j k i := fun i hi => by
    have := hu.2 j hjF k hkF i hi
    exact shuf_nm h hu hs hl this.1 (by have := this.2.1; exact_mod_cast this)
  obtain ⟨a', hp, ha'⟩ := h'.rows j hjG k hkG
  obtain ⟨r, hr, p1, p2⟩ := h.rows j hjF k hkF
  have key : (∀ i, i < (F.I j k).args.n → nm G (a' i) = F.A j k i) ∧ ∀ i, i < (F.I j k).into.n → H.J j k i = F.J j k i := by
    unfold Put at hp
    by_cases c : (G.I j k).op = 26 ∧ (G.I j k).args.n = (G.I j k).into.n
    · rw [if_pos c] at hp
      have c26 : (F.I j k).op = 26 := by rw [← h.op j hjF k hkF]; exact c.1
      have hflow := (hw.2 j hjF).2 k hkF c26
      have hen : (F.I j k).args.n = (F.I j k).into.n := (form_phi form c26).symm
      have hinj : ∀ a b, a < (F.I j k).into.n → b < (F.I j k).into.n → F.J j k a = F.J j k b → a = b := fun a b ha hb e => by
        rw [hflow.2.2 a ha, hflow.2.2 b hb] at e
        exact pvL_inj (by rw [← hflow.2.1]; exact ha) (by rw [← hflow.2.1]; exact hb) (by omega)
      have hris : Rises (F.J j k) (F.I j k).into.n := fun x y h1 h2 => by
        rw [hflow.2.2 x (by omega), hflow.2.2 y h2]
        have := pvL_rise (F := F) (n := F.blk.n) (b := j) h1 (by rw [← hflow.2.1]; exact h2)
        omega
      have hsel : ∀ c', sel c' (G.A j k) (G.J j k) (F.I j k).into.n = sel c' (fun i => s (F.A j k i)) (F.J j k) (F.I j k).into.n := fun c' => by
        cases r with
        | true =>
          have h1 := (hr rfl).2
          rw [sel_congr (p' := fun i => s (F.A j k (swi ((F.I j k).into.n - 1) i))) (q' := fun i => F.J j k (swi ((F.I j k).into.n - 1) i)) (fun i hi => ⟨by have := p1 i (by omega); simpa using this, by have := p2 i hi; simpa using this⟩)]
          exact sel_swi (p := fun i => s (F.A j k i)) (by omega) hinj
        | false => exact sel_congr (fun i hi => ⟨by have := p1 i (by omega); simpa using this, by have := p2 i hi; simpa using this⟩)
      rw [h.an j hjF k hkF, hen] at hp
      have u := sorted_unique hp.1 hris (fun c' => by rw [hp.2, hsel])
      exact ⟨fun i hi => by rw [(u i (by omega)).1]; exact arg i hi, fun i hi => (u i hi).2⟩
    · rw [if_neg c] at hp
      obtain rfl : r = false := by
        cases r with
        | false => rfl
        | true =>
          have q := hr rfl
          exact absurd ⟨by rw [h.op j hjF k hkF]; exact q.1, by rw [h.an j hjF k hkF, h.jn j hjF k hkF]; exact (form_phi form q.1).symm⟩ c
      rw [hp.1, hp.2]
      exact ⟨fun i hi => by have := p1 i hi; rw [this]; exact arg i hi, fun i hi => by have := p2 i hi; simpa using this⟩
  refine ⟨by rw [h'.op j hjG k hkG, h.op j hjF k hkF], by rw [h'.ty j hjG k hkG, h.ty j hjF k hkF], ?_, by rw [h'.sym j hjG k hkG, h.sym j hjF k hkF], by rw [h'.num j hjG k hkG, h.num j hjF k hkF], ⟨by rw [h'.an j hjG k hkG, h.an j hjF k hkF], fun i hi => ?_⟩, ⟨by rw [h'.jn j hjG k hkG, h.jn j hjF k hkF], fun i hi => ?_⟩⟩
  · rw [h'.to j hjG k hkG]
    unfold newTo
    rw [h.ty j hjF k hkF]
    by_cases t : (F.I j k).ty = 0
    · rw [if_pos t, form_to form t]
    · rw [if_neg t, h.last (by omega), h.giv hjF (by omega)]
      exact (hu.1 j hjF k hkF t).symm
  · rw [h'.an j hjG k hkG, h.an j hjF k hkF] at hi
    rw [ha' i (by rw [h.an j hjF k hkF]; exact hi)]
    exact key.1 i hi
  · rw [h'.jn j hjG k hkG, h.jn j hjF k hkF] at hi
    exact key.2 i hi

theorem ok3_of {F : FV} (hf : FormF F) (hw : FlowF F) (hu : UseF F) : Ok3 F where
  arg := fun j hj k hk i hi => ⟨(hu.2 j hj k hk i hi).1, (hu.2 j hj k hk i hi).2.1⟩
  «to» := fun j hj k hk ht => by
    have e := hu.1 j hj k hk ht
    have h1 := idx_par F ht (b := j) (k := k)
    have h2 := lastOf_mono F (show j + 1 ≤ F.blk.n by omega)
    rw [lastOf_next, lastOf_all] at h2
    have h3 := Chk.giv_mono (F.I j) (show k + 1 ≤ (F.B j).n by omega)
    rw [e]
    unfold idx at h1 ⊢
    omega
  phi := fun j hj k hk h => form_phi (hf.2.2 j hj k hk) h
  zero := fun j hj k hk h => form_to (hf.2.2 j hj k hk) h
  neat := fun G H s h1 h2 h3 h4 => shuf_neat hf hw hu h1 h2 h3 h4

end Go.Proofs.Ytahjippocejphaa.Shf

namespace Go.Proofs.Ytahjippocejphaa.Shf
open Go.RowKit View Rd Copy Srt Num Ty Own Go.Proofs.Ytahjippocejphaa.Chk Go.Proofs.Ytahjippocejphaa.Mod

set_option linter.unusedVariables false in
theorem irShuffled_any (M : MV) (k y0 : Int) (w : World) (hM : InM w M) :
    Calls Try.prog 3 #[M.val, .int .i64 k, .int .i64 y0] w fun e w' => e = .returned (.bool true) ∧ Below w.heap.size w w' :=
  irShuffled_walk M k y0 w hM fun wx h => (fit_any M wx h).mono fun e w' ⟨r, h1, h2, h3⟩ => ⟨r, h1, fun hr => ⟨(h2 hr).1, fun i hi => ok3_of ((h2 hr).2.form.fns i hi) ((h2 hr).2.flow i hi) ((h2 hr).2.use i hi)⟩, h3⟩

end Go.Proofs.Ytahjippocejphaa.Shf
