/-
  Wsp, Wsm, Wsn, Eqw, Low, Wso: laid together.
-/
import Derived.Test.YtolipafcoolpgaaGreatJ20
import Derived.Test.YtolipafcoolpgaaGreatFitx
import Derived.Test.YtolipafcoolpgaaGreatJ17
import Derived.Test.YtolipafcoolpgaaGreatJ0
import Derived.Test.YtolipafcoolpgaaGreatJ16
/-
  WfSpoilt plainly: a module that may be, one thing of it spoilt.
-/
namespace Go.Proofs.YtolipafcoolpgaaGreat.Wf
open Go.RowKit View Rd Num Opn Copy Srt Go.Proofs.YtolipafcoolpgaaGreat.Mod Chk Flo CpM Trn

set_option linter.unusedVariables false

theorem lim_set {N : MV} (h : LimM N) {k : Nat} {F : FV} (hF : LimF F) : LimM (setF N k F) :=
 ⟨h.fns, h.ext, h.glo, h.tab, h.extP, h.gloC, h.tabF, fun i hi => by
  show LimF (if i = k then F else N.F i)
  by_cases e : i = k
  ·rw [if_pos e]; exact hF
  ·rw [if_neg e]; exact h.fnI i hi⟩

theorem form_set {N : MV} (h : FormM N) {k : Nat} {F : FV} (hF : FormF F) : FormM (setF N k F) :=
 ⟨h.ext, fun i hi => by
  show FormF (if i = k then F else N.F i)
  by_cases e : i = k
  ·rw [if_pos e]; exact hF
  ·rw [if_neg e]; exact h.fns i hi⟩

theorem name_set {N : MV} (h : NameM N) {k : Nat} {F : FV} (hF : F.name = (N.F k).name) : NameM (setF N k F) := by
 have e : namesF (setF N k F) (setF N k F).fns.n = namesF N N.fns.n := by
  rw [names_split, names_split]
  congr 1
  refine List.map_congr_left fun i _ => ?_
  show (if i = k then F else N.F i).name = _
  by_cases e : i = k
  ·rw [if_pos e, hF, e]
  ·rw [if_neg e]
 unfold NameM
 rw [e]; exact h

theorem sym_set {N : MV} (h : SymM N) {k : Nat} {F : FV} (hF : ∀ j, j < F.blk.n → ∀ i, i < (F.B j).n → SymI N (F.I j i)) : SymM (setF N k F) :=
 ⟨h.tab, fun i hi j hj t ht => by
  by_cases e : i = k
  ·subst e
   simp only [setF, if_true] at hj ht ⊢
   exact hF j hj t ht
  ·simp only [setF, if_neg e] at hj ht ⊢
   exact h.ins i hi j hj t ht⟩

theorem set_at {N : MV} {k : Nat} {F : FV} : (setF N k F).F k = F := if_pos rfl

theorem err_op {N : MV} (h : FitM N) {k j i : Nat} (hk : k < N.fns.n) (hj : j < (N.F k).blk.n) (hi : i < ((N.F k).B j).n) {v : IV} {a : Nat → Int} (hv : formB v = false) : errM (setF N k (setI (N.F k) j i v a)) = 1 := by
 have l := h.lim.fnI k hk
 refine err_form (lim_set h.lim ⟨l.par, l.one, l.blk, l.ins⟩) (fun hf => ?_)
 have q := (hf.fns k hk).2.2 j (by rw [set_at]; exact hj) i (by rw [set_at]; exact hi)
 rw [set_at] at q
 have e : (setI (N.F k) j i v a).I j i = v := updI_same _ _ _ _
 rw [e, hv] at q
 cases q

theorem form_op31 (v : IV) : formB { v with op := 31 } = false := by
 unfold formB
 simp

theorem form_ty5 (v : IV) : formB { v with ty := 5 } = false := by
 unfold formB
 simp

theorem err_main {N : MV} (h : FitM N) {k : Nat} (hk : k < N.fns.n) {nm : ByteArray} (hn : ¬ NameOk nm) : errM (setF N k { N.F k with name := nm }) = 3 := by
 have l := h.lim.fnI k hk
 refine err_name (lim_set h.lim ⟨l.par, l.one, l.blk, l.ins⟩) (form_set h.form (h.form.fns k hk)) (fun hq => hn (hq.1 _ ?_))
 rw [names_split]
 simp only [List.mem_append, List.mem_map, List.mem_range]
 exact .inr ⟨k, hk, by simp⟩

theorem not_ok_main : ¬ NameOk ⟨#[77, 97, 105, 110]⟩ := fun h => by
 have := h.2.2.1
 exact absurd this (by decide +kernel)

theorem ok_zz : NameOk ⟨#[122, 122]⟩ := by
 refine ⟨by decide +kernel, by decide +kernel, by decide +kernel, by decide +kernel, fun i hi => ?_⟩
 have hi' : i < 2 := hi
 obtain rfl | rfl : i = 0 ∨ i = 1 := by omega
 ·decide +kernel
 ·decide +kernel

theorem err_twice {N : MV} (h : FitM N) (hg : N.glo.n ≤ 10) {k : Nat} (hk : k < N.fns.n) {s a : Sl} {C : Nat → Int} (hs : s.n = N.glo.n + 1) (ha : a.n = 1) :
  errM { N with glo := s, G := fun i => if i < N.glo.n then N.G i else ⟨(N.F k).name, a⟩, GC := fun i => if i < N.glo.n then N.GC i else C } = 3 := by
 obtain ⟨O, hO⟩ : ∃ O : MV, O = { N with glo := s, G := fun i => if i < N.glo.n then N.G i else ⟨(N.F k).name, a⟩, GC := fun i => if i < N.glo.n then N.GC i else C } := ⟨_, rfl⟩
 rw [← hO]
 have l := h.lim
 have hl : LimM O := by
  rw [hO]
  refine ⟨l.fns, l.ext, by show s.n ≤ 12; omega, l.tab, l.extP, fun i hi => ?_, l.tabF, l.fnI⟩
  show 1 ≤ (if i < N.glo.n then N.G i else ⟨(N.F k).name, a⟩ : GV).cel.n ∧ (if i < N.glo.n then N.G i else ⟨(N.F k).name, a⟩ : GV).cel.n ≤ 16
  by_cases e : i < N.glo.n
  ·rw [if_pos e]; exact l.gloC i e
  ·rw [if_neg e]; show 1 ≤ a.n ∧ a.n ≤ 16; omega
 refine err_name hl (by rw [hO]; exact ⟨h.form.ext, h.form.fns⟩) (fun hq => ?_)
 ·have nd := hq.2
  rw [names_split, List.map_append] at nd
  have dis := (List.nodup_append.1 nd).2.2
  refine dis (bytesOf (N.F k).name) ?_ (bytesOf (N.F k).name) ?_ rfl
  ·refine List.mem_map.2 ⟨(N.F k).name, ?_, rfl⟩
   simp only [List.mem_append, List.mem_map, List.mem_range]
   refine .inl (.inr ⟨N.glo.n, by rw [hO]; show _ < s.n; omega, ?_⟩)
   rw [hO]
   show (if N.glo.n < N.glo.n then N.G N.glo.n else ⟨(N.F k).name, a⟩ : GV).name = _
   rw [if_neg (Nat.lt_irrefl _)]
  ·refine List.mem_map.2 ⟨(N.F k).name, ?_, rfl⟩
   simp only [List.mem_map, List.mem_range]
   exact ⟨k, by rw [hO]; exact hk, by rw [hO]⟩

theorem err_bare {N : MV} {s a : Sl} {nm : ByteArray} {C : Nat → Int} (hs : s.n = N.glo.n + 1) (ha : a.n = 0) :
  errM { N with glo := s, G := fun i => if i < N.glo.n then N.G i else ⟨nm, a⟩, GC := fun i => if i < N.glo.n then N.GC i else C } = 2 := by
 refine err_lim (not_lim_glo (i := N.glo.n) (by show _ < s.n; omega) ?_)
 show (if N.glo.n < N.glo.n then N.G N.glo.n else ⟨nm, a⟩ : GV).cel.n = 0
 rw [if_neg (Nat.lt_irrefl _)]; exact ha

theorem err_tabs {N : MV} (h : FitM N) (ht : N.tab.n ≤ 4) {s a : Sl} {C : Nat → Int} (hs : s.n = N.tab.n + 1) (ha : a.n = 1) (hC : C 0 = (N.fns.n : Int)) (hz : NotN N ⟨#[122, 122]⟩) :
  errM { N with tab := s, T := fun i => if i < N.tab.n then N.T i else ⟨⟨#[122, 122]⟩, a⟩, TF := fun i => if i < N.tab.n then N.TF i else C } = 4 := by
 obtain ⟨O, hO⟩ : ∃ O : MV, O = { N with tab := s, T := fun i => if i < N.tab.n then N.T i else ⟨⟨#[122, 122]⟩, a⟩, TF := fun i => if i < N.tab.n then N.TF i else C } := ⟨_, rfl⟩
 rw [← hO]
 have l := h.lim
 have hT : O.T N.tab.n = ⟨⟨#[122, 122]⟩, a⟩ := by
  rw [hO]
  show (if N.tab.n < N.tab.n then N.T N.tab.n else ⟨⟨#[122, 122]⟩, a⟩ : GV) = _
  rw [if_neg (Nat.lt_irrefl _)]
 have hl : LimM O := by
  rw [hO]
  refine ⟨l.fns, l.ext, l.glo, by show s.n ≤ 6; omega, l.extP, l.gloC, fun i hi => ?_, l.fnI⟩
  show 1 ≤ (if i < N.tab.n then N.T i else ⟨⟨#[122, 122]⟩, a⟩ : GV).cel.n ∧ (if i < N.tab.n then N.T i else ⟨⟨#[122, 122]⟩, a⟩ : GV).cel.n ≤ 12
  by_cases e : i < N.tab.n
  ·rw [if_pos e]; exact l.tabF i e
  ·rw [if_neg e]; show 1 ≤ a.n ∧ a.n ≤ 12; omega
 refine err_sym hl (by rw [hO]; exact ⟨h.form.ext, h.form.fns⟩) ?_ (fun hq => ?_)
 ·have hm : MoreM N O := by
   rw [hO]
   refine ⟨⟨Nat.le_refl _, fun i _ => refl_eqE _ _⟩, ⟨Nat.le_refl _, fun i _ => refl_eqG _ _⟩, ⟨by show _ ≤ s.n; omega, fun i hi => ?_⟩, ⟨rfl, fun i _ => eqF_refl _⟩⟩
   show EqG (if i < N.tab.n then N.T i else _) _ (if i < N.tab.n then N.TF i else C) _
   rw [if_pos hi, if_pos hi]
   exact refl_eqG _ _
  refine name_more hm h.name (by rw [hO]) (by rw [hO]) 1 (by rw [hO]; exact hs) (fun i hi => ?_) (fun i hi => ?_) (fun i j hi hj _ => by omega)
  ·obtain rfl : i = 0 := by omega
   rw [Nat.add_zero, hT]; exact ok_zz
  ·obtain rfl : i = 0 := by omega
   rw [Nat.add_zero, hT]; exact hz
 ·have q := (hq.tab N.tab.n (by rw [hO]; show _ < s.n; omega) 0 (by rw [hT]; show 0 < a.n; omega)).2
  have e : O.TF N.tab.n = C := by
   rw [hO]
   show (if N.tab.n < N.tab.n then N.TF N.tab.n else C) = C
   rw [if_neg (Nat.lt_irrefl _)]
  have e2 : O.fns = N.fns := by rw [hO]
  rw [e, hC, e2] at q
  omega

abbrev stopI : IV := ⟨30, 0, 0, 0, 0, ⟨none, 0, 0⟩, ⟨none, 0, 0⟩⟩

theorem form_stop : formB stopI = true := by decide +kernel

abbrev setB (F : FV) (j : Nat) (s : Sl) (I : Nat → IV) (A J : Nat → Nat → Int) : FV := { F with B := fun x => if x = j then s else F.B x, I := fun x => if x = j then I else F.I x, A := fun x => if x = j then A else F.A x, J := fun x => if x = j then J else F.J x }

theorem cnt_one {n n' : Nat → Nat} {j : Nat} (h : ∀ x, x ≠ j → n' x = n x) (hj : n' j = n j + 1) : ∀ m, cnt n' m ≤ cnt n m + 1 ∧ (m ≤ j → cnt n' m = cnt n m)
 | 0 => ⟨by simp [cnt], fun _ => rfl⟩
 | m + 1 => by
  obtain ⟨h1, h2⟩ := cnt_one h hj m
  rw [cnt, cnt]
  by_cases e : m = j
  ·subst e
   have := h2 (Nat.le_refl _)
   exact ⟨by omega, fun q => by omega⟩
  ·have := h m e
   exact ⟨by omega, fun q => by have := h2 (by omega); omega⟩

theorem size_setB {F : FV} {j : Nat} {s : Sl} {I : Nat → IV} {A J : Nat → Nat → Int} (hs : s.n = (F.B j).n + 1) : fsize (setB F j s I A J) ≤ fsize F + 1 :=
 (cnt_one (n := fun x => (F.B x).n) (n' := fun x => (if x = j then s else F.B x).n) (j := j) (fun x hx => by simp only [if_neg hx]) (by simp only [if_true]; exact hs) F.blk.n).1

theorem err_behind {N : MV} (h : FitM N) (hx : SmallX N) {k j : Nat} (hk : k < N.fns.n) (hj : j < (N.F k).blk.n) {s : Sl} {A J : Nat → Nat → Int} {I : Nat → IV} (hs : s.n = ((N.F k).B j).n + 1) (hI : ∀ i, i < ((N.F k).B j).n → I i = (N.F k).I j i) (hI2 : I ((N.F k).B j).n = stopI) :
  errM (setF N k (setB (N.F k) j s I A J)) = 5 := by
 have l := h.lim.fnI k hk
 have hz := size_setB (I := I) (A := A) (J := J) hs
 have hz2 : fsize (N.F k) ≤ 90 := (hx.1 k hk).2
 have fl := h.flow k hk
 have one := (fl.1 j hj).1
 refine err_flow (lim_set h.lim ⟨l.par, l.one, l.blk, by omega⟩) (form_set h.form ?_) (name_set h.name rfl) (sym_set h.sym ?_) (fun hf => ?_)
 ·obtain ⟨f1, f2, f3⟩ := h.form.fns k hk
  refine ⟨f1, f2, fun x hx' i hi => ?_⟩
  by_cases e : x = j
  ·subst e
   simp only [if_true] at hi ⊢
   by_cases ei : i < ((N.F k).B x).n
   ·rw [hI i ei]; exact f3 x hx' i ei
   ·obtain rfl : i = ((N.F k).B x).n := by omega
    rw [hI2]; exact form_stop
  ·simp only [if_neg e] at hi ⊢
   exact f3 x hx' i hi
 ·intro x hx' i hi
  by_cases e : x = j
  ·subst e
   simp only [if_true] at hi ⊢
   by_cases ei : i < ((N.F k).B x).n
   ·rw [hI i ei]; exact h.sym.ins k hk x hx' i ei
   ·obtain rfl : i = ((N.F k).B x).n := by omega
    rw [hI2]
    exact ⟨Int.le_refl _, by show (0 : Int) < symN N 30; unfold symN; simp⟩
  ·simp only [if_neg e] at hi ⊢
   exact h.sym.ins k hk x hx' i hi
 ·have q := ((hf k hk).1 j (by rw [set_at]; exact hj)).2.1 (((N.F k).B j).n - 1) (by rw [set_at]; simp only [if_true]; omega)
  rw [set_at] at q
  have q1 := q.1
  simp only [if_true] at q1
  rw [hI _ (by omega), hs] at q1
  have q2 := ((fl.1 j hj).2.1 (((N.F k).B j).n - 1) (by omega)).1
  rw [q2] at q1
  have e1 : decide (((N.F k).B j).n - 1 = ((N.F k).B j).n - 1) = true := by simp
  have e2 : decide (((N.F k).B j).n - 1 = ((N.F k).B j).n + 1 - 1) = false := by simp; omega
  rw [e1, e2] at q1
  cases q1

abbrev addB (F : FV) (s r : Sl) (A J : Nat → Nat → Int) : FV := { F with blk := s, B := fun x => if x = F.blk.n then r else F.B x, I := fun x => if x = F.blk.n then (fun _ => stopI) else F.I x, A := fun x => if x = F.blk.n then A else F.A x, J := fun x => if x = F.blk.n then J else F.J x }

theorem nxt_mem {n : Nat} {f : Nat → Int} : ∀ {k x : Nat}, x ∈ nxt n f k → ∃ i, i < k ∧ f i = (x : Int)
 | 0, x, h => by simp [nxt] at h
 | k + 1, x, h => by
  rw [nxt] at h
  split at h
  ·rename_i g
   rcases List.mem_append.1 h with q | q
   ·obtain ⟨i, hi, e⟩ := nxt_mem q
    exact ⟨i, by omega, e⟩
   ·have : x = (f k).toNat := by simpa using q
    exact ⟨k, by omega, by omega⟩
  ·obtain ⟨i, hi, e⟩ := nxt_mem h
   exact ⟨i, by omega, e⟩

theorem err_alone {N : MV} (h : FitM N) (hx : SmallX N) {k : Nat} (hk : k < N.fns.n) {s r : Sl} {A J : Nat → Nat → Int} (hs : s.n = (N.F k).blk.n + 1) (hr : r.n = 1) :
  errM (setF N k (addB (N.F k) s r A J)) = 5 := by
 have l := h.lim.fnI k hk
 have l16 := (hx.1 k hk).1
 have hz2 : fsize (N.F k) ≤ 90 := (hx.1 k hk).2
 have fl := h.flow k hk
 have hz : fsize (addB (N.F k) s r A J) = fsize (N.F k) + 1 := by
  show cnt (fun x => (if x = (N.F k).blk.n then r else (N.F k).B x).n) s.n = _
  rw [hs, cnt]
  have e : cnt (fun x => (if x = (N.F k).blk.n then r else (N.F k).B x).n) (N.F k).blk.n = fsize (N.F k) := Own.cnt_eq fun t ht => by rw [if_neg (by omega)]
  rw [e]
  simp only [if_true]
  omega
 refine err_flow (lim_set h.lim ⟨l.par, by show 1 ≤ s.n; omega, by show s.n ≤ 40; omega, by omega⟩) (form_set h.form ?_) (name_set h.name rfl) (sym_set h.sym ?_) (fun hf => ?_)
 ·obtain ⟨f1, f2, f3⟩ := h.form.fns k hk
  refine ⟨f1, f2, fun x hx' i hi => ?_⟩
  have hx2 : x < s.n := hx'
  by_cases e : x = (N.F k).blk.n
  ·simp only [e, if_true]; exact form_stop
  ·simp only [if_neg e] at hi ⊢
   exact f3 x (by omega) i hi
 ·intro x hx' i hi
  have hx2 : x < s.n := hx'
  by_cases e : x = (N.F k).blk.n
  ·simp only [e, if_true]
   exact ⟨Int.le_refl _, by show (0 : Int) < symN N 30; unfold symN; simp⟩
  ·simp only [if_neg e] at hi ⊢
   exact h.sym.ins k hk x (by omega) i hi
 ·have q := ((hf k hk).2 (N.F k).blk.n (by rw [set_at]; show _ < s.n; omega)).1
  rw [set_at] at q
  have no : ∀ b, (N.F k).blk.n ∉ su (addB (N.F k) s r A J) b := fun b hm => by
   unfold su at hm
   split at hm
   ·rename_i hb
    have hb2 : b < s.n := hb
    by_cases e : b = (N.F k).blk.n
    ·simp only [e, if_true] at hm
     have : (led r (fun _ => stopI)).n = 0 := by
      unfold led
      rw [if_neg (by omega), if_neg (show ¬ ((30 : Int) = 27 ∨ (30 : Int) = 28) by decide)]
     rw [this] at hm
     simp [nxt] at hm
    ·simp only [if_neg e] at hm
     obtain ⟨i, hi, ei⟩ := nxt_mem hm
     have hbn : b < (N.F k).blk.n := by omega
     have hB := fl.1 b hbn
     have hi2 : i < ((N.F k).I b (((N.F k).B b).n - 1)).into.n := by
      unfold led at hi
      split at hi
      ·exact absurd hi (Nat.not_lt_zero _)
      ·split at hi
       ·exact hi
       ·exact absurd hi (Nat.not_lt_zero _)
     have := (hB.2.2.1 i hi2).2
     omega
   ·simp at hm
  have way : ∀ c, Flo.Way (su (addB (N.F k) s r A J)) 0 c → c ≠ (N.F k).blk.n := fun c hw e => by
   cases hw with
   | refl => have := l.one; omega
   | step _ hm => exact no _ (e ▸ hm)
  exact way _ q rfl

abbrev loadI (t : Int) (a : Sl) : IV := ⟨20, 1, t, 0, 0, a, ⟨none, 0, 0⟩⟩

theorem form_load {t : Int} (ht : 1 ≤ t) {a : Sl} (ha : a.n = 1) : formB (loadI t a) = true := by
 unfold formB swB
 simp [mk, endB, ha]
 omega

theorem err_front {N : MV} (h : FitM N) (hx : SmallX N) {k j : Nat} (hk : k < N.fns.n) (hj : j < (N.F k).blk.n) {s a : Sl} {A J : Nat → Nat → Int} {I : Nat → IV} {t : Int} (ht : 1 ≤ t) (ha : a.n = 1) (hs : s.n = ((N.F k).B j).n + 1)
  (hI0 : I 0 = loadI t a) (hI : ∀ i, i < ((N.F k).B j).n → I (i + 1) = (N.F k).I j i) (hA0 : A 0 0 = t) (hJ : ∀ i, i < ((N.F k).B j).n → J (i + 1) = (N.F k).J j i) :
  errM (setF N k (setB (N.F k) j s I A J)) = if ((N.F k).I j 0).op = 26 then 5 else 6 := by
 have l := h.lim.fnI k hk
 have hz := size_setB (I := I) (A := A) (J := J) hs
 have hz2 : fsize (N.F k) ≤ 90 := (hx.1 k hk).2
 have fl := h.flow k hk
 have one := (fl.1 j hj).1
 have hl := lim_set (k := k) h.lim (F := setB (N.F k) j s I A J) ⟨l.par, l.one, l.blk, by omega⟩
 have hf := form_set (k := k) h.form (F := setB (N.F k) j s I A J) (by
  obtain ⟨f1, f2, f3⟩ := h.form.fns k hk
  refine ⟨f1, f2, fun x hx' i hi => ?_⟩
  by_cases e : x = j
  ·subst e
   simp only [if_true] at hi ⊢
   cases i with
   | zero => rw [hI0]; exact form_load ht ha
   | succ i => rw [hI i (by omega)]; exact f3 x hx' i (by omega)
  ·simp only [if_neg e] at hi ⊢
   exact f3 x hx' i hi)
 have hn := name_set (k := k) h.name (F := setB (N.F k) j s I A J) rfl
 have hsy := sym_set (k := k) h.sym (F := setB (N.F k) j s I A J) (by
  intro x hx' i hi
  by_cases e : x = j
  ·subst e
   simp only [if_true] at hi ⊢
   cases i with
   | zero => rw [hI0]; exact ⟨Int.le_refl _, by show (0 : Int) < symN N 20; unfold symN; simp⟩
   | succ i => rw [hI i (by omega)]; exact h.sym.ins k hk x hx' i (by omega)
  ·simp only [if_neg e] at hi ⊢
   exact h.sym.ins k hk x hx' i hi)
 by_cases e26 : ((N.F k).I j 0).op = 26
 ·rw [if_pos e26]
  refine err_flow hl hf hn hsy (fun hq => ?_)
  have q := (((hq k hk).1 j (by rw [set_at]; exact hj)).2.1 1 (by rw [set_at]; simp only [if_true]; omega)).2
  rw [set_at] at q
  apply q
  simp only [if_true]
  have e1 := hI 0 (by omega)
  rw [e1, hI0]
  exact ⟨by decide, e26, show (20 : Int) ≠ 26 by decide⟩
 ·rw [if_neg e26]
  have esu : su (setB (N.F k) j s I A J) = su (N.F k) := by
   funext b
   unfold su
   by_cases e : b = j
   ·subst e
    have n0 : s.n ≠ 0 := by omega
    have n1 : ((N.F k).B b).n ≠ 0 := by omega
    have eI : I (s.n - 1) = (N.F k).I b (((N.F k).B b).n - 1) := by
     have := hI (((N.F k).B b).n - 1) (by omega)
     rw [← this]; congr 1; omega
    have eJ : J (s.n - 1) = (N.F k).J b (((N.F k).B b).n - 1) := by
     have := hJ (((N.F k).B b).n - 1) (by omega)
     rw [← this]; congr 1; omega
    have eL : led s I = led ((N.F k).B b) ((N.F k).I b) := by
     unfold led
     rw [if_neg n0, if_neg n1, eI]
    simp only [if_true]
    rw [eL, eJ]
   ·simp only [if_neg e]
  have epv : ∀ n b, pvL (setB (N.F k) j s I A J) n b = pvL (N.F k) n b := fun n b => by unfold pvL; rw [esu]
  refine err_use hl hf hn hsy (fun i hi => ?_) (fun hq => ?_)
  ·by_cases ei : i = k
   ·subst ei
    rw [set_at]
    refine ⟨fun b hb => ?_, fun b hb => ?_⟩
    ·have hB := fl.1 b hb
     by_cases e : b = j
     ·subst e
      have eI : I (s.n - 1) = (N.F i).I b (((N.F i).B b).n - 1) := by
       have := hI (((N.F i).B b).n - 1) (by omega)
       rw [← this]; congr 1; omega
      have eJ : J (s.n - 1) = (N.F i).J b (((N.F i).B b).n - 1) := by
       have := hJ (((N.F i).B b).n - 1) (by omega)
       rw [← this]; congr 1; omega
      refine ⟨by simp only [if_true]; omega, fun x hx' => ?_, ?_⟩
      ·simp only [if_true] at hx'
       unfold FlowI
       simp only [if_true]
       cases x with
       | zero =>
        rw [hI0]
        refine ⟨?_, fun q => absurd q.1 (Nat.lt_irrefl _)⟩
        have : decide (0 = s.n - 1) = false := by simp; omega
        rw [this]; rfl
       | succ x =>
        obtain ⟨q1, q2⟩ := hB.2.1 x (by omega)
        rw [hI x (by omega)]
        refine ⟨by rw [q1]; congr 1; simp only [eq_iff_iff]; omega, fun q => ?_⟩
        obtain ⟨_, p1, p2⟩ := q
        cases x with
        | zero => exact e26 p1
        | succ x =>
         apply q2
         have e3 : x + 1 + 1 - 1 = x + 1 := rfl
         rw [e3, hI x (by omega)] at p2
         exact ⟨by omega, p1, p2⟩
      ·unfold FlowE
       simp only [if_true]
       rw [eI, eJ]
       exact hB.2.2
     ·obtain ⟨b1, b2, b3⟩ := hB
      refine ⟨by simp only [if_neg e]; exact b1, fun x hx' => ?_, ?_⟩
      ·simp only [if_neg e] at hx'
       have := b2 x hx'
       unfold FlowI at this ⊢
       simp only [if_neg e]
       exact this
      ·unfold FlowE at b3 ⊢
       simp only [if_neg e]
       exact b3
    ·obtain ⟨r1, r2⟩ := fl.2 b hb
     refine ⟨by rw [esu]; exact r1, fun x hx' => ?_⟩
     by_cases e : b = j
     ·subst e
      simp only [if_true] at hx'
      unfold FlowP
      simp only [if_true]
      rw [epv]
      cases x with
      | zero => rw [hI0]; intro q; exact absurd q (show ¬ (20 : Int) = 26 by decide)
      | succ x =>
       rw [hI x (by omega), hJ x (by omega)]
       exact r2 x (by omega)
     ·simp only [if_neg e] at hx'
      have := r2 x hx'
      unfold FlowP at this ⊢
      simp only [if_neg e]
      rw [epv]
      exact this
   ·have hi' : i < N.fns.n := hi
    simp only [if_neg ei]
    exact h.flow i hi'
  ·have hu := hq k hk
   rw [set_at] at hu
   have hj' : j < (setB (N.F k) j s I A J).blk.n := hj
   have h0 : 0 < ((setB (N.F k) j s I A J).B j).n := by simp only [if_true]; omega
   have eV : (setB (N.F k) j s I A J).I j 0 = loadI t a := by simp only [if_true]; exact hI0
   have eA : (setB (N.F k) j s I A J).A j 0 0 = t := by simp only [if_true]; exact hA0
   have q1 := hu.1 j hj' 0 h0
   unfold ToI at q1
   rw [eV] at q1
   have q2 := q1 (show (1 : Int) ≠ 0 by decide)
   have q3 := hu.2 j hj' 0 h0 0 (by rw [eV]; show 0 < a.n; omega)
   have q4 := q3.2.2 j 0 hj' h0 (by rw [eV]; exact (show (1 : Int) ≠ 0 by decide)) (by rw [eA]; exact q2)
   unfold There at q4
   rw [eV, if_neg (show ¬ (20 : Int) = 26 by decide)] at q4
   rcases q4 with ⟨_, q⟩ | ⟨q, _⟩
   ·exact Nat.lt_irrefl _ q
   ·exact q rfl

open Own

theorem sep_of_grm {M : MV} {w : World} {s1 s2 s3 s4 : Sl} {X1 X2 X3 X4 : Nat} {t1 t2 t3 : Nat → Sl} {t4 : Nat → FV} (hs : SmallM M) (h : GrM M w s1 s2 s3 s4 X1 X2 X3 X4 t1 t2 t3 t4) :
  Sep X4 w (growN M s1 s2 s3 s4 t1 t2 t3 t4) ∧ ∀ i, i < s4.n → Caps w (t4 i) := by
 have m1 := hs.ext
 have m2 := hs.glo
 have m3 := hs.tab
 have m4 := hs.fns
 have x12 := h.x12
 have x23 := h.x23
 have x34 := h.x34
 have n4 : s4.n = M.fns.n := own_len h.g4.own
 refine ⟨⟨h.x4, fun w' hz hk => ?_, fun i hi => ?_, fun i j hi hj hne b h1 h2 => ?_, fun h0 => ?_⟩, fun i hi => (h.g4.el i (by omega)).2⟩
 ·have e1 := h.g1.keep2 (w' := w') (elS_stable _ _ _) hz (fun b hb => hk b (by have := bl_up h.u1 hb; omega))
  have e2 := h.g2.keep2 (w' := w') (elS_stable _ _ _) hz (fun b hb => hk b (by have := bl_up h.u2 hb; omega))
  have e3 := h.g3.keep2 (w' := w') (elS_stable _ _ _) hz (fun b hb => hk b (by have := bl_up h.u3 hb; omega))
  obtain ⟨n1, r1⟩ := grow_row (p := EAt) (f := fun i => (⟨(M.E i).name, t1 i, (M.E i).res⟩ : EV)) e1 (by omega) (fun _ _ => rfl) (fun g i hi h => ⟨h 0 (by decide), h 1 (by decide), h 2 (by decide)⟩)
  obtain ⟨n2, r2⟩ := grow_row (p := GAt) (f := fun i => (⟨(M.G i).name, t2 i⟩ : GV)) e2 (by omega) (fun _ _ => rfl) (fun g i hi h => ⟨h 0 (by decide), h 1 (by decide)⟩)
  obtain ⟨n3, r3⟩ := grow_row (p := GAt) (f := fun i => (⟨(M.T i).name, t3 i⟩ : GV)) e3 (by omega) (fun _ _ => rfl) (fun g i hi h => ⟨h 0 (by decide), h 1 (by decide)⟩)
  exact ⟨⟨r1, fun i hi => (e1.el i (by rw [← n1]; exact hi)).2.1⟩, ⟨r2, fun i hi => (e2.el i (by rw [← n2]; exact hi)).2.1⟩, ⟨r3, fun i hi => (e3.el i (by rw [← n3]; exact hi)).2.1⟩⟩
 ·obtain ⟨at_, h1, _, _⟩ := (h.g4.el i (by rw [← n4]; exact hi)).1
  exact ⟨at_, h1⟩
 ·exact h.g4.dis i j (by rw [← n4]; exact hi) (by rw [← n4]; exact hj) hne b h1 h2
 ·have h0' : 0 < s4.n := h0
  rcases h.g4.own.2 with ⟨e, hn⟩ | ⟨g, cap, cur, e, hbg, hg, hnc, hm, hsz, ht⟩
  ·omega
  ·have e' : s4.a = some ⟨g, 0, none⟩ := by
    have := e
    simp [slv] at this
    exact this.1
   refine ⟨g, e', hbg, (Array.getElem?_eq_some_iff.1 hg).1, fun i => ?_, fun i hi hf => ?_⟩
   ·unfold World.frozen?
    simp [hg]
   ·have := (h.g4.fp i (by rw [← n4]; exact hi) g hf).2.2
    apply this
    show some g = Value.ownBlock (.slice s4.a s4.n s4.c)
    rw [e']; rfl

theorem inM_any {X : Nat} {w w' : World} {N : MV} (sp : Sep X w N) (hN : InM w N) {k : Nat} (hk : k < N.fns.n) {g : Nat} (hg : N.fns.a = some ⟨g, 0, none⟩) (hz : w.heap.size ≤ w'.heap.size)
  (hb : ∀ b, b < w.heap.size → ¬ FpF (N.F k) b → b ≠ g → w'.heap[b]? = w.heap[b]?) {F : FV} (hrow : ∀ i, i < N.fns.n → FAt w' g (i * 5) ((setF N k F).F i)) (hF : In w' F) : InM w' (setF N k F) := by
 obtain ⟨at_, own⟩ := sp.own k hk
 obtain ⟨g', a1, a2, a3, a4, a5⟩ := sp.fns (by omega)
 obtain rfl : g' = g := by have := a1.symm.trans hg; simpa using this
 have le := sp.le
 obtain ⟨⟨l1, l2⟩, ⟨l3, l4⟩, l5, l6⟩ := sp.low w' hz (fun b hlt => hb b (by omega) (fun hf => by have := (fpF_in own b hf).1; omega) (by omega))
 refine ⟨l1, l2, l3, l4, l5, l6, ⟨hN.fns.1, hN.fns.2.1, hN.fns.2.2.1, fun h0 => ⟨g', 0, hg, fun i hi => ?_⟩⟩, fun i hi => ?_⟩
 ·rw [Nat.zero_add]; exact hrow i hi
 ·by_cases ei : i = k
  ·subst ei
   rw [setF_same]
   exact hF
  ·rw [setF_other N F ei]
   obtain ⟨at2, own2⟩ := sp.own i hi
   refine (own_fp own2 hz (fun b hf hlt => hb b hlt (fun hk' => sp.dis i k hi hk ei b hf hk') (fun e => a5 i hi (e ▸ hf)))).inn

theorem rows_same {w w' : World} {N : MV} (hN : InM w N) {k g : Nat} (hg : N.fns.a = some ⟨g, 0, none⟩) (e : w'.heap[g]? = w.heap[g]?) {F : FV} (e1 : F.name = (N.F k).name) (e2 : F.out = (N.F k).out) (e3 : F.par = (N.F k).par) (e4 : F.res = (N.F k).res) (e5 : F.blk = (N.F k).blk) :
  ∀ i, i < N.fns.n → FAt w' g (i * 5) ((setF N k F).F i) := fun i hi => by
 obtain ⟨b, off, ha, hc⟩ := hN.fns.2.2.2 (by omega)
 have q := hg.symm.trans ha
 simp at q
 obtain ⟨rfl, rfl⟩ := q
 have hci := hc i hi
 rw [Nat.zero_add] at hci
 have co : ∀ {r : Nat} {u : Value}, w.cell? ⟨g, r, none⟩ = some u → w'.cell? ⟨g, r, none⟩ = some u := fun h => by rw [World.cell?_of_block (w := w) e]; exact h
 by_cases ei : i = k
 ·subst ei
  rw [setF_same]
  exact ⟨by rw [e1]; exact co hci.c0, by rw [e2]; exact co hci.c1, by rw [e3]; exact co hci.c2, by rw [e4]; exact co hci.c3, by rw [e5]; exact co hci.c4⟩
 ·rw [setF_other N F ei]
  exact ⟨co hci.c0, co hci.c1, co hci.c2, co hci.c3, co hci.c4⟩

theorem par_ne {base : Nat} {w : World} {F : FV} {at_ : Own.Id → Nat} (h : Own base w F at_) (h1 : 0 < F.par.n) (h2 : 0 < F.blk.n) : blkOf F.par ≠ blkOf F.blk := fun e => by
 obtain ⟨a1, _⟩ := mine_blk h.pm h1
 obtain ⟨a2, _⟩ := mine_blk h.bm h2
 obtain ⟨b, o, q1, c1⟩ := h.inn.par.2.2.2 h1
 obtain ⟨b', o', q2, c2⟩ := h.inn.blk.2.2.2 h2
 rw [a1] at q1
 rw [a2] at q2
 obtain ⟨rfl, rfl⟩ : blkOf F.par = b ∧ 0 = o := by simpa using q1
 obtain ⟨rfl, rfl⟩ : blkOf F.blk = b' ∧ 0 = o' := by simpa using q2
 have x := c1 0 h1
 have y := c2 0 h2
 rw [e] at x
 rw [x] at y
 simp at y

theorem keep_ints {w w' : World} {s : Sl} {f : Nat → Int} {b : Nat} (h : Ints w s f) (ha : 0 < s.n → s.a = some ⟨b, 0, none⟩) (hb : 0 < s.n → w'.heap[b]? = w.heap[b]?) : Ints w' s f :=
 ⟨h.1, h.2.1, h.2.2.1, fun h0 => by
  obtain ⟨b', off, e, hc⟩ := h.2.2.2 h0
  have q := (ha h0).symm.trans e
  simp at q
  obtain ⟨rfl, rfl⟩ := q
  exact ⟨b, 0, ha h0, fun i hi => by rw [World.cell?_of_block (w := w) (hb h0)]; exact hc i hi⟩⟩

theorem keep_inss {w w' : World} {s : Sl} {f : Nat → IV} {b : Nat} (h : Inss w s f) (ha : 0 < s.n → s.a = some ⟨b, 0, none⟩) (hb : 0 < s.n → w'.heap[b]? = w.heap[b]?) : Inss w' s f :=
 ⟨h.1, h.2.1, h.2.2.1, fun h0 => by
  obtain ⟨b', off, e, hc⟩ := h.2.2.2 h0
  have q := (ha h0).symm.trans e
  simp at q
  obtain ⟨rfl, rfl⟩ := q
  refine ⟨b, 0, ha h0, fun i hi => ?_⟩
  have hi' := hc i hi
  have co : ∀ {r : Nat} {u : Value}, w.cell? ⟨b, r, none⟩ = some u → w'.cell? ⟨b, r, none⟩ = some u := fun h => by rw [World.cell?_of_block (w := w) (hb h0)]; exact h
  exact ⟨co hi'.c0, co hi'.c1, co hi'.c2, co hi'.c3, co hi'.c4, co hi'.c5, co hi'.c6⟩⟩

theorem in_setB {base : Nat} {w w' : World} {F : FV} {at_ : Own.Id → Nat} (h : Own base w F at_) {j : Nat} (hj : j < F.blk.n) {s : Sl} {I : Nat → IV} {A J : Nat → Nat → Int}
  (hb : ∀ b, b < w.heap.size → b ≠ at_ (.row j) → b ≠ blkOf F.blk → w'.heap[b]? = w.heap[b]?)
  (hc : ∀ x, x < F.blk.n → x ≠ j → w'.cell? ⟨blkOf F.blk, x, none⟩ = w.cell? ⟨blkOf F.blk, x, none⟩) (hcj : w'.cell? ⟨blkOf F.blk, j, none⟩ = some (.slice s.a s.n s.c))
  (hI : Inss w' s I) (hA : ∀ i, i < s.n → Ints w' (I i).args (A i)) (hJ : ∀ i, i < s.n → Ints w' (I i).into (J i)) (h0j : 0 < (F.B j).n) : In w' (setB F j s I A J) := by
 obtain ⟨ab, _⟩ := mine_blk h.bm (by omega)
 have nb : ∀ x, has F x → 0 < (sl F x).n → at_ x ≠ blkOf F.blk := fun x hx h0 e => h.blk x hx h0 _ 0 ab (by omega) e.symm
 have nr : ∀ x, has F x → 0 < (sl F x).n → x ≠ .row j → at_ x ≠ at_ (.row j) := fun x hx h0 hne e => hne (h.sep x (.row j) hx hj h0 h0j e)
 refine ⟨?_, ?_, fun x hx => ?_, fun x hx i hi => ?_, fun x hx i hi => ?_⟩
 ·refine keep_ints (b := blkOf F.par) h.inn.par (fun h0 => (mine_blk h.pm h0).1) (fun h0 => hb _ (mine_blk h.pm h0).2.2.1 (fun e => ?_) (par_ne h h0 (by omega)))
  exact h.par (.row j) hj h0j _ 0 (mine_blk h.pm h0).1 h0 e
 ·refine ⟨h.inn.blk.1, h.inn.blk.2.1, h.inn.blk.2.2.1, fun h0 => ⟨blkOf F.blk, 0, ab, fun x hx => ?_⟩⟩
  obtain ⟨b', off, e, hcc⟩ := h.inn.blk.2.2.2 h0
  have q := ab.symm.trans e
  simp at q
  obtain ⟨rfl, rfl⟩ := q
  rw [Nat.zero_add]
  show _ = some (Value.slice (if x = j then s else F.B x).a (if x = j then s else F.B x).n (if x = j then s else F.B x).c)
  by_cases ex : x = j
  ·subst ex
   rw [if_pos rfl]; exact hcj
  ·rw [if_neg ex, hc x hx ex]
   have := hcc x hx
   rwa [Nat.zero_add] at this
 ·show Inss w' (if x = j then s else F.B x) (if x = j then I else F.I x)
  by_cases ex : x = j
  ·rw [if_pos ex, if_pos ex]; exact hI
  ·rw [if_neg ex, if_neg ex]
   refine keep_inss (b := at_ (.row x)) (h.inn.ins x hx) (fun h0 => h.adr (.row x) hx h0) (fun h0 => hb _ (h.lt (.row x) hx h0) (nr (.row x) hx h0 (fun e => ex (by cases e; rfl))) (nb (.row x) hx h0))
 ·by_cases ex : x = j
  ·subst ex
   simp only [if_true] at hi ⊢
   exact hA i hi
  ·simp only [if_neg ex] at hi ⊢
   refine keep_ints (b := at_ (.arg x i)) (h.inn.args x hx i hi) (fun h0 => h.adr (.arg x i) ⟨hx, hi⟩ h0) (fun h0 => hb _ (h.lt (.arg x i) ⟨hx, hi⟩ h0) (nr (.arg x i) ⟨hx, hi⟩ h0 (fun e => by cases e)) (nb (.arg x i) ⟨hx, hi⟩ h0))
 ·by_cases ex : x = j
  ·subst ex
   simp only [if_true] at hi ⊢
   exact hJ i hi
  ·simp only [if_neg ex] at hi ⊢
   refine keep_ints (b := at_ (.int x i)) (h.inn.into x hx i hi) (fun h0 => h.adr (.int x i) ⟨hx, hi⟩ h0) (fun h0 => hb _ (h.lt (.int x i) ⟨hx, hi⟩ h0) (nr (.int x i) ⟨hx, hi⟩ h0 (fun e => by cases e)) (nb (.int x i) ⟨hx, hi⟩ h0))

theorem owns_room {base : Nat} {w : World} {s : Sl} {ty z : Nat} (hr : Room w s ty z) (h0 : 0 < s.n) (hm : Mine base w.heap.size w s) (hc : s.n ≤ s.c) :
  ∃ cur : Array Value, w.heap[blkOf s]? = some (.cells cur ty (0, 0)) ∧ w.ownsRow base ty z (slv s) s.n (cur.toList.take (s.n * z)) := by
 obtain ⟨cur, h1, h2, h3⟩ := hr h0
 obtain ⟨a1, a2, _⟩ := mine_blk hm h0
 refine ⟨cur, h1, ?_, .inr ⟨blkOf s, s.c, cur, by show Value.slice s.a s.n s.c = _; rw [a1], a2, h1, hc, h3, h2, rfl⟩⟩
 have : s.n * z ≤ s.c * z := Nat.mul_le_mul_right z hc
 simp only [List.length_take, Array.length_toList]
 omega

theorem row_app {base : Nat} {w w4 : World} {s s' : Sl} {ty z : Nat} {cur : Array Value} {news : List Value} (hz : news.length = z) (h1 : w.heap[blkOf s]? = some (.cells cur ty (0, 0))) (h0 : 0 < s.n) (own4 : w4.ownsRow base ty z (slv s') (s.n + 1) (cur.toList.take (s.n * z) ++ news)) (hlen : (cur.toList.take (s.n * z)).length = s.n * z) :
  s'.n = s.n + 1 ∧ s'.n ≤ s'.c ∧ s'.a = some ⟨blkOf s', 0, none⟩ ∧ (slv s').ownBlock = some (blkOf s') ∧ (∀ q, q < s.n * z → w4.cell? ⟨blkOf s', q, none⟩ = w.cell? ⟨blkOf s, q, none⟩) ∧ (∀ q, q < z → w4.cell? ⟨blkOf s', s.n * z + q, none⟩ = news[q]?) ∧ base ≤ blkOf s' := by
 have hn := own_len own4
 obtain ⟨a, n', c⟩ := s'
 simp only at hn
 subst hn
 rcases own4.2 with ⟨e, _⟩ | ⟨g, cap, cur', e, hb, hg, hnc, hm, hs, ht⟩
 ·simp [slv] at e
 ·simp [slv] at e
  obtain ⟨rfl, rfl⟩ := e
  have eb : blkOf ⟨some ⟨g, 0, none⟩, s.n + 1, c⟩ = g := rfl
  rw [eb]
  have ha := fun q hq => own4.cellAt (g := g) (cap := c) q hq
  have hlt : s.n * z + z = (s.n + 1) * z := by rw [Nat.succ_mul]
  refine ⟨rfl, hnc, rfl, rfl, fun q hq => ?_, fun q hq => ?_, hb⟩
  ·rw [ha q (by show q < (s.n + 1) * z; rw [← hlt]; omega), List.getElem?_append_left (by omega), cell_of_row w _ q cur ty (0, 0) h1]
   rw [List.getElem?_take, if_pos hq]
   simp
  ·rw [ha (s.n * z + q) (by show s.n * z + q < (s.n + 1) * z; rw [← hlt]; omega), List.getElem?_append_right (by omega), hlen]
   congr 1
   omega

theorem underIn : Tryz.prog.underlying 38 = some (.slice 43) := by kernel_rfl
theorem infoIn : (Tryz.prog.info? 43).map (fun i => (i.zero, i.size, i.bytes)) = some (some IV.zero.val, 7, 88) := by kernel_rfl
theorem underBk : Tryz.prog.underlying 34 = some (.slice 40) := by kernel_rfl
theorem infoBk : (Tryz.prog.info? 40).map (fun i => (i.zero, i.size, i.bytes)) = some (some (.agg #[.slice none 0 0]), 1, 24) := by kernel_rfl

theorem one7 (v : IV) : ∀ u ∈ v.cells.toList, u.oneCell' = true := by
 intro u hu
 simp at hu
 rcases hu with rfl | rfl | rfl | rfl | rfl | rfl | rfl <;> rfl

structure Spd (X V : Nat) (W w5 : World) (N' : MV) : Prop where
 inm : InM w5 N'
 low : Below X W w5
 box : V < W.heap.size → w5.heap[V]? = W.heap[V]?

theorem mem_behind {X V : Nat} {W : World} {N : MV} (sp : Sep X W N) (hN : InM W N) (hs : SmallM N) {k j : Nat} (hk : k < N.fns.n) (hj : j < (N.F k).blk.n) (h0 : 0 < ((N.F k).B j).n) (cp : Caps W (N.F k)) (hV : ¬ FpF (N.F k) V) :
  ∃ s' w4 gB I A J, (N.F k).blk.a = some ⟨gB, 0, none⟩ ∧ (Builtin.append_ #[38, 38] 38 #[slv ((N.F k).B j), .slice (some ⟨W.heap.size, 0, none⟩) 1 1]).run Tryz.prog (W.alloc (.cells stopI.cells 43)) = .ok (slv s') w4 ∧
   w4.cell? ⟨gB, j, none⟩ = some (slv ((N.F k).B j)) ∧ w4.frozen? ⟨gB, j, none⟩ = false ∧ s'.n = ((N.F k).B j).n + 1 ∧ (∀ i, i < ((N.F k).B j).n → I i = (N.F k).I j i ∧ J i = (N.F k).J j i) ∧ I ((N.F k).B j).n = stopI ∧ J ((N.F k).B j).n = (fun _ => 0) ∧
   Spd X V W (w4.setCell ⟨gB, j, none⟩ (slv s')) (setF N k (setB (N.F k) j s' I A J)) := by
 obtain ⟨at_, own⟩ := sp.own k hk
 have hl := hs.light k hk
 have hn := hl.ins j hj
 have e0 : ((N.F k).B j).a = some ⟨at_ (.row j), 0, none⟩ := own.adr (.row j) hj h0
 have eb : blkOf ((N.F k).B j) = at_ (.row j) := blkOf_eq e0
 have hge := own.ge (.row j) hj h0
 have hlt := own.lt (.row j) hj h0
 have mr : Mine X W.heap.size W ((N.F k).B j) := fun _ => ⟨at_ (.row j), e0, hge, hlt, own.fz (.row j) hj h0⟩
 have hrc := (own.inn.ins j hj).1
 obtain ⟨cur, hcur, ow⟩ := owns_room (cp.2 j hj) h0 mr hrc
 obtain ⟨v', w4, hrun, own4, gr4, hat4⟩ := app_gen (w2 := W) underIn infoIn rfl (by decide) (by decide) ow (by omega) sp.le stopI.cells rfl (one7 _) 38
 obtain ⟨s', rfl⟩ := owns_slv own4
 obtain ⟨n1, n2, n3, n4, n5, n6, n7⟩ := row_app (z := 7) rfl hcur h0 own4 ow.1
 obtain ⟨ab, bge, blt, bfz⟩ := mine_blk own.bm (by omega)
 have nbr : blkOf (N.F k).blk ≠ at_ (.row j) := own.blk (.row j) hj h0 _ 0 ab (by omega)
 have ho : (slv ((N.F k).B j)).ownBlock = some (at_ (.row j)) := by show Value.ownBlock (.slice ((N.F k).B j).a _ _) = _; rw [e0]; rfl
 have kb : ∀ b, b < W.heap.size → b ≠ at_ (.row j) → w4.heap[b]? = W.heap[b]? := fun b hb hne => by
  rw [gr4.block b (by simp; omega) (by rw [ho]; intro e; exact hne (Option.some.inj e)), Below.heap_alloc _ _ _ hb]
 have kc : ∀ b, b ≠ blkOf (N.F k).blk → (w4.setCell ⟨blkOf (N.F k).blk, j, none⟩ (slv s')).heap[b]? = w4.heap[b]? := fun b hb => Below.heap_setCell _ _ _ _ hb
 have z4 := gr4.size
 simp only [World.size_alloc] at z4
 have sne : blkOf s' ≠ blkOf (N.F k).blk := by
  rcases hat4 with q | q
  ·rw [n4, ho] at q; have := Option.some.inj q; omega
  ·rw [n4] at q; have := Option.some.inj q; omega
 have hcb : W.cell? ⟨blkOf (N.F k).blk, j, none⟩ = some (slv ((N.F k).B j)) := by
  obtain ⟨b', off, e, hcc⟩ := own.inn.blk.2.2.2 (by omega)
  have q := ab.symm.trans e
  simp at q
  obtain ⟨rfl, rfl⟩ := q
  have := hcc j hj
  rwa [Nat.zero_add] at this
 have hc4 : w4.cell? ⟨blkOf (N.F k).blk, j, none⟩ = some (slv ((N.F k).B j)) := by rw [World.cell?_of_block (w := W) (kb _ blt nbr)]; exact hcb
 obtain ⟨g, hg, hgX, hgl, hgz, hgf⟩ := sp.fns (by omega)
 have nrow : ∀ x, has (N.F k) x → 0 < (sl (N.F k) x).n → x ≠ .row j → at_ x ≠ at_ (.row j) := fun x hx hx0 hne e => hne (own.sep x (.row j) hx hj hx0 h0 e)
 have nblk : ∀ x, has (N.F k) x → 0 < (sl (N.F k) x).n → at_ x ≠ blkOf (N.F k).blk := fun x hx hx0 e => own.blk x hx hx0 _ 0 ab (by omega) e.symm
 have ka : ∀ x, has (N.F k) x → 0 < (sl (N.F k) x).n → x ≠ .row j → (w4.setCell ⟨blkOf (N.F k).blk, j, none⟩ (slv s')).heap[at_ x]? = W.heap[at_ x]? := fun x hx hx0 hne => by
  rw [kc _ (nblk x hx hx0), kb _ (own.lt x hx hx0) (nrow x hx hx0 hne)]
 have fpr : FpF (N.F k) (at_ (.row j)) := .inl ⟨.row j, hj, h0, eb.symm⟩
 have fpb : FpF (N.F k) (blkOf (N.F k).blk) := .inr (.inr ⟨by omega, rfl⟩)
 refine ⟨s', w4, blkOf (N.F k).blk, fun i => if i < ((N.F k).B j).n then (N.F k).I j i else stopI, fun i => if i < ((N.F k).B j).n then (N.F k).A j i else fun _ => 0, fun i => if i < ((N.F k).B j).n then (N.F k).J j i else fun _ => 0, ab, hrun, hc4,
  by rw [World.frozen?_of_block (w := W) (kb _ blt nbr)]; exact bfz j, n1, fun i hi => ⟨if_pos hi, if_pos hi⟩, if_neg (Nat.lt_irrefl _), if_neg (Nat.lt_irrefl _), ?_⟩
 have cr : ∀ q, (w4.setCell ⟨blkOf (N.F k).blk, j, none⟩ (slv s')).cell? ⟨blkOf s', q, none⟩ = w4.cell? ⟨blkOf s', q, none⟩ := fun q => World.cell?_of_block (w := w4) (kc _ sne)
 refine ⟨inM_any sp hN hk hg (by rw [World.size_setCell]; omega) (fun b hb hnf hng => ?_) (rows_same hN hg ?_ rfl rfl rfl rfl rfl) (in_setB own hj (fun b hb h1 h2 => ?_) (fun x hx hne => ?_) (cell_same hc4) ?_ (fun i hi => ?_) (fun i hi => ?_) h0), ?_, fun hVl => ?_⟩
 ·rw [kc b (fun e => hnf (e ▸ fpb)), kb b hb (fun e => hnf (e ▸ fpr))]
 ·rw [kc g (fun e => hgf k hk (e ▸ fpb)), kb g hgl (fun e => hgf k hk (e ▸ fpr))]
 ·rw [kc b h2, kb b hb h1]
 ·rw [World.cell?_setCell_other (h := ne_off (by omega)), World.cell?_of_block (w := W) (kb _ blt nbr)]
 ·refine ⟨n2, by rw [n1]; omega, fun e => (by rw [n3] at e; cases e), fun _ => ⟨blkOf s', 0, n3, fun i hi => ?_⟩⟩
  by_cases ei : i < ((N.F k).B j).n
  ·simp only [if_pos ei]
   obtain ⟨b', off, e, hcc⟩ := (own.inn.ins j hj).2.2.2 h0
   have q := e0.symm.trans e
   simp at q
   obtain ⟨rfl, rfl⟩ := q
   have hi' := hcc i ei
   rw [Nat.zero_add] at hi' ⊢
   have co : ∀ {c : Nat} {u : Value}, c < 7 → W.cell? ⟨at_ (.row j), i * 7 + c, none⟩ = some u → (w4.setCell ⟨blkOf (N.F k).blk, j, none⟩ (slv s')).cell? ⟨blkOf s', i * 7 + c, none⟩ = some u := fun hc h => by
    rw [cr, n5 _ (by omega), eb]; exact h
   exact ⟨co (c := 0) (by omega) hi'.c0, co (by omega) hi'.c1, co (by omega) hi'.c2, co (by omega) hi'.c3, co (by omega) hi'.c4, co (by omega) hi'.c5, co (by omega) hi'.c6⟩
  ·simp only [if_neg ei]
   obtain rfl : i = ((N.F k).B j).n := by omega
   rw [Nat.zero_add]
   have co : ∀ {c : Nat} {u : Value}, c < 7 → stopI.cells.toList[c]? = some u → (w4.setCell ⟨blkOf (N.F k).blk, j, none⟩ (slv s')).cell? ⟨blkOf s', ((N.F k).B j).n * 7 + c, none⟩ = some u := fun hc h => by
    rw [cr, n6 _ hc]; exact h
   exact ⟨co (c := 0) (by omega) rfl, co (by omega) rfl, co (by omega) rfl, co (by omega) rfl, co (by omega) rfl, co (by omega) rfl, co (by omega) rfl⟩
 ·by_cases ei : i < ((N.F k).B j).n
  ·simp only [if_pos ei]
   exact keep_ints (b := at_ (.arg j i)) (own.inn.args j hj i ei) (fun h => own.adr (.arg j i) ⟨hj, ei⟩ h) (fun h => ka (.arg j i) ⟨hj, ei⟩ h (fun e => by cases e))
  ·simp only [if_neg ei]
   exact ⟨Nat.le_refl _, Nat.zero_le _, fun _ => rfl, fun h => absurd h (Nat.lt_irrefl _)⟩
 ·by_cases ei : i < ((N.F k).B j).n
  ·simp only [if_pos ei]
   exact keep_ints (b := at_ (.int j i)) (own.inn.into j hj i ei) (fun h => own.adr (.int j i) ⟨hj, ei⟩ h) (fun h => ka (.int j i) ⟨hj, ei⟩ h (fun e => by cases e))
  ·simp only [if_neg ei]
   exact ⟨Nat.le_refl _, Nat.zero_le _, fun _ => rfl, fun h => absurd h (Nat.lt_irrefl _)⟩
 ·refine Below.setCell ?_ (by show X ≤ blkOf (N.F k).blk; exact bge) _
  exact ((Below.refl X W).alloc sp.le _).grown gr4 (by simp; have := sp.le; omega) (fun q hq => by rw [ho] at hq; have := Option.some.inj hq; omega)
 ·rw [kc V (fun e => hV (e ▸ fpb)), kb V hVl (fun e => hV (e ▸ fpr))]

set_option maxHeartbeats 1000000 in

theorem mem_alone {X V : Nat} {W : World} {N : MV} (sp : Sep X W N) (hN : InM W N) (hs : SmallM N) {k : Nat} (hk : k < N.fns.n) (h0 : 0 < (N.F k).blk.n) (cp : Caps W (N.F k)) (hV : ¬ FpF (N.F k) V) {g : Nat} (hg : N.fns.a = some ⟨g, 0, none⟩) (hVg : V ≠ g) :
  ∃ s' w4 A J, (Builtin.append_ #[34, 34] 34 #[slv (N.F k).blk, .slice (some ⟨(W.alloc (.cells stopI.cells 43)).heap.size, 0, none⟩) 1 1]).run Tryz.prog ((W.alloc (.cells stopI.cells 43)).alloc (.cells #[.slice (some ⟨W.heap.size, 0, none⟩) 1 1] 40)) = .ok (slv s') w4 ∧
   w4.cell? ⟨g, k * 5 + 4, none⟩ = some (slv (N.F k).blk) ∧ w4.frozen? ⟨g, k * 5 + 4, none⟩ = false ∧ s'.n = (N.F k).blk.n + 1 ∧ J = (fun _ _ => 0) ∧
   Spd X V W (w4.setCell ⟨g, k * 5 + 4, none⟩ (slv s')) (setF N k (addB (N.F k) s' ⟨some ⟨W.heap.size, 0, none⟩, 1, 1⟩ A J)) := by
 obtain ⟨at_, own⟩ := sp.own k hk
 have hl := hs.light k hk
 have hn := hl.blk
 obtain ⟨ab, bge, blt, bfz⟩ := mine_blk own.bm h0
 obtain ⟨W1, hW1⟩ : ∃ W1, W.alloc (.cells stopI.cells 43) = W1 := ⟨_, rfl⟩
 have b1 : Below W.heap.size W W1 := by rw [← hW1]; exact new (same _) _
 have z1 : W1.heap.size = W.heap.size + 1 := by rw [← hW1]; simp
 obtain ⟨cur, hcur, ow⟩ := owns_room cp.1 h0 own.bm own.inn.blk.1
 have hcur1 : W1.heap[blkOf (N.F k).blk]? = some (.cells cur 40 (0, 0)) := by rw [b1.block _ blt]; exact hcur
 have spl := sp.le
 obtain ⟨v', w4, hrun, own4, gr4, hat4⟩ := app_gen (w2 := W1) underBk infoBk rfl (by decide) (by decide) (owns_on b1 ow) (by omega) (show X ≤ W1.heap.size by omega) #[.slice (some ⟨W.heap.size, 0, none⟩) 1 1] rfl (by intro u hu; simp at hu; subst hu; rfl) 34
 obtain ⟨s', rfl⟩ := owns_slv own4
 obtain ⟨n1, n2, n3, n4, n5, n6, n7⟩ := row_app (z := 1) rfl hcur1 h0 own4 ow.1
 have ho : (slv (N.F k).blk).ownBlock = some (blkOf (N.F k).blk) := by show Value.ownBlock (.slice (N.F k).blk.a _ _) = _; rw [ab]; rfl
 obtain ⟨g', hg', hgX, hgl, hgz, hgf⟩ := sp.fns (by omega)
 obtain rfl : g' = g := by have := hg'.symm.trans hg; simpa using this
 have fpb : FpF (N.F k) (blkOf (N.F k).blk) := .inr (.inr ⟨h0, rfl⟩)
 have z4 := gr4.size
 simp only [World.size_alloc] at z4
 have kb1 : ∀ b, b < W1.heap.size → b ≠ blkOf (N.F k).blk → w4.heap[b]? = W1.heap[b]? := fun b hb hne => by
  rw [gr4.block b (by simp; omega) (by rw [ho]; intro e; exact hne (Option.some.inj e)), Below.heap_alloc _ _ _ hb]
 have kb : ∀ b, b < W.heap.size → b ≠ blkOf (N.F k).blk → w4.heap[b]? = W.heap[b]? := fun b hb hne => by rw [kb1 b (by omega) hne, b1.block b hb]
 have gne : g' ≠ blkOf (N.F k).blk := fun e => hgf k hk (e ▸ fpb)
 have kc : ∀ b, b ≠ g' → (w4.setCell ⟨g', k * 5 + 4, none⟩ (slv s')).heap[b]? = w4.heap[b]? := fun b hb => Below.heap_setCell _ _ _ _ hb
 have sne : blkOf s' ≠ g' := by
  rcases hat4 with q | q
  ·rw [n4, ho] at q; have := Option.some.inj q; omega
  ·rw [n4] at q; have := Option.some.inj q; omega
 have cells : ∀ i, i < N.fns.n → FAt W g' (i * 5) (N.F i) := fun i hi => by
  obtain ⟨b', off, e, hcc⟩ := hN.fns.2.2.2 (by omega)
  have q := hg.symm.trans e
  simp at q
  obtain ⟨rfl, rfl⟩ := q
  have := hcc i hi
  rwa [Nat.zero_add] at this
 have co4 : ∀ {q : Nat} {u : Value}, W.cell? ⟨g', q, none⟩ = some u → w4.cell? ⟨g', q, none⟩ = some u := fun h => by rw [World.cell?_of_block (w := W) (kb _ hgl gne)]; exact h
 have hc4 := co4 (cells k hk).c4
 have nblk : ∀ x, has (N.F k) x → 0 < (sl (N.F k) x).n → at_ x ≠ blkOf (N.F k).blk := fun x hx hx0 e => own.blk x hx hx0 _ 0 ab h0 e.symm
 have ka : ∀ x, has (N.F k) x → 0 < (sl (N.F k) x).n → (w4.setCell ⟨g', k * 5 + 4, none⟩ (slv s')).heap[at_ x]? = W.heap[at_ x]? := fun x hx hx0 => by
  rw [kc _ (fun e => hgf k hk (e ▸ .inl ⟨x, hx, hx0, (blkOf_eq (own.adr x hx hx0)).symm⟩)), kb _ (own.lt x hx hx0) (nblk x hx hx0)]
 have hR : ∀ {q : Nat} {u : Value}, stopI.cells.toList[q]? = some u → (w4.setCell ⟨g', k * 5 + 4, none⟩ (slv s')).cell? ⟨W.heap.size, q, none⟩ = some u := fun {q u} h => by
  rw [World.cell?_of_block (w := W1) (by rw [kc _ (show W.heap.size ≠ g' by omega), kb1 _ (by omega) (by omega)]), ← hW1]
  have := Own.cells_new W stopI.cells 43 q u h
  rwa [Addr.add_lit, Nat.zero_add] at this
 refine ⟨s', w4, fun _ _ => 0, fun _ _ => 0, by rw [hW1]; exact hrun, hc4, by rw [World.frozen?_of_block (w := W) (kb _ hgl gne)]; exact hgz _, n1, rfl, ?_⟩
 refine ⟨inM_any sp hN hk hg (by rw [World.size_setCell]; omega) (fun b hb hnf hng => ?_) (fun i hi => ?_) ⟨?_, ?_, fun x hx => ?_, fun x hx i hi => ?_, fun x hx i hi => ?_⟩, ?_, fun hVl => ?_⟩
 ·rw [kc b hng, kb b hb (fun e => hnf (e ▸ fpb))]
 ·by_cases ei : i = k
  ·subst ei
   rw [setF_same]
   have c := cells i hi
   exact ⟨cell_other (ne_off (by omega)) (co4 c.c0), cell_other (ne_off (by omega)) (co4 c.c1), cell_other (ne_off (by omega)) (co4 c.c2), cell_other (ne_off (by omega)) (co4 c.c3), cell_same hc4⟩
  ·rw [setF_other N _ ei]
   have c := cells i hi
   exact ⟨cell_other (ne_off (by omega)) (co4 c.c0), cell_other (ne_off (by omega)) (co4 c.c1), cell_other (ne_off (by omega)) (co4 c.c2), cell_other (ne_off (by omega)) (co4 c.c3), cell_other (ne_off (by omega)) (co4 c.c4)⟩
 ·exact keep_ints (b := blkOf (N.F k).par) own.inn.par (fun h => (mine_blk own.pm h).1) (fun h => by
   rw [kc _ (fun e => hgf k hk (e ▸ .inr (.inl ⟨h, rfl⟩))), kb _ (mine_blk own.pm h).2.2.1 (par_ne own h h0)])
 ·refine ⟨n2, by show s'.n ≤ _; rw [n1]; omega, fun e => (by rw [show s'.a = _ from n3] at e; cases e), fun _ => ⟨blkOf s', 0, n3, fun x hx => ?_⟩⟩
  have hx' : x < s'.n := hx
  rw [Nat.zero_add, World.cell?_of_block (w := w4) (kc _ sne)]
  show _ = some (Value.slice (if x = (N.F k).blk.n then (⟨some ⟨W.heap.size, 0, none⟩, 1, 1⟩ : Sl) else (N.F k).B x).a (if x = (N.F k).blk.n then (⟨some ⟨W.heap.size, 0, none⟩, 1, 1⟩ : Sl) else (N.F k).B x).n (if x = (N.F k).blk.n then (⟨some ⟨W.heap.size, 0, none⟩, 1, 1⟩ : Sl) else (N.F k).B x).c)
  by_cases ex : x = (N.F k).blk.n
  ·rw [if_pos ex]
   have := n6 0 (by omega)
   rw [Nat.mul_one, Nat.add_zero] at this
   rw [ex, this]
   rfl
  ·rw [if_neg ex, n5 x (by omega), World.cell?_of_block (w := W) (b1.block _ blt)]
   obtain ⟨b', off, e, hcc⟩ := own.inn.blk.2.2.2 h0
   have q := ab.symm.trans e
   simp at q
   obtain ⟨rfl, rfl⟩ := q
   have := hcc x (by omega)
   rwa [Nat.zero_add] at this
 ·have hx' : x < s'.n := hx
  show Inss _ (if x = (N.F k).blk.n then (⟨some ⟨W.heap.size, 0, none⟩, 1, 1⟩ : Sl) else (N.F k).B x) (if x = (N.F k).blk.n then (fun _ => stopI) else (N.F k).I x)
  by_cases ex : x = (N.F k).blk.n
  ·rw [if_pos ex, if_pos ex]
   refine ⟨Nat.le_refl _, by show 1 ≤ _; omega, fun e => (by cases e), fun _ => ⟨W.heap.size, 0, rfl, fun i hi => ?_⟩⟩
   obtain rfl : i = 0 := by have : i < 1 := hi; omega
   exact ⟨hR rfl, hR rfl, hR rfl, hR rfl, hR rfl, hR rfl, hR rfl⟩
  ·rw [if_neg ex, if_neg ex]
   exact keep_inss (b := at_ (.row x)) (own.inn.ins x (by omega)) (fun h => own.adr (.row x) (show x < _ by omega) h) (fun h => ka (.row x) (show x < _ by omega) h)
 ·have hx' : x < s'.n := hx
  by_cases ex : x = (N.F k).blk.n
  ·simp only [if_pos ex] at hi ⊢
   exact ⟨Nat.le_refl _, Nat.zero_le _, fun _ => rfl, fun h => absurd h (Nat.lt_irrefl _)⟩
  ·simp only [if_neg ex] at hi ⊢
   exact keep_ints (b := at_ (.arg x i)) (own.inn.args x (by omega) i hi) (fun h => own.adr (.arg x i) ⟨by omega, hi⟩ h) (fun h => ka (.arg x i) ⟨by omega, hi⟩ h)
 ·have hx' : x < s'.n := hx
  by_cases ex : x = (N.F k).blk.n
  ·simp only [if_pos ex] at hi ⊢
   exact ⟨Nat.le_refl _, Nat.zero_le _, fun _ => rfl, fun h => absurd h (Nat.lt_irrefl _)⟩
  ·simp only [if_neg ex] at hi ⊢
   exact keep_ints (b := at_ (.int x i)) (own.inn.into x (by omega) i hi) (fun h => own.adr (.int x i) ⟨by omega, hi⟩ h) (fun h => ka (.int x i) ⟨by omega, hi⟩ h)
 ·refine Below.setCell ?_ (by show X ≤ g'; exact hgX) _
  have bX : Below X W W1 := b1.mono spl
  exact (bX.alloc (by omega) _).grown gr4 (by simp; omega) (fun q hq => by rw [ho] at hq; have := Option.some.inj hq; omega)
 ·rw [kc V hVg, kb V hVl (fun e => hV (e ▸ fpb))]

theorem mem_front {X V : Nat} {W : World} {N : MV} (sp : Sep X W N) (hN : InM W N) (hs : SmallM N) {k j : Nat} (hk : k < N.fns.n) (hj : j < (N.F k).blk.n) (h0 : 0 < ((N.F k).B j).n) (hV : ¬ FpF (N.F k) V) {W1 : World} (b1 : Below W.heap.size W W1) {t : Int} {ga R : Nat} (hR1 : W.heap.size ≤ R)
  (hR : W1.heap[R]? = some (.cells (loadI t ⟨some ⟨ga, 0, none⟩, 1, 1⟩).cells 43 (0, 0))) (hga : W1.cell? ⟨ga, 0, none⟩ = some (.int .i64 t)) (hga1 : W.heap.size ≤ ga) (hne : ga ≠ R) :
  ∃ s' w4 gB I A J, (N.F k).blk.a = some ⟨gB, 0, none⟩ ∧ (Builtin.append_ #[38, 38] 38 #[.slice (some ⟨R, 0, none⟩) 1 1, slv ((N.F k).B j)]).run Tryz.prog W1 = .ok (slv s') w4 ∧
   w4.cell? ⟨gB, j, none⟩ = some (slv ((N.F k).B j)) ∧ w4.frozen? ⟨gB, j, none⟩ = false ∧ s'.n = ((N.F k).B j).n + 1 ∧ I 0 = loadI t ⟨some ⟨ga, 0, none⟩, 1, 1⟩ ∧ (∀ i, i < ((N.F k).B j).n → I (i + 1) = (N.F k).I j i ∧ J (i + 1) = (N.F k).J j i) ∧ A 0 0 = t ∧
   (∃ g1 o1, (∀ wx, (Instr.indexAt 38 (slv s') (.int .i64 1)).run Tryz.prog wx = .ok (.pointer (some ⟨g1, o1, none⟩)) wx) ∧ (w4.setCell ⟨gB, j, none⟩ (slv s')).cell? ⟨g1, o1, none⟩ = some (.int .i64 ((N.F k).I j 0).op)) ∧ (∀ g', N.fns.a = some ⟨g', 0, none⟩ → (w4.setCell ⟨gB, j, none⟩ (slv s')).heap[g']? = W.heap[g']?) ∧
   Spd X V W (w4.setCell ⟨gB, j, none⟩ (slv s')) (setF N k (setB (N.F k) j s' I A J)) := by
 obtain ⟨at_, own⟩ := sp.own k hk
 have hl := hs.light k hk
 have hn := hl.ins j hj
 have e0 : ((N.F k).B j).a = some ⟨at_ (.row j), 0, none⟩ := own.adr (.row j) hj h0
 have hlt := own.lt (.row j) hj h0
 have spl := sp.le
 have z1 := b1.size
 obtain ⟨ab, bge, blt, bfz⟩ := mine_blk own.bm (by omega)
 have hins : ∀ i, i < ((N.F k).B j).n → InsAt W (at_ (.row j)) (i * 7) ((N.F k).I j i) := fun i hi => by
  obtain ⟨b', off, e, hcc⟩ := (own.inn.ins j hj).2.2.2 h0
  have q := e0.symm.trans e
  simp at q
  obtain ⟨rfl, rfl⟩ := q
  have := hcc i hi
  rwa [Nat.zero_add] at this
 obtain ⟨news, hnews⟩ : ∃ news, fl (fun i => ((N.F k).I j i).cells.toList) ((N.F k).B j).n = news := ⟨_, rfl⟩
 have hlen : news.length = ((N.F k).B j).n * 7 := by rw [← hnews]; exact fl_length (c := fun i => ((N.F k).I j i).cells.toList) (z := 7) (fun _ => rfl) _
 have hat : ∀ i c, i < ((N.F k).B j).n → c < 7 → news[i * 7 + c]? = ((N.F k).I j i).cells.toList[c]? := fun i c hi hc => by rw [← hnews]; exact fl_at (c := fun i => ((N.F k).I j i).cells.toList) (z := 7) (fun _ => rfl) _ i c hi hc
 have ow : W1.ownsRow W.heap.size 43 7 (.slice (some ⟨R, 0, none⟩) 1 1) 1 (loadI t ⟨some ⟨ga, 0, none⟩, 1, 1⟩).cells.toList :=
  ⟨rfl, .inr ⟨R, 1, _, rfl, hR1, hR, Nat.le_refl _, by decide, rfl, rfl⟩⟩
 have hsrc : ∀ q u, news[q]? = some u → W1.cell? ((⟨at_ (.row j), 0, none⟩ : Addr).add q) = some u := fun q u hu => by
  have hq : q < ((N.F k).B j).n * 7 := by rw [← hlen]; exact (List.getElem?_eq_some_iff.1 hu).1
  have e : q = q / 7 * 7 + q % 7 := by omega
  have hm : q % 7 < 7 := Nat.mod_lt _ (by decide)
  have hd : q / 7 < ((N.F k).B j).n := by omega
  rw [e, hat _ _ hd hm] at hu
  rw [Addr.add_lit, Nat.zero_add]
  refine cell_on b1 ?_
  have hi := hins _ hd
  obtain h | h | h | h | h | h | h : q % 7 = 0 ∨ q % 7 = 1 ∨ q % 7 = 2 ∨ q % 7 = 3 ∨ q % 7 = 4 ∨ q % 7 = 5 ∨ q % 7 = 6 := by omega
  all_goals (rw [h] at hu e; rw [e, ← hu])
  ·exact hi.c0
  ·exact hi.c1
  ·exact hi.c2
  ·exact hi.c3
  ·exact hi.c4
  ·exact hi.c5
  ·exact hi.c6
 have hone : ∀ u ∈ news, u.oneCell' = true := fun u hu => by
  obtain ⟨q, hq⟩ := List.getElem?_of_mem hu
  have hq' : q < ((N.F k).B j).n * 7 := by rw [← hlen]; exact (List.getElem?_eq_some_iff.1 hq).1
  have e : q = q / 7 * 7 + q % 7 := by omega
  rw [e, hat _ _ (by omega) (Nat.mod_lt _ (by decide))] at hq
  exact one7 _ u (List.mem_of_getElem? hq)
 obtain ⟨i0, hi, hz0, hz1, hz2⟩ := info_parts infoIn
 obtain ⟨v', w4, hrun, own4, gr4, _, hat4⟩ := run_append_own_at (P := Tryz.prog) W1 W.heap.size 38 38 43 i0 IV.zero.val 7 88 underIn hi hz0 hz1 hz2 rfl (by decide) (.slice (some ⟨R, 0, none⟩) 1 1) 1 _ ow ⟨at_ (.row j), 0, none⟩ ((N.F k).B j).n ((N.F k).B j).c news hlen hsrc hone (by simp only [maxLen]; omega) (by omega) z1
 obtain ⟨s', rfl⟩ := owns_slv own4
 rw [← e0] at hrun
 have n1 : s'.n = ((N.F k).B j).n + 1 := by have := own_len own4; omega
 obtain ⟨S, hSS⟩ : ∃ S, blkOf s' = S := ⟨_, rfl⟩
 have hform : s'.a = some ⟨S, 0, none⟩ ∧ s'.n ≤ s'.c ∧ W.heap.size ≤ S ∧ ∀ q, q < s'.n * 7 → w4.cell? ⟨S, q, none⟩ = ((loadI t ⟨some ⟨ga, 0, none⟩, 1, 1⟩).cells.toList ++ news)[q]? := by
  rw [← hSS]
  rcases own4.2 with ⟨e, _⟩ | ⟨g, cap, cur', e, hb, hg, hnc, hm, hss, ht⟩
  ·obtain ⟨a, n', c⟩ := s'
   simp [slv] at e
   omega
  ·obtain ⟨a, n', c⟩ := s'
   simp [slv] at e
   obtain ⟨rfl, rfl, rfl⟩ := e
   exact ⟨rfl, hnc, hb, fun q hq => own4.cellAt q hq⟩
 obtain ⟨n3, n2, n7, n5⟩ := hform
 have nbr : blkOf (N.F k).blk ≠ at_ (.row j) := own.blk (.row j) hj h0 _ 0 ab (by omega)
 have z4 := gr4.size
 have kb1 : ∀ b, b < W1.heap.size → b ≠ R → w4.heap[b]? = W1.heap[b]? := fun b hb hne => gr4.block b hb (fun e => hne (Option.some.inj e))
 have kb : ∀ b, b < W.heap.size → w4.heap[b]? = W.heap[b]? := fun b hb => by rw [kb1 b (by omega) (by omega), b1.block b hb]
 have kc : ∀ b, b ≠ blkOf (N.F k).blk → (w4.setCell ⟨blkOf (N.F k).blk, j, none⟩ (slv s')).heap[b]? = w4.heap[b]? := fun b hb => Below.heap_setCell _ _ _ _ hb
 have hcb : W.cell? ⟨blkOf (N.F k).blk, j, none⟩ = some (slv ((N.F k).B j)) := by
  obtain ⟨b', off, e, hcc⟩ := own.inn.blk.2.2.2 (by omega)
  have q := ab.symm.trans e
  simp at q
  obtain ⟨rfl, rfl⟩ := q
  have := hcc j hj
  rwa [Nat.zero_add] at this
 have hc4 : w4.cell? ⟨blkOf (N.F k).blk, j, none⟩ = some (slv ((N.F k).B j)) := by rw [World.cell?_of_block (w := W) (kb _ blt)]; exact hcb
 obtain ⟨g, hg, hgX, hgl, hgz, hgf⟩ := sp.fns (by omega)
 have nblk : ∀ x, has (N.F k) x → 0 < (sl (N.F k) x).n → at_ x ≠ blkOf (N.F k).blk := fun x hx hx0 e => own.blk x hx hx0 _ 0 ab (by omega) e.symm
 have ka : ∀ x, has (N.F k) x → 0 < (sl (N.F k) x).n → (w4.setCell ⟨blkOf (N.F k).blk, j, none⟩ (slv s')).heap[at_ x]? = W.heap[at_ x]? := fun x hx hx0 => by
  rw [kc _ (nblk x hx hx0), kb _ (own.lt x hx hx0)]
 have fpb : FpF (N.F k) (blkOf (N.F k).blk) := .inr (.inr ⟨by omega, rfl⟩)
 have sne : S ≠ blkOf (N.F k).blk := by omega
 have cr : ∀ q, (w4.setCell ⟨blkOf (N.F k).blk, j, none⟩ (slv s')).cell? ⟨S, q, none⟩ = w4.cell? ⟨S, q, none⟩ := fun q => World.cell?_of_block (w := w4) (kc _ sne)
 have c0 : ∀ {c : Nat} {u : Value}, c < 7 → (loadI t ⟨some ⟨ga, 0, none⟩, 1, 1⟩).cells.toList[c]? = some u → (w4.setCell ⟨blkOf (N.F k).blk, j, none⟩ (slv s')).cell? ⟨S, c, none⟩ = some u := fun hc h => by
  rw [cr, n5 _ (by omega), List.getElem?_append_left (by exact hc)]; exact h
 have c1 : ∀ i {c : Nat} {u : Value}, i < ((N.F k).B j).n → c < 7 → ((N.F k).I j i).cells.toList[c]? = some u → (w4.setCell ⟨blkOf (N.F k).blk, j, none⟩ (slv s')).cell? ⟨S, (i + 1) * 7 + c, none⟩ = some u := fun i {c u} hi hc h => by
  have e7 : (loadI t ⟨some ⟨ga, 0, none⟩, 1, 1⟩).cells.toList.length = 7 := rfl
  rw [cr, n5 _ (by omega), List.getElem?_append_right (by rw [e7]; omega), e7, show (i + 1) * 7 + c - 7 = i * 7 + c by omega, hat i c hi hc]; exact h
 refine ⟨s', w4, blkOf (N.F k).blk, fun i => match i with | 0 => loadI t ⟨some ⟨ga, 0, none⟩, 1, 1⟩ | i + 1 => (N.F k).I j i, fun i => match i with | 0 => fun _ => t | i + 1 => (N.F k).A j i, fun i => match i with | 0 => fun _ => 0 | i + 1 => (N.F k).J j i, ab, hrun, hc4,
  by rw [World.frozen?_of_block (w := W) (kb _ blt)]; exact bfz j, n1, rfl, fun i _ => ⟨rfl, rfl⟩, rfl, ⟨S, 7, ?_, ?_⟩, fun g' hg' => ?_, ?_⟩
 ·have := index_row (s := s') n3 underIn size43 (k := 1) (by omega)
  simpa using this
 ·exact c1 0 (c := 0) h0 (by decide) rfl
 ·obtain rfl : g = g' := by have := hg.symm.trans hg'; simpa using this
  rw [kc g (fun e => hgf k hk (e ▸ fpb)), kb g hgl]
 refine ⟨inM_any sp hN hk hg (by rw [World.size_setCell]; omega) (fun b hb hnf hng => ?_) (rows_same hN hg ?_ rfl rfl rfl rfl rfl) (in_setB own hj (fun b hb h1 h2 => ?_) (fun x hx hne => ?_) (cell_same hc4) ?_ (fun i hi => ?_) (fun i hi => ?_) h0), ?_, fun hVl => ?_⟩
 ·rw [kc b (fun e => hnf (e ▸ fpb)), kb b hb]
 ·rw [kc g (fun e => hgf k hk (e ▸ fpb)), kb g hgl]
 ·rw [kc b h2, kb b hb]
 ·rw [World.cell?_setCell_other (h := ne_off (by omega)), World.cell?_of_block (w := W) (kb _ blt)]
 ·refine ⟨n2, by rw [n1]; omega, fun e => (by rw [n3] at e; cases e), fun _ => ⟨S, 0, n3, fun i hi => ?_⟩⟩
  rw [Nat.zero_add]
  cases i with
  | zero => exact ⟨c0 (by decide) rfl, c0 (by decide) rfl, c0 (by decide) rfl, c0 (by decide) rfl, c0 (by decide) rfl, c0 (by decide) rfl, c0 (by decide) rfl⟩
  | succ i =>
   have hi' : i < ((N.F k).B j).n := by omega
   exact ⟨c1 i (c := 0) hi' (by decide) rfl, c1 i hi' (by decide) rfl, c1 i hi' (by decide) rfl, c1 i hi' (by decide) rfl, c1 i hi' (by decide) rfl, c1 i hi' (by decide) rfl, c1 i hi' (by decide) rfl⟩
 ·cases i with
  | zero =>
   refine ⟨Nat.le_refl _, by show 1 ≤ _; omega, fun e => (by cases e), fun _ => ⟨ga, 0, rfl, fun i hi => ?_⟩⟩
   obtain rfl : i = 0 := by have : i < 1 := hi; omega
   rw [World.cell?_of_block (w := w4) (kc _ (show ga ≠ _ by omega)), World.cell?_of_block (w := W1) (kb1 _ (World.block_lt_of_cell? _ _ hga) hne)]
   exact hga
  | succ i =>
   have hi' : i < ((N.F k).B j).n := by omega
   exact keep_ints (b := at_ (.arg j i)) (own.inn.args j hj i hi') (fun h => own.adr (.arg j i) ⟨hj, hi'⟩ h) (fun h => ka (.arg j i) ⟨hj, hi'⟩ h)
 ·cases i with
  | zero => exact ⟨Nat.le_refl _, Nat.zero_le _, fun _ => rfl, fun h => absurd h (Nat.lt_irrefl _)⟩
  | succ i =>
   have hi' : i < ((N.F k).B j).n := by omega
   exact keep_ints (b := at_ (.int j i)) (own.inn.into j hj i hi') (fun h => own.adr (.int j i) ⟨hj, hi'⟩ h) (fun h => ka (.int j i) ⟨hj, hi'⟩ h)
 ·refine Below.setCell ?_ (by show X ≤ blkOf (N.F k).blk; exact bge) _
  exact (b1.mono spl).grown gr4 (by omega) (fun q hq => by have : R = q := Option.some.inj hq; omega)
 ·rw [kc V (fun e => hV (e ▸ fpb)), kb V hVl]

end Go.Proofs.YtolipafcoolpgaaGreat.Wf

/-
  Functions alike: ways, flows, uses are the same, plainly.
-/
namespace Go.Proofs.YtolipafcoolpgaaGreat.Wf
open Go.RowKit View Rd Num Opn Copy Srt Go.Proofs.YtolipafcoolpgaaGreat.Mod Chk Flo

set_option linter.unusedVariables false

theorem nxt_congr (n : Nat) {f g : Nat → Int} : ∀ k, (∀ i, i < k → f i = g i) → nxt n f k = nxt n g k := by
 intro k
 induction k with
 | zero => intro _; rfl
 | succ k ih =>
  intro h
  unfold nxt
  rw [ih (fun i hi => h i (by omega)), h k (by omega)]

theorem led_n {F G : FV} (h : EqF F G) {b : Nat} (hb : b < F.blk.n) : (led (F.B b) (F.I b)).n = (led (G.B b) (G.I b)).n := by
 obtain ⟨_, _, _, _, hn, hB⟩ := h
 obtain ⟨e, hI⟩ := hB b hb
 unfold led
 rw [e]
 by_cases h0 : (G.B b).n = 0
 ·rw [if_pos h0, if_pos h0]
 ·rw [if_neg h0, if_neg h0]
  have hi := hI ((G.B b).n - 1) (by omega)
  rw [hi.1]
  split
  ·exact hi.2.2.2.2.2.2.1
  ·rfl

theorem su_eq {F G : FV} (h : EqF F G) : su F = su G := by
 funext b
 have hl := @led_n F G h b
 obtain ⟨_, _, _, _, hn, hB⟩ := h
 unfold su
 rw [← hn]
 by_cases hb : b < F.blk.n
 ·rw [if_pos hb, if_pos hb, hl hb]
  obtain ⟨e, hI⟩ := hB b hb
  rw [e]
  refine nxt_congr _ _ (fun i hi => ?_)
  rw [← hl hb] at hi
  unfold led at hi
  rw [e] at hi
  by_cases h0 : (G.B b).n = 0
  ·rw [if_pos h0] at hi; exact absurd hi (by simp)
  ·rw [if_neg h0] at hi
   split at hi
   ·exact (hI ((G.B b).n - 1) (by omega)).2.2.2.2.2.2.2 i hi
   ·exact absurd hi (by simp)
 ·rw [if_neg hb, if_neg hb]

theorem pv_eq {F G : FV} (h : EqF F G) (n b : Nat) : pvL F n b = pvL G n b := by
 unfold pvL
 rw [su_eq h]

theorem suL_eq {F G : FV} (h : EqF F G) (x : Int) : suL F x = suL G x := by
 funext b
 unfold suL
 rw [su_eq h]

theorem domR_eq {F G : FV} (h : EqF F G) (a b : Nat) : DomR F a b ↔ DomR G a b := by
 unfold DomR
 rw [su_eq h, suL_eq h]

theorem flowF_eq {F G : FV} (h : EqF F G) (hform : FormF G) (hf : FlowF G) : FlowF F := by
 have hs := su_eq h
 have hp := pv_eq h
 obtain ⟨_, _, _, _, hn, hB⟩ := h
 obtain ⟨f1, f2⟩ := hf
 refine ⟨fun b hb => ?_, fun b hb => ?_⟩
 ·obtain ⟨g1, g2, g3, g4⟩ := f1 b (by rw [← hn]; exact hb)
  obtain ⟨e, hI⟩ := hB b hb
  have hl := hI ((G.B b).n - 1) (by omega)
  refine ⟨by rw [e]; exact g1, fun k hk => ?_, fun i hi => ?_, fun ho => ?_⟩
  ·obtain ⟨q1, q2⟩ := g2 k (by rw [← e]; exact hk)
   refine ⟨by rw [(hI k hk).1, e]; exact q1, fun ⟨z1, z2, z3⟩ => q2 ⟨z1, by rw [← (hI k hk).1]; exact z2, by rw [← (hI (k - 1) (by omega)).1]; exact z3⟩⟩
  ·rw [e] at hi ⊢
   rw [hl.2.2.2.2.2.2.2 i hi, hn]
   exact g3 i (by rw [← hl.2.2.2.2.2.2.1]; exact hi)
  ·rw [e] at ho ⊢
   rw [hl.1] at ho
   have h2 := br_two (hform.2.2 b (by rw [← hn]; exact hb) ((G.B b).n - 1) (by omega)) ho
   have hi := hl.2.2.2.2.2.2
   rw [hi.2 0 (by rw [hi.1, h2]; decide), hi.2 1 (by rw [hi.1, h2]; decide)]
   exact g4 ho
 ·obtain ⟨g1, g2⟩ := f2 b (by rw [← hn]; exact hb)
  obtain ⟨e, hI⟩ := hB b hb
  refine ⟨by rw [hs]; exact g1, fun k hk ho => ?_⟩
  obtain ⟨q1, q2, q3⟩ := g2 k (by rw [← e]; exact hk) (by rw [← (hI k hk).1]; exact ho)
  have hin := (hI k hk).2.2.2.2.2.2
  refine ⟨q1, by rw [hin.1, q2, hp, hn], fun i hi => ?_⟩
  rw [hin.2 i hi, hp, hn]
  exact q3 i (by rw [← hin.1]; exact hi)

theorem giv_eq {f g : Nat → IV} : ∀ k, (∀ i, i < k → (f i).ty = (g i).ty) → giv f k = giv g k := by
 intro k
 induction k with
 | zero => intro _; rfl
 | succ k ih => intro h; simp only [giv]; rw [ih (fun i hi => h i (by omega)), h k (by omega)]

theorem cntg_eq {F G : FV} (h : EqF F G) : ∀ b, b ≤ F.blk.n → cnt (fun j => giv (F.I j) (F.B j).n) b = cnt (fun j => giv (G.I j) (G.B j).n) b := by
 intro b
 induction b with
 | zero => intro _; rfl
 | succ b ih =>
  intro hb
  obtain ⟨e, hI⟩ := h.2.2.2.2.2 b (by omega)
  simp only [cnt]
  rw [ih (by omega), e, giv_eq (f := F.I b) (g := G.I b) (G.B b).n (fun i hi => (hI i (by rw [e]; exact hi)).2.1)]

theorem idx_eqF {F G : FV} (h : EqF F G) {b k : Nat} (hb : b < F.blk.n) (hk : k < (F.B b).n) : idx F b k = idx G b k := by
 unfold idx lastOf
 rw [h.2.2.2.1.1, cntg_eq h b (by omega), giv_eq (f := F.I b) (g := G.I b) (k + 1) (fun i hi => ((h.2.2.2.2.2 b hb).2 i (by omega)).2.1)]

theorem allV_eq {F G : FV} (h : EqF F G) : allV F = allV G := by
 unfold allV
 rw [h.2.2.2.1.1, cntg_eq h _ (Nat.le_refl _), h.2.2.2.2.1]

theorem useF_eq {F G : FV} (h : EqF F G) (hform : FormF G) (hu : UseF G) : UseF F := by
 have hd := domR_eq h
 have ha := allV_eq h
 have hx := @idx_eqF F G h
 obtain ⟨_, _, _, _, hn, hB⟩ := h
 refine ⟨fun b hb k hk hty => ?_, fun b hb k hk i hi => ?_⟩
 ·have hI := (hB b hb).2 k hk
  rw [hx hb hk, hI.2.2.1]
  exact hu.1 b (by rw [← hn]; exact hb) k (by rw [← (hB b hb).1]; exact hk) (by rw [← hI.2.1]; exact hty)
 ·have hI := (hB b hb).2 k hk
  have hi' : i < (G.I b k).args.n := by rw [← hI.2.2.2.2.2.1.1]; exact hi
  have hbG : b < G.blk.n := by rw [← hn]; exact hb
  have hkG : k < (G.B b).n := by rw [← (hB b hb).1]; exact hk
  obtain ⟨u1, u2, u3⟩ := hu.2 b hbG k hkG i hi'
  have e := hI.2.2.2.2.2.1.2 i hi
  refine ⟨by rw [e]; exact u1, by rw [e, ha]; exact u2, fun b' k' hb' hk' hty he => ?_⟩
  have hI' := (hB b' hb').2 k' hk'
  have t := u3 b' k' (by rw [← hn]; exact hb') (by rw [← (hB b' hb').1]; exact hk') (by rw [← hI'.2.1]; exact hty) (by rw [← e, he, hx hb' hk'])
  unfold There at t ⊢
  rw [hI.1]
  by_cases ho : (G.I b k).op = 26
  ·rw [if_pos ho] at t ⊢
   have hin := phi_into (hform.2.2 b hbG k hkG) ho
   rw [hI.2.2.2.2.2.2.2 i (by rw [hI.2.2.2.2.2.2.1, hin]; exact hi')]
   exact (hd _ _).2 t
  ·rw [if_neg ho] at t ⊢
   exact t.imp id (fun q => ⟨q.1, (hd _ _).2 q.2⟩)

theorem tyRow_eq {f g : Nat → IV} : ∀ k, (∀ i, i < k → (f i).ty = (g i).ty) → Ty.tyRow f k = Ty.tyRow g k := by
 intro k
 induction k with
 | zero => intro _; rfl
 | succ k ih => intro h; simp only [Ty.tyRow]; rw [ih (fun i hi => h i (by omega)), h k (by omega)]

theorem tyAll_eq {F G : FV} (h : EqF F G) : ∀ b, b ≤ F.blk.n → Ty.tyAll F b = Ty.tyAll G b := by
 intro b
 induction b with
 | zero => intro _; rfl
 | succ b ih =>
  intro hb
  obtain ⟨e, hI⟩ := h.2.2.2.2.2 b (by omega)
  simp only [Ty.tyAll]
  rw [ih (by omega), e, tyRow_eq (f := F.I b) (g := G.I b) (G.B b).n (fun i hi => (hI i (by rw [e]; exact hi)).2.1)]

theorem row_eq {f g : Nat → Int} {n : Nat} (h : ∀ i, i < n → f i = g i) : row f n = row g n := by
 unfold row
 exact List.map_congr_left fun i hi => h i (List.mem_range.1 hi)

theorem typesL_eq {F G : FV} (h : EqF F G) : Ty.typesL F = Ty.typesL G := by
 have hp := h.2.2.2.1
 unfold Ty.typesL
 rw [tyAll_eq h _ (Nat.le_refl _), h.2.2.2.2.1, ← hp.1, row_eq (f := F.P) (g := G.P) hp.2]

theorem fitI_more {M O : MV} {F G : FV} {v u : IV} {a j a' j' g g' : Nat → Int} (h : MoreM M O) (hF : EqF F G) (hv : EqI v u a j a' j') (hs : SymI M u) (n : Nat) (hg : ∀ i, i < n → g i = g' i) (hform : formB u = true) (hn : n = u.args.n) (hf : FitI M G u n g') : FitI O F v n g := by
 obtain ⟨e1, e2, e3, e4, e5, e6, e7⟩ := hv
 have hr := hF.2.2.1
 have hE : u.op = 23 → EqE (O.E u.sym.toNat) (M.E u.sym.toNat) (O.EP u.sym.toNat) (M.EP u.sym.toNat) := fun ho => h.ext.2 _ (by
  have h1 := hs.1; have h2 := hs.2; rw [ho] at h2; simp [symN] at h2; omega)
 have hFn : u.op = 22 → EqF (O.F u.sym.toNat) (M.F u.sym.toNat) := fun ho => h.fns.2 _ (by
  have h1 := hs.1; have h2 := hs.2; rw [ho] at h2; simp [symN] at h2; omega)
 have ha := form_args hform
 have hop := form_op hform
 have ho : u.op = 1 ∨ u.op = 2 ∨ u.op = 3 ∨ u.op = 4 ∨ u.op = 5 ∨ u.op = 6 ∨ u.op = 7 ∨ u.op = 8 ∨ u.op = 9 ∨ u.op = 10 ∨ u.op = 11 ∨ u.op = 12 ∨ u.op = 13 ∨ u.op = 14 ∨ u.op = 15 ∨ u.op = 16 ∨ u.op = 17 ∨ u.op = 18 ∨ u.op = 19 ∨ u.op = 20 ∨ u.op = 21 ∨ u.op = 22 ∨ u.op = 23 ∨ u.op = 24 ∨ u.op = 25 ∨ u.op = 26 ∨ u.op = 27 ∨ u.op = 28 ∨ u.op = 29 ∨ u.op = 30 := by omega
 rcases ho with e | e | e | e | e | e | e | e | e | e | e | e | e | e | e | e | e | e | e | e | e | e | e | e | e | e | e | e | e | e
 ·have f := (fi_1 e).1 hf
  refine (fi_1 (e1.trans e)).2 ?_
  rw [e2, e5]
  exact f
 ·have f := (fi_2 e).1 hf
  refine (fi_2 (e1.trans e)).2 ?_
  rw [e2]
  exact f
 ·have f := (fi_3 e).1 hf
  refine (fi_3 (e1.trans e)).2 ?_
  rw [e2]
  exact f
 ·have f := (fi_4 e).1 hf
  refine (fi_4 (e1.trans e)).2 ?_
  rw [e] at ha
  simp [mk] at ha
  rw [e2, hg 0 (by omega), hg 1 (by omega)]
  exact f
 ·have f := (fi_5 e).1 hf
  refine (fi_5 (e1.trans e)).2 ?_
  rw [e] at ha
  simp [mk] at ha
  rw [e2, hg 0 (by omega), hg 1 (by omega)]
  exact f
 ·have f := (fi_6 e).1 hf
  refine (fi_6 (e1.trans e)).2 ?_
  rw [e] at ha
  simp [mk] at ha
  rw [e2, hg 0 (by omega), hg 1 (by omega)]
  exact f
 ·have f := (fi_7 e).1 hf
  refine (fi_7 (e1.trans e)).2 ?_
  rw [e] at ha
  simp [mk] at ha
  rw [e2, hg 0 (by omega), hg 1 (by omega)]
  exact f
 ·have f := (fi_8 e).1 hf
  refine (fi_8 (e1.trans e)).2 ?_
  rw [e] at ha
  simp [mk] at ha
  rw [e2, hg 0 (by omega), hg 1 (by omega)]
  exact f
 ·have f := (fi_9 e).1 hf
  refine (fi_9 (e1.trans e)).2 ?_
  rw [e] at ha
  simp [mk] at ha
  rw [e2, hg 0 (by omega), hg 1 (by omega)]
  exact f
 ·have f := (fi_10 e).1 hf
  refine (fi_10 (e1.trans e)).2 ?_
  rw [e] at ha
  simp [mk] at ha
  rw [e2, hg 0 (by omega), hg 1 (by omega)]
  exact f
 ·have f := (fi_11 e).1 hf
  refine (fi_11 (e1.trans e)).2 ?_
  rw [e] at ha
  simp [mk] at ha
  rw [e2, hg 0 (by omega), hg 1 (by omega)]
  exact f
 ·have f := (fi_12 e).1 hf
  refine (fi_12 (e1.trans e)).2 ?_
  rw [e] at ha
  simp [mk] at ha
  rw [e2, hg 0 (by omega), hg 1 (by omega)]
  exact f
 ·have f := (fi_13 e).1 hf
  refine (fi_13 (e1.trans e)).2 ?_
  rw [e] at ha
  simp [mk] at ha
  rw [e2, hg 0 (by omega), hg 1 (by omega)]
  exact f
 ·have f := (fi_14 e).1 hf
  refine (fi_14 (e1.trans e)).2 ?_
  rw [e] at ha
  simp [mk] at ha
  rw [e2, hg 0 (by omega), hg 1 (by omega)]
  exact f
 ·have f := (fi_15 e).1 hf
  refine (fi_15 (e1.trans e)).2 ?_
  rw [e] at ha
  simp [mk] at ha
  rw [e2, hg 0 (by omega), hg 1 (by omega)]
  exact f
 ·have f := (fi_16 e).1 hf
  refine (fi_16 (e1.trans e)).2 ?_
  rw [e] at ha
  simp [mk] at ha
  rw [e2, hg 0 (by omega)]
  exact f
 ·have f := (fi_17 e).1 hf
  refine (fi_17 (e1.trans e)).2 ?_
  rw [e] at ha
  simp [mk] at ha
  rw [e2, hg 0 (by omega), hg 1 (by omega), hg 2 (by omega)]
  exact f
 ·have f := (fi_18 e).1 hf
  refine (fi_18 (e1.trans e)).2 ?_
  rw [e2]
  exact f
 ·have f := (fi_19 e).1 hf
  refine (fi_19 (e1.trans e)).2 ?_
  rw [e] at ha
  simp [mk] at ha
  rw [e2, hg 0 (by omega), hg 1 (by omega)]
  exact f
 ·have f := (fi_20 e).1 hf
  refine (fi_20 (e1.trans e)).2 ?_
  rw [e] at ha
  simp [mk] at ha
  rw [e2, hg 0 (by omega)]
  exact f
 ·have f := (fi_21 e).1 hf
  refine (fi_21 (e1.trans e)).2 ?_
  rw [e] at ha
  simp [mk] at ha
  rw [hg 0 (by omega), hg 1 (by omega)]
  exact f
 ·have f := (fi_22 e).1 hf
  refine (fi_22 (e1.trans e)).2 ?_
  obtain ⟨⟨q1, q2⟩, q3⟩ := f
  have E := hFn e
  rw [e4, e2]
  exact ⟨⟨E.2.2.2.1.1.trans q1, fun i hi => by rw [hg i hi, q2 i hi, E.2.2.2.1.2 i (by rw [E.2.2.2.1.1, q1]; exact hi)]⟩, q3.trans E.2.2.1.symm⟩
 ·have f := (fi_23 e).1 hf
  refine (fi_23 (e1.trans e)).2 ?_
  obtain ⟨⟨q1, q2⟩, q3⟩ := f
  have E := hE e
  rw [e4, e2]
  exact ⟨⟨E.2.2.1.trans q1, fun i hi => by rw [hg i hi, q2 i hi, E.2.2.2 i (by rw [E.2.2.1, q1]; exact hi)]⟩, q3.trans E.2.1.symm⟩
 ·have f := (fi_24 e).1 hf
  refine (fi_24 (e1.trans e)).2 ?_
  rw [e] at ha
  simp [mk] at ha
  rw [e2, hg 0 (by omega)]
  exact f
 ·have f := (fi_25 e).1 hf
  refine (fi_25 (e1.trans e)).2 ?_
  have sw := form_sw hform
  unfold swB at sw
  rw [e] at sw
  simp at sw
  rw [e2, hg 0 (by omega)]
  exact f
 ·have f := (fi_26 e).1 hf
  refine (fi_26 (e1.trans e)).2 ?_
  exact fun i hi => by rw [hg i hi, e2]; exact f i hi
 ·have f := (fi_27 e).1 hf
  refine (fi_27 (e1.trans e)).2 ?_
  trivial
 ·have f := (fi_28 e).1 hf
  refine (fi_28 (e1.trans e)).2 ?_
  rw [e] at ha
  simp [mk] at ha
  rw [hg 0 (by omega)]
  exact f
 ·have f := (fi_29 e).1 hf
  refine (fi_29 (e1.trans e)).2 ?_
  rw [hr]
  by_cases q : G.res = 0
  ·rw [if_pos q] at f ⊢; exact f
  ·rw [if_neg q] at f ⊢; exact ⟨f.1, by rw [hg 0 (by omega)]; exact f.2⟩
 ·have f := (fi_30 e).1 hf
  refine (fi_30 (e1.trans e)).2 ?_
  trivial

theorem typeF_more {M O : MV} {F G : FV} (h : MoreM M O) (hF : EqF F G) (hform : FormF G) (hs : ∀ j, j < G.blk.n → ∀ k, k < (G.B j).n → SymI M (G.I j k)) (ht : TypeF M G) : TypeF O F := fun j hj k hk => by
 have hT := typesL_eq hF
 have hI := (hF.2.2.2.2.2 j hj).2 k hk
 have hjG : j < G.blk.n := by rw [← hF.2.2.2.2.1]; exact hj
 have hkG : k < (G.B j).n := by rw [← (hF.2.2.2.2.2 j hj).1]; exact hk
 have hn := hI.2.2.2.2.2.1.1
 refine fitI_more (g' := gotT G j k) h hF hI (hs j hjG k hkG) _ (fun i hi => ?_) (hform.2.2 j hjG k hkG) hn ?_
 ·unfold gotT
  rw [hT, hI.2.2.2.2.2.1.2 i hi]
 ·rw [hn]
  exact ht j hjG k hkG

theorem symI_more {M O : MV} {v u : IV} {a j a' j' : Nat → Int} (h : MoreM M O) (hv : EqI v u a j a' j') (hs : SymI M u) : SymI O v := by
 obtain ⟨e1, _, _, e4, _⟩ := hv
 refine ⟨by rw [e4]; exact hs.1, ?_⟩
 have h2 := hs.2
 have q1 := h.ext.1
 have q2 := h.glo.1
 have q3 := h.tab.1
 have q4 := h.fns.1
 rw [e4, e1]
 unfold symN at h2 ⊢
 split at h2
 ·next q => rw [if_pos q]; omega
 ·next q =>
  rw [if_neg q]
  split at h2
  ·next q' => rw [if_pos q']; omega
  ·next q' =>
   rw [if_neg q']
   split at h2
   ·next q'' => rw [if_pos q'']; omega
   ·next q'' =>
    rw [if_neg q'']
    split at h2
    ·next q3' => rw [if_pos q3']; omega
    ·next q3' => rw [if_neg q3']; exact h2

theorem sym_more {M O : MV} (h : MoreM M O) (hs : SymM M) (hT : ∀ i, M.tab.n ≤ i → i < O.tab.n → ∀ k, k < (O.T i).cel.n → -1 ≤ O.TF i k ∧ O.TF i k < O.fns.n) : SymM O where
 tab := fun i hi k hk => by
  by_cases q : i < M.tab.n
  ·obtain ⟨_, e⟩ := h.tab.2 i q
   rw [e.2 k hk, h.fns.1]
   exact hs.tab i q k (by rw [← e.1]; exact hk)
  ·exact hT i (by omega) hi k hk
 ins := fun i hi j hj k hk => by
  have hi' : i < M.fns.n := by rw [← h.fns.1]; exact hi
  have E := h.fns.2 i hi'
  have hB := E.2.2.2.2.2 j hj
  exact symI_more h (hB.2 k hk) (hs.ins i hi' j (by rw [← E.2.2.2.2.1]; exact hj) k (by rw [← hB.1]; exact hk))

theorem fit_copy {M O : MV} (h : EqM O M) (hf : FitM M) : FitM O := by
 have hm := more_of h
 have l := hf.lim
 refine ⟨lim_more hm l (by rw [h.ext.1]; exact l.ext) (by rw [h.glo.1]; exact l.glo) (by rw [h.tab.1]; exact l.tab) (fun i h1 h2 => absurd h2 (by rw [h.ext.1]; omega)) (fun i h1 h2 => absurd h2 (by rw [h.glo.1]; omega)) (fun i h1 h2 => absurd h2 (by rw [h.tab.1]; omega)),
  form_more hm hf.form (fun i h1 h2 => absurd h2 (by rw [h.ext.1]; omega)), name_more hm hf.name h.ext.1 h.glo.1 0 (by rw [h.tab.1]; rfl) (fun i hi => by omega) (fun i hi => by omega) (fun i j hi => by omega),
  sym_more hm hf.sym (fun i h1 h2 => absurd h2 (by rw [h.tab.1]; omega)), fun i hi => ?_, fun i hi => ?_, fun i hi => ?_⟩
 all_goals have hi' : i < M.fns.n := by rw [← h.fns.1]; exact hi
 ·exact flowF_eq (h.fns.2 i hi) (hf.form.fns i hi') (hf.flow i hi')
 ·exact useF_eq (h.fns.2 i hi) (hf.form.fns i hi') (hf.use i hi')
 ·exact typeF_more hm (h.fns.2 i hi) (hf.form.fns i hi') (fun j hj k hk => hf.sym.ins i hi' j hj k hk) (hf.type i hi')

end Go.Proofs.YtolipafcoolpgaaGreat.Wf

/-
  The low bits of a number.
-/
namespace Go.Proofs.YtolipafcoolpgaaGreat.Low
open Go.RowKit View Rd Num

set_option linter.unusedVariables false

theorem wrap_toInt (x : BitVec 64) : IntKind.i64.wrap (x.toNat : Int) = x.toInt := by
 rw [IntKind.wrap_i64, BitVec.toInt_eq_toNat_cond]
 have := x.isLt
 split <;> omega

theorem toNat_of (n : Int) : ((BitVec.ofInt 64 n).toNat : Int) = n % 18446744073709551616 := by
 rw [BitVec.toNat_ofInt]
 omega

theorem low16 (n : Int) : bits .and .i64 n 65535 = n % 65536 := by
 have hb : bits .and .i64 n 65535 = (BitVec.ofInt 64 n &&& BitVec.ofInt 64 65535).toInt := wrap_toInt _
 rw [hb, ← wrap_toInt, IntKind.wrap_i64, BitVec.toNat_and]
 have e : (BitVec.ofInt 64 65535).toNat = 2 ^ 16 - 1 := rfl
 have t := toNat_of n
 rw [e, Nat.and_two_pow_sub_one_eq_mod]
 omega

theorem low8 (n : Int) : bits .and .i64 n 255 = n % 256 := by
 have hb : bits .and .i64 n 255 = (BitVec.ofInt 64 n &&& BitVec.ofInt 64 255).toInt := wrap_toInt _
 rw [hb, ← wrap_toInt, IntKind.wrap_i64, BitVec.toNat_and]
 have e : (BitVec.ofInt 64 255).toNat = 2 ^ 8 - 1 := rfl
 have t := toNat_of n
 rw [e, Nat.and_two_pow_sub_one_eq_mod]
 omega

theorem red16 (a : Int) {n : Nat} (hn : 0 < n) : ∃ x : Nat, x < n ∧ ∃ a0 : Nat, bits .and .i64 a 65535 = (a0 : Int) ∧ (a0 : Int).tmod (n : Int) = (x : Int) := by
 refine ⟨(a % 65536).toNat % n, Nat.mod_lt _ hn, (a % 65536).toNat, ?_, ?_⟩
 ·rw [low16]; omega
 ·rw [Int.ofNat_tmod]

end Go.Proofs.YtolipafcoolpgaaGreat.Low

/-
  WfSpoilt: what Check says of each spoilt copy.
-/
namespace Go.Proofs.YtolipafcoolpgaaGreat.Wf
open Go.RowKit View Rd Num Opn Copy Srt Own Go.Proofs.YtolipafcoolpgaaGreat.Mod Chk Flo CpM Trn

set_option linter.unusedVariables false

theorem jng_fits {M : MV} (h : FitsM M) : ∀ i, i < M.fns.n → Jng (M.F i) := fun i hi j hj k hk t ht => (h.fns i hi).into j hj k hk t ht

theorem red9 (a : Int) : ∃ x : Nat, x < 9 ∧ ∃ a0 : Nat, bits .and .i64 a 255 = (a0 : Int) ∧ (a0 : Int) % 9 = (x : Int) := by
 refine ⟨(a % 256).toNat % 9, Nat.mod_lt _ (by decide), (a % 256).toNat, ?_, ?_⟩
 ·rw [Low.low8]; omega
 ·omega

structure Cop (X V : Nat) (W : World) (N : MV) : Prop where
 sp : Sep X W N
 inn : InM W N
 small : SmallM N
 fit : FitM N
 sx : SmallX N
 caps : ∀ i, i < N.fns.n → Caps W (N.F i)
 jng : ∀ i, i < N.fns.n → Jng (N.F i)
 nv : ∀ i, i < N.fns.n → ¬ FpF (N.F i) V
 nr : ∀ g o, N.fns.a = some ⟨g, o, none⟩ → 0 < N.fns.n → V ≠ g

theorem caps_on {w w' : World} {T : FV} (hb : Below w.heap.size w w') (h : Caps w T) : Caps w' T := by
 have key : ∀ {s : Sl} {ty z : Nat}, Room w s ty z → Room w' s ty z := fun {s ty z} h h0 => by
  obtain ⟨cur, h1, h2⟩ := h h0
  exact ⟨cur, by rw [hb.block _ (Array.getElem?_eq_some_iff.1 h1).1]; exact h1, h2⟩
 exact ⟨key h.1, fun j hj => key (h.2 j hj)⟩

theorem Cop.on {X V : Nat} {W W' : World} {N : MV} (h : Cop X V W N) (hb : Below W.heap.size W W') : Cop X V W' N :=
 ⟨Trn.Sep.on h.sp hb, h.inn.on hb, h.small, h.fit, h.sx, fun i hi => caps_on hb (h.caps i hi), h.jng, h.nv, h.nr⟩

def Says (v : Value) (x : Int) (w : World) : Prop := ∀ wx, Below w.heap.size w wx → Calls Tryz.prog 12 #[v] wx fun e w' => e = .returned (.int .i64 x) ∧ Below wx.heap.size wx w'

theorem says_of {w : World} {N : MV} {x : Int} (hi : InM w N) (hs : SmallM N) (hj : ∀ i, i < N.fns.n → Jng (N.F i)) (he : errM N = x) : Says N.val x w := fun wx hb =>
 (wcheck_any N wx (hi.on hb) hs hj).mono fun e w' ⟨r, h1, h2, h3⟩ => ⟨by rw [h1, h2, he], h3⟩

theorem jng_set {N : MV} (h : ∀ i, i < N.fns.n → Jng (N.F i)) {k : Nat} {F : FV} (hF : Jng F) : ∀ i, i < (setF N k F).fns.n → Jng ((setF N k F).F i) := fun i hi => by
 by_cases e : i = k
 ·subst e; rw [setF_same]; exact hF
 ·rw [setF_other N F e]; exact h i hi

theorem cnt_le1 {n n' : Nat → Nat} {k : Nat} (h : ∀ x, x ≠ k → n' x = n x) (hk : n' k ≤ n k + 1) : ∀ m, cnt n' m ≤ cnt n m + 1 ∧ (m ≤ k → cnt n' m = cnt n m)
 | 0 => ⟨by simp [cnt], fun _ => rfl⟩
 | m + 1 => by
  obtain ⟨h1, h2⟩ := cnt_le1 h hk m
  rw [cnt, cnt]
  by_cases e : m = k
  ·subst e
   have := h2 (Nat.le_refl _)
   exact ⟨by omega, fun q => by omega⟩
  ·have := h m e
   exact ⟨by omega, fun q => by have := h2 (by omega); omega⟩

theorem small_set1 {N : MV} (hs : SmallM N) (hx : SmallX N) {k : Nat} {F : FV} (hl : Light F) (hz : fsize F ≤ fsize (N.F k) + 1) : SmallM (setF N k F) := by
 refine ⟨hs.ext, hs.glo, hs.tab, hs.fns, hs.extI, hs.gloI, hs.tabI, fun i hi => ?_, ?_⟩
 ·by_cases e : i = k
  ·subst e; rw [setF_same]; exact hl
  ·rw [setF_other N F e]; exact hs.light i hi
 ·have e := (cnt_le1 (n := fun i => fsize (N.F i)) (n' := fun i => fsize ((setF N k F).F i)) (k := k) (fun x hx => by show fsize ((setF N k F).F x) = _; rw [setF_other N F hx]) (by show fsize ((setF N k F).F k) ≤ _; rw [setF_same]; exact hz) N.fns.n).1
  have := hx.2
  show cnt (fun i => fsize ((setF N k F).F i)) N.fns.n ≤ 400
  omega

theorem light_setB {F : FV} (hl : Light F) (hx : LightX F) {j : Nat} {s : Sl} {I : Nat → IV} {A J : Nat → Nat → Int} (hj : j < F.blk.n) (hs : s.n = (F.B j).n + 1) (hI : ∀ i, i < s.n → (I i).args.n ≤ 20 ∧ (I i).into.n ≤ 20) : Light (setB F j s I A J) := by
 have hz := size_setB (I := I) (A := A) (J := J) hs
 have h90 := hx.2
 refine ⟨?_, hl.name, hl.par, hl.blk, fun x hx' => ?_, fun x hx' i hi => ?_, fun x hx' i hi => ?_⟩
 ·have : fsize F ≤ 90 := h90
  show fsize (setB F j s I A J) ≤ 400
  omega
 ·show (if x = j then s else F.B x).n ≤ 400
  by_cases e : x = j
  ·rw [if_pos e, hs]
   have : (F.B j).n ≤ cnt (fun j => (F.B j).n) F.blk.n := by
    have key : ∀ m, j < m → (F.B j).n ≤ cnt (fun j => (F.B j).n) m := by
     intro m
     induction m with
     | zero => intro h; omega
     | succ m ih =>
      intro h
      rw [cnt]
      by_cases e : j = m
      ·rw [e]; omega
      ·have := ih (by omega); omega
    exact key _ hj
   omega
  ·rw [if_neg e]; exact hl.ins x hx'
 ·by_cases e : x = j
  ·subst e
   simp only [if_true] at hi ⊢
   exact (hI i hi).1
  ·simp only [if_neg e] at hi ⊢
   exact hl.args x hx' i hi
 ·by_cases e : x = j
  ·subst e
   simp only [if_true] at hi ⊢
   exact (hI i hi).2
  ·simp only [if_neg e] at hi ⊢
   exact hl.into x hx' i hi

theorem jng_setB {F : FV} (h : Jng F) {j : Nat} {s : Sl} {I : Nat → IV} {A J : Nat → Nat → Int} (hJ : ∀ i, i < s.n → ∀ t, t < (I i).into.n → W64 (J i t)) : Jng (setB F j s I A J) := fun x hx i hi t ht => by
 by_cases e : x = j
 ·subst e
  simp only [if_true] at hi ht ⊢
  exact hJ i hi t ht
 ·simp only [if_neg e] at hi ht ⊢
  exact h x hx i hi t ht

theorem says_ins {X V : Nat} {W : World} {N : MV} (C : Cop X V W N) {k j i c : Nat} (hk : k < N.fns.n) (hj : j < (N.F k).blk.n) (hi : i < ((N.F k).B j).n) (hc : c < 7) {g : Nat} (hg : ((N.F k).B j).a = some ⟨g, 0, none⟩) {val : Value} {v : IV}
  (hv : InsAt W g (i * 7) ((N.F k).I j i) → InsAt (W.setCell ⟨g, i * 7 + c, none⟩ val) g (i * 7) v) (ha : v.args = ((N.F k).I j i).args) (hin : v.into = ((N.F k).I j i).into) (hf : formB v = false) :
  Says N.val 1 (W.setCell ⟨g, i * 7 + c, none⟩ val) ∧ Below X W (W.setCell ⟨g, i * 7 + c, none⟩ val) ∧ V ≠ g := by
 obtain ⟨at_, own⟩ := C.sp.own k hk
 have h0 : 0 < ((N.F k).B j).n := by omega
 obtain rfl : at_ (.row j) = g := by have := (own.adr (.row j) hj h0).symm.trans hg; simpa using this
 have hat := own.insAt hj hi
 have hB : FpF (N.F k) (at_ (.row j)) := .inl ⟨.row j, hj, h0, (blkOf_eq (own.adr (.row j) hj h0)).symm⟩
 have hF : In (W.setCell ⟨at_ (.row j), i * 7 + c, none⟩ val) (setI (N.F k) j i v ((N.F k).A j i)) := in_setI own hj hi hc (hv hat.1) hin (by rw [ha]; exact args_stay own hj hi _ _)
 have hl := C.small.light k hk
 have hN' : InM (W.setCell ⟨at_ (.row j), i * 7 + c, none⟩ val) (setF N k (setI (N.F k) j i v ((N.F k).A j i))) := inM_set C.sp C.inn hk hB hF rfl rfl rfl rfl rfl
 refine ⟨says_of (N := setF N k (setI (N.F k) j i v ((N.F k).A j i))) hN' (small_set C.small hk (light_setI hl (by rw [ha]; exact hl.args j hj i hi) hin hj hi) rfl) (jng_set C.jng (fun x hx y hy t ht => ?_)) (err_op C.fit hk hj hi hf), (Below.refl X W).setCell (by show X ≤ at_ (.row j); exact own.ge (.row j) hj h0) _, fun e => C.nv k hk (e ▸ hB)⟩
 have ht' : t < (updI (N.F k).I j i v x y).into.n := ht
 refine C.jng k hk x hx y hy t ?_
 by_cases e : x = j ∧ y = i
 ·obtain ⟨rfl, rfl⟩ := e
  rw [updI_same, hin] at ht'
  exact ht'
 ·rw [updI_other _ _ e] at ht'
  exact ht'

theorem says_main {X V : Nat} {W : World} {N : MV} (C : Cop X V W N) {k g : Nat} (hk : k < N.fns.n) (hg : N.fns.a = some ⟨g, 0, none⟩) :
  Says N.val 3 (W.setCell ⟨g, k * 5 + 0, none⟩ (.string ⟨#[77, 97, 105, 110]⟩)) ∧ Below X W (W.setCell ⟨g, k * 5 + 0, none⟩ (.string ⟨#[77, 97, 105, 110]⟩)) ∧ V ≠ g := by
 obtain ⟨g', a1, a2, _⟩ := C.sp.fns (by omega)
 obtain rfl : g' = g := by have := a1.symm.trans hg; simpa using this
 have hat : FAt W g' (k * 5) (N.F k) := by
  obtain ⟨b', off, e, hcc⟩ := C.inn.fns.2.2.2 (by omega)
  have q := hg.symm.trans e
  simp at q
  obtain ⟨rfl, rfl⟩ := q
  have := hcc k hk
  rwa [Nat.zero_add] at this
 have hl := C.small.light k hk
 have hN' : InM (W.setCell ⟨g', k * 5 + 0, none⟩ (.string ⟨#[77, 97, 105, 110]⟩)) (setF N k { N.F k with name := ⟨#[77, 97, 105, 110]⟩ }) := inM_row C.sp C.inn hk hg (by omega) (Trn.FAt.set0 hat _) rfl rfl rfl rfl rfl rfl rfl
 exact ⟨says_of (N := setF N k { N.F k with name := ⟨#[77, 97, 105, 110]⟩ }) hN' (small_set C.small hk ⟨hl.all, by show (4 : Nat) ≤ 40; decide, hl.par, hl.blk, hl.ins, hl.args, hl.into⟩ rfl) (jng_set C.jng (C.jng k hk)) (err_main C.fit hk not_ok_main), (Below.refl X W).setCell (by show X ≤ g'; exact a2) _, C.nr _ _ hg (by omega)⟩

theorem says_behind {X V : Nat} {W : World} {N : MV} (C : Cop X V W N) {k j : Nat} (hk : k < N.fns.n) (hj : j < (N.F k).blk.n) (h0 : 0 < ((N.F k).B j).n) :
  ∃ s' w4 gB, (N.F k).blk.a = some ⟨gB, 0, none⟩ ∧ (Builtin.append_ #[38, 38] 38 #[slv ((N.F k).B j), .slice (some ⟨W.heap.size, 0, none⟩) 1 1]).run Tryz.prog (W.alloc (.cells stopI.cells 43)) = .ok (slv s') w4 ∧
   w4.cell? ⟨gB, j, none⟩ = some (slv ((N.F k).B j)) ∧ w4.frozen? ⟨gB, j, none⟩ = false ∧ Says N.val 5 (w4.setCell ⟨gB, j, none⟩ (slv s')) ∧ Below X W (w4.setCell ⟨gB, j, none⟩ (slv s')) ∧ (V < W.heap.size → (w4.setCell ⟨gB, j, none⟩ (slv s')).heap[V]? = W.heap[V]?) := by
 obtain ⟨s', w4, gB, I, A, J, p1, p2, p3, p4, p5, p6, p7, p8, S⟩ := mem_behind C.sp C.inn C.small hk hj h0 (C.caps k hk) (C.nv k hk)
 have hl := C.small.light k hk
 refine ⟨s', w4, gB, p1, p2, p3, p4, says_of (N := setF N k (setB (N.F k) j s' I A J)) S.inm (small_set1 C.small C.sx (light_setB hl (C.sx.1 k hk) hj p5 (fun i hi => ?_)) (size_setB p5)) (jng_set C.jng (jng_setB (C.jng k hk) (fun i hi t ht => ?_))) (err_behind C.fit C.sx hk hj p5 (fun i hi => (p6 i hi).1) p7), S.low, S.box⟩
 ·by_cases e : i < ((N.F k).B j).n
  ·rw [(p6 i e).1]; exact ⟨hl.args j hj i e, hl.into j hj i e⟩
  ·obtain rfl : i = ((N.F k).B j).n := by omega
   rw [p7]; exact ⟨Nat.zero_le _, Nat.zero_le _⟩
 ·by_cases e : i < ((N.F k).B j).n
  ·rw [(p6 i e).1] at ht
   rw [(p6 i e).2]; exact C.jng k hk j hj i e t ht
  ·obtain rfl : i = ((N.F k).B j).n := by omega
   rw [p7] at ht
   exact absurd ht (Nat.not_lt_zero _)

theorem says_alone {X V : Nat} {W : World} {N : MV} (C : Cop X V W N) {k g : Nat} (hk : k < N.fns.n) (hg : N.fns.a = some ⟨g, 0, none⟩) :
  ∃ s' w4, (Builtin.append_ #[34, 34] 34 #[slv (N.F k).blk, .slice (some ⟨(W.alloc (.cells stopI.cells 43)).heap.size, 0, none⟩) 1 1]).run Tryz.prog ((W.alloc (.cells stopI.cells 43)).alloc (.cells #[.slice (some ⟨W.heap.size, 0, none⟩) 1 1] 40)) = .ok (slv s') w4 ∧
   w4.cell? ⟨g, k * 5 + 4, none⟩ = some (slv (N.F k).blk) ∧ w4.frozen? ⟨g, k * 5 + 4, none⟩ = false ∧ Says N.val 5 (w4.setCell ⟨g, k * 5 + 4, none⟩ (slv s')) ∧ Below X W (w4.setCell ⟨g, k * 5 + 4, none⟩ (slv s')) ∧ (V < W.heap.size → (w4.setCell ⟨g, k * 5 + 4, none⟩ (slv s')).heap[V]? = W.heap[V]?) := by
 have l := C.fit.lim.fnI k hk
 obtain ⟨s', w4, A, J, p2, p3, p4, p5, p6, S⟩ := mem_alone C.sp C.inn C.small hk l.one (C.caps k hk) (C.nv k hk) hg (C.nr _ _ hg (by omega))
 have hl := C.small.light k hk
 have hz : fsize (addB (N.F k) s' ⟨some ⟨W.heap.size, 0, none⟩, 1, 1⟩ A J) = fsize (N.F k) + 1 := by
  show cnt (fun x => (if x = (N.F k).blk.n then (⟨some ⟨W.heap.size, 0, none⟩, 1, 1⟩ : Sl) else (N.F k).B x).n) s'.n = _
  rw [p5, cnt]
  have e : cnt (fun x => (if x = (N.F k).blk.n then (⟨some ⟨W.heap.size, 0, none⟩, 1, 1⟩ : Sl) else (N.F k).B x).n) (N.F k).blk.n = fsize (N.F k) := Own.cnt_eq fun t ht => by rw [if_neg (by omega)]
  rw [e]
  simp only [if_true]
 have h90 : fsize (N.F k) ≤ 90 := (C.sx.1 k hk).2
 have h16 := (C.sx.1 k hk).1
 refine ⟨s', w4, p2, p3, p4, says_of (N := setF N k (addB (N.F k) s' ⟨some ⟨W.heap.size, 0, none⟩, 1, 1⟩ A J)) S.inm (small_set1 C.small C.sx ⟨?_, hl.name, hl.par, by show s'.n ≤ 48; omega, fun x hx => ?_, fun x hx i hi => ?_, fun x hx i hi => ?_⟩ (by omega)) (jng_set C.jng (fun x hx i hi t ht => ?_)) (err_alone C.fit C.sx hk p5 rfl), S.low, S.box⟩
 ·show fsize (addB (N.F k) s' ⟨some ⟨W.heap.size, 0, none⟩, 1, 1⟩ A J) ≤ 400
  omega
 all_goals have hx' : x < s'.n := hx
 ·by_cases e : x = (N.F k).blk.n
  ·simp only [if_pos e]; show 1 ≤ 400; decide
  ·simp only [if_neg e]; exact hl.ins x (by omega)
 ·by_cases e : x = (N.F k).blk.n
  ·simp only [if_pos e]; exact Nat.zero_le _
  ·simp only [if_neg e] at hi ⊢; exact hl.args x (by omega) i hi
 ·by_cases e : x = (N.F k).blk.n
  ·simp only [if_pos e]; exact Nat.zero_le _
  ·simp only [if_neg e] at hi ⊢; exact hl.into x (by omega) i hi
 ·by_cases e : x = (N.F k).blk.n
  ·simp only [if_pos e] at ht; exact absurd ht (Nat.not_lt_zero _)
  ·simp only [if_neg e] at hi ht ⊢; exact C.jng k hk x (by omega) i hi t ht

theorem says_front {X V : Nat} {W : World} {N : MV} (C : Cop X V W N) {k j : Nat} (hk : k < N.fns.n) (hj : j < (N.F k).blk.n) (h0 : 0 < ((N.F k).B j).n) {W1 : World} (b1 : Below W.heap.size W W1) {t : Int} (ht : 1 ≤ t) {ga R : Nat} (hR1 : W.heap.size ≤ R)
  (hR : W1.heap[R]? = some (.cells (loadI t ⟨some ⟨ga, 0, none⟩, 1, 1⟩).cells 43 (0, 0))) (hga : W1.cell? ⟨ga, 0, none⟩ = some (.int .i64 t)) (hga1 : W.heap.size ≤ ga) (hne : ga ≠ R) :
  ∃ s' w4 gB, (N.F k).blk.a = some ⟨gB, 0, none⟩ ∧ (Builtin.append_ #[38, 38] 38 #[.slice (some ⟨R, 0, none⟩) 1 1, slv ((N.F k).B j)]).run Tryz.prog W1 = .ok (slv s') w4 ∧
   w4.cell? ⟨gB, j, none⟩ = some (slv ((N.F k).B j)) ∧ w4.frozen? ⟨gB, j, none⟩ = false ∧ s'.n = ((N.F k).B j).n + 1 ∧
   (∃ g1 o1, (∀ wx, (Instr.indexAt 38 (slv s') (.int .i64 1)).run Tryz.prog wx = .ok (.pointer (some ⟨g1, o1, none⟩)) wx) ∧ (w4.setCell ⟨gB, j, none⟩ (slv s')).cell? ⟨g1, o1, none⟩ = some (.int .i64 ((N.F k).I j 0).op)) ∧ (∀ g', N.fns.a = some ⟨g', 0, none⟩ → (w4.setCell ⟨gB, j, none⟩ (slv s')).heap[g']? = W.heap[g']?) ∧
   Says N.val (if ((N.F k).I j 0).op = 26 then 5 else 6) (w4.setCell ⟨gB, j, none⟩ (slv s')) ∧ Below X W (w4.setCell ⟨gB, j, none⟩ (slv s')) ∧ (V < W.heap.size → (w4.setCell ⟨gB, j, none⟩ (slv s')).heap[V]? = W.heap[V]?) := by
 obtain ⟨s', w4, gB, I, A, J, p1, p2, p3, p4, p5, p6, p7, p8, p9, p10, S⟩ := mem_front C.sp C.inn C.small hk hj h0 (C.nv k hk) b1 hR1 hR hga hga1 hne
 have hl := C.small.light k hk
 refine ⟨s', w4, gB, p1, p2, p3, p4, p5, p9, p10, says_of (N := setF N k (setB (N.F k) j s' I A J)) S.inm (small_set1 C.small C.sx (light_setB hl (C.sx.1 k hk) hj p5 (fun i hi => ?_)) (size_setB p5)) (jng_set C.jng (jng_setB (C.jng k hk) (fun i hi t ht => ?_))) (err_front C.fit C.sx hk hj ht rfl p5 p6 (fun i hi => (p7 i hi).1) p8 (fun i hi => (p7 i hi).2)), S.low, S.box⟩
 ·cases i with
  | zero => rw [p6]; exact ⟨by show (1 : Nat) ≤ 20; decide, Nat.zero_le _⟩
  | succ i => rw [(p7 i (by omega)).1]; exact ⟨hl.args j hj i (by omega), hl.into j hj i (by omega)⟩
 ·cases i with
  | zero => rw [p6] at ht; exact absurd ht (Nat.not_lt_zero _)
  | succ i => rw [(p7 i (by omega)).1] at ht; rw [(p7 i (by omega)).2]; exact C.jng k hk j hj i (by omega) t ht

theorem says_glo {M N : MV} {w w5 Wz : World} {V : Nat} {s1 s2 s3 s4 sv a : Sl} {X X1 X2 X3 X4 : Nat} {t1 t2 t3 : Nat → Sl} {t4 : Nat → FV} {nm : ByteArray} {C : Nat → Int} {x : Int} (hs : SmallM M) (hN : growN M s1 s2 s3 s4 t1 t2 t3 t4 = N) (c : Cop X V Wz N) (sn : s1.n = M.ext.n ∧ s2.n = M.glo.n ∧ s3.n = M.tab.n ∧ s4.n = M.fns.n)
  (h10 : M.glo.n ≤ 10) (hnm : nm.size ≤ 40) (ha : a.n ≤ 20) (hsn : sv.n = s2.n + 1)
  (ho : Ord w V w5 { M with ext := s1, glo := sv, tab := s3, fns := s4, G := fun i => if i < s2.n then M.G i else ⟨nm, a⟩, GC := fun i => if i < s2.n then M.GC i else C } X1 X2 X3 X4 t1 (fun i => if i < s2.n then t2 i else a) t3 t4)
  (he : errM { N with glo := sv, G := fun i => if i < N.glo.n then N.G i else ⟨nm, a⟩, GC := fun i => if i < N.glo.n then N.GC i else C } = x) : Says (.agg #[.slice s1.a s1.n s1.c, .slice sv.a sv.n sv.c, .slice s3.a s3.n s3.c, .slice s4.a s4.n s4.c]) x w5 := by
 obtain ⟨e1, e2, e3, e4⟩ := sn
 have hs' : SmallM { M with ext := s1, glo := sv, tab := s3, fns := s4, G := fun i => if i < s2.n then M.G i else ⟨nm, a⟩, GC := fun i => if i < s2.n then M.GC i else C } := by
  refine ⟨by show s1.n ≤ 14; rw [e1]; exact hs.ext, by show sv.n ≤ 14; omega, by show s3.n ≤ 8; rw [e3]; exact hs.tab, by show s4.n ≤ 26; rw [e4]; exact hs.fns, fun i hi => hs.extI i (by rw [← e1]; exact hi), fun i hi => ?_, fun i hi => hs.tabI i (by rw [← e3]; exact hi), fun i hi => hs.light i (by rw [← e4]; exact hi), by show cnt (fun k => fsize (M.F k)) s4.n ≤ 400; rw [e4]; exact hs.all⟩
  show (if i < s2.n then M.G i else ⟨nm, a⟩ : GV).name.size ≤ 40 ∧ (if i < s2.n then M.G i else ⟨nm, a⟩ : GV).cel.n ≤ 20
  by_cases e : i < s2.n
  ·rw [if_pos e]; exact hs.gloI i (by omega)
  ·rw [if_neg e]; exact ⟨hnm, ha⟩
 obtain ⟨n1, n2, n3⟩ := copied_growN hs' ho.g1 ho.g2 ho.g3 ho.g4 ho.low
 have eq : growN { M with ext := s1, glo := sv, tab := s3, fns := s4, G := fun i => if i < s2.n then M.G i else ⟨nm, a⟩, GC := fun i => if i < s2.n then M.GC i else C } s1 sv s3 s4 t1 (fun i => if i < s2.n then t2 i else a) t3 t4 = { N with glo := sv, G := fun i => if i < N.glo.n then N.G i else ⟨nm, a⟩, GC := fun i => if i < N.glo.n then N.GC i else C } := by
  rw [← hN]
  have eG : (fun i => (⟨(if i < s2.n then M.G i else ⟨nm, a⟩ : GV).name, if i < s2.n then t2 i else a⟩ : GV)) = (fun i => if i < s2.n then (⟨(M.G i).name, t2 i⟩ : GV) else ⟨nm, a⟩) := by
   funext i
   by_cases e : i < s2.n
   ·rw [if_pos e, if_pos e, if_pos e]
   ·rw [if_neg e, if_neg e, if_neg e]
  show MV.mk _ _ _ _ _ _ (fun i => (⟨(if i < s2.n then M.G i else ⟨nm, a⟩ : GV).name, if i < s2.n then t2 i else a⟩ : GV)) _ _ _ _ = _
  rw [eG]
 have n1' := n1
 have n3' := n3
 rw [eq] at n1' n3'
 have := says_of n1' n3' c.jng he
 rw [← hN] at this
 exact this

theorem says_tab {M N : MV} {w w5 Wz : World} {V : Nat} {s1 s2 s3 s4 sv a : Sl} {X X1 X2 X3 X4 : Nat} {t1 t2 t3 : Nat → Sl} {t4 : Nat → FV} {nm : ByteArray} {C : Nat → Int} {x : Int} (hs : SmallM M) (hN : growN M s1 s2 s3 s4 t1 t2 t3 t4 = N) (c : Cop X V Wz N) (sn : s1.n = M.ext.n ∧ s2.n = M.glo.n ∧ s3.n = M.tab.n ∧ s4.n = M.fns.n)
  (h4 : M.tab.n ≤ 4) (hnm : nm.size ≤ 40) (ha : a.n ≤ 16) (hsn : sv.n = s3.n + 1)
  (ho : Ord w V w5 { M with ext := s1, glo := s2, tab := sv, fns := s4, T := fun i => if i < s3.n then M.T i else ⟨nm, a⟩, TF := fun i => if i < s3.n then M.TF i else C } X1 X2 X3 X4 t1 t2 (fun i => if i < s3.n then t3 i else a) t4)
  (he : errM { N with tab := sv, T := fun i => if i < N.tab.n then N.T i else ⟨nm, a⟩, TF := fun i => if i < N.tab.n then N.TF i else C } = x) : Says (.agg #[.slice s1.a s1.n s1.c, .slice s2.a s2.n s2.c, .slice sv.a sv.n sv.c, .slice s4.a s4.n s4.c]) x w5 := by
 obtain ⟨e1, e2, e3, e4⟩ := sn
 have hs' : SmallM { M with ext := s1, glo := s2, tab := sv, fns := s4, T := fun i => if i < s3.n then M.T i else ⟨nm, a⟩, TF := fun i => if i < s3.n then M.TF i else C } := by
  refine ⟨by show s1.n ≤ 14; rw [e1]; exact hs.ext, by show s2.n ≤ 14; rw [e2]; exact hs.glo, by show sv.n ≤ 8; omega, by show s4.n ≤ 26; rw [e4]; exact hs.fns, fun i hi => hs.extI i (by rw [← e1]; exact hi), fun i hi => hs.gloI i (by rw [← e2]; exact hi), fun i hi => ?_, fun i hi => hs.light i (by rw [← e4]; exact hi), by show cnt (fun k => fsize (M.F k)) s4.n ≤ 400; rw [e4]; exact hs.all⟩
  show (if i < s3.n then M.T i else ⟨nm, a⟩ : GV).name.size ≤ 40 ∧ (if i < s3.n then M.T i else ⟨nm, a⟩ : GV).cel.n ≤ 16
  by_cases e : i < s3.n
  ·rw [if_pos e]; exact hs.tabI i (by omega)
  ·rw [if_neg e]; exact ⟨hnm, ha⟩
 obtain ⟨n1, n2, n3⟩ := copied_growN hs' ho.g1 ho.g2 ho.g3 ho.g4 ho.low
 have eq : growN { M with ext := s1, glo := s2, tab := sv, fns := s4, T := fun i => if i < s3.n then M.T i else ⟨nm, a⟩, TF := fun i => if i < s3.n then M.TF i else C } s1 s2 sv s4 t1 t2 (fun i => if i < s3.n then t3 i else a) t4 = { N with tab := sv, T := fun i => if i < N.tab.n then N.T i else ⟨nm, a⟩, TF := fun i => if i < N.tab.n then N.TF i else C } := by
  rw [← hN]
  have eG : (fun i => (⟨(if i < s3.n then M.T i else ⟨nm, a⟩ : GV).name, if i < s3.n then t3 i else a⟩ : GV)) = (fun i => if i < s3.n then (⟨(M.T i).name, t3 i⟩ : GV) else ⟨nm, a⟩) := by
   funext i
   by_cases e : i < s3.n
   ·rw [if_pos e, if_pos e, if_pos e]
   ·rw [if_neg e, if_neg e, if_neg e]
  show MV.mk _ _ _ _ _ _ _ _ (fun i => (⟨(if i < s3.n then M.T i else ⟨nm, a⟩ : GV).name, if i < s3.n then t3 i else a⟩ : GV)) _ _ = _
  rw [eG]
 have n1' := n1
 have n3' := n3
 rw [eq] at n1' n3'
 have := says_of n1' n3' c.jng he
 rw [← hN] at this
 exact this

end Go.Proofs.YtolipafcoolpgaaGreat.Wf
