/-
  Numbers turned round, a Phi's first and last entry changed places (no program in it).
-/
import Derived.Test.YtahjippocejphaaPure
import Derived.Test.YtahjippocejphaaChkY
namespace Go.Proofs.Ytahjippocejphaa.Shf
open Go.RowKit View Rd Copy Srt Num Ty Own Go.Proofs.Ytahjippocejphaa.Chk

set_option linter.unusedVariables false

/-- Behind the parameters round by y. -/
def sA (p N y : Nat) (v : Int) : Int := if (p : Int) < v then p + 1 + (v - p - 1 + y) % (N : Int) else v

theorem sA_low {p N y : Nat} {v : Int} (h : v ≤ p) : sA p N y v = v := if_neg (by omega)

theorem sA_high {p N y : Nat} (hN : 0 < N) {v : Int} (h : (p : Int) < v) : (p : Int) < sA p N y v ∧ sA p N y v ≤ p + N := by
  unfold sA
  rw [if_pos h]
  have h1 := Int.emod_nonneg (v - p - 1 + y) (show (N : Int) ≠ 0 by omega)
  have h2 := Int.emod_lt_of_pos (v - p - 1 + y) (show (0 : Int) < N by omega)
  omega

theorem emod_near {N : Nat} (hN : 0 < N) {a b : Int} (h : a % (N : Int) = b % (N : Int)) (h1 : a - b < N) (h2 : b - a < N) : a = b := by
  have go : ∀ c d : Int, c % (N : Int) = d % (N : Int) → d ≤ c → c - d < N → c = d := fun c d e h1 h2 => by
    have e2 : (c - d) % (N : Int) = 0 := Int.emod_eq_emod_iff_emod_sub_eq_zero.1 e
    rw [Int.emod_eq_of_lt (by omega) h2] at e2
    omega
  rcases Int.le_total b a with q | q
  · exact go a b h q h1
  · exact (go b a h.symm q h2).symm

theorem sA_inj {p N y : Nat} (hN : 0 < N) {u v : Int} (hu : u ≤ p + N) (hv : v ≤ p + N) (h : sA p N y u = sA p N y v) : u = v := by
  by_cases c : (p : Int) < u
  · by_cases d : (p : Int) < v
    · unfold sA at h
      rw [if_pos c, if_pos d] at h
      have := emod_near hN (a := u - p - 1 + y) (b := v - p - 1 + y) (by omega) (by omega) (by omega)
      omega
    · have h1 := sA_high (y := y) hN c
      rw [h, sA_low (by omega)] at h1
      omega
  · by_cases d : (p : Int) < v
    · have h1 := sA_high (y := y) hN d
      rw [← h, sA_low (by omega)] at h1
      omega
    · rw [sA_low (by omega), sA_low (by omega)] at h
      exact h

/-- The first and the last change places. -/
def swi (l i : Nat) : Nat := if i = 0 then l else if i = l then 0 else i

theorem swi_lt {l n i : Nat} (hl : l < n) (hi : i < n) : swi l i < n := by unfold swi; split <;> (try split) <;> omega

theorem swi_inj {l i j : Nat} (h : swi l i = swi l j) : i = j := by
  unfold swi at h
  split at h <;> split at h <;> (try split at h) <;> (try split at h) <;> omega

theorem swi_swi (l i : Nat) : swi l (swi l i) = i := by
  unfold swi
  split <;> (try split) <;> (try split) <;> omega

/-- G is F with its numbers turned by s, its Phis' first and last entries changed. -/
structure Shuf (F G : FV) (s : Int → Int) : Prop where
  name : G.name = F.name
  out : G.out = F.out
  res : G.res = F.res
  par : G.par.n = F.par.n
  P : G.P = F.P
  blk : G.blk.n = F.blk.n
  B : ∀ j, j < F.blk.n → (G.B j).n = (F.B j).n
  op : ∀ j, j < F.blk.n → ∀ k, k < (F.B j).n → (G.I j k).op = (F.I j k).op
  ty : ∀ j, j < F.blk.n → ∀ k, k < (F.B j).n → (G.I j k).ty = (F.I j k).ty
  sym : ∀ j, j < F.blk.n → ∀ k, k < (F.B j).n → (G.I j k).sym = (F.I j k).sym
  num : ∀ j, j < F.blk.n → ∀ k, k < (F.B j).n → (G.I j k).num = (F.I j k).num
  an : ∀ j, j < F.blk.n → ∀ k, k < (F.B j).n → (G.I j k).args.n = (F.I j k).args.n
  jn : ∀ j, j < F.blk.n → ∀ k, k < (F.B j).n → (G.I j k).into.n = (F.I j k).into.n
  to : ∀ j, j < F.blk.n → ∀ k, k < (F.B j).n → (F.I j k).ty ≠ 0 → (G.I j k).to = s (F.I j k).to
  rows : ∀ j, j < F.blk.n → ∀ k, k < (F.B j).n → ∃ r : Bool, (r = true → (F.I j k).op = 26 ∧ 1 < (F.I j k).into.n) ∧ (∀ i, i < (F.I j k).args.n → G.A j k i = s (F.A j k (if r then swi ((F.I j k).into.n - 1) i else i))) ∧ ∀ i, i < (F.I j k).into.n → G.J j k i = F.J j k (if r then swi ((F.I j k).into.n - 1) i else i)

/-- What the walk asks of a function. -/
structure Ok3 (F : FV) : Prop where
  to : ∀ j, j < F.blk.n → ∀ k, k < (F.B j).n → (F.I j k).ty ≠ 0 → (F.par.n : Int) < (F.I j k).to ∧ (F.I j k).to ≤ allV F
  arg : ∀ j, j < F.blk.n → ∀ k, k < (F.B j).n → ∀ i, i < (F.I j k).args.n → 1 ≤ F.A j k i ∧ F.A j k i ≤ allV F
  phi : ∀ j, j < F.blk.n → ∀ k, k < (F.B j).n → (F.I j k).op = 26 → (F.I j k).into.n = (F.I j k).args.n
  zero : ∀ j, j < F.blk.n → ∀ k, k < (F.B j).n → (F.I j k).ty = 0 → (F.I j k).to = 0
  neat : ∀ (G H : FV) (s : Int → Int), (∀ u v : Int, 1 ≤ u → u ≤ allV F → 1 ≤ v → v ≤ allV F → s u = s v → u = v) → (∀ v : Int, v ≤ F.par.n → s v = v) → Shuf F G s → Neats G H → EqF H F

theorem neats_light {F G : FV} (h : Neats F G) (l : Light F) : Light G := by
  refine ⟨?_, by rw [h.name]; exact l.name, by rw [h.par]; exact l.par, by rw [h.blk]; exact l.blk, fun j hj => ?_, fun j hj k hk => ?_, fun j hj k hk => ?_⟩
  · rw [h.blk, cnt_congr (fun t ht => h.B t ht)]; exact l.all
  all_goals rw [h.blk] at hj
  · rw [h.B j hj]; exact l.ins j hj
  all_goals rw [h.B j hj] at hk
  · rw [h.an j hj k hk]; exact l.args j hj k hk
  · rw [h.jn j hj k hk]; exact l.into j hj k hk

theorem shuf_id (F : FV) : Shuf F F (fun v => v) where
  name := rfl
  out := rfl
  res := rfl
  par := rfl
  P := rfl
  blk := rfl
  B := fun _ _ => rfl
  op := fun _ _ _ _ => rfl
  ty := fun _ _ _ _ => rfl
  sym := fun _ _ _ _ => rfl
  num := fun _ _ _ _ => rfl
  an := fun _ _ _ _ => rfl
  jn := fun _ _ _ _ => rfl
  to := fun _ _ _ _ _ => rfl
  rows := fun _ _ _ _ => ⟨false, (fun h => by cases h), (fun _ _ => rfl), (fun _ _ => rfl)⟩

theorem Ok3.rng {F : FV} (h : Ok3 F) (hn : allV F ≤ 1000) : Rng F :=
  ⟨fun j hj k hk => by
    by_cases t : (F.I j k).ty = 0
    · rw [h.zero j hj k hk t]; constructor <;> decide
    · have := h.to j hj k hk t
      constructor <;> omega, fun j hj k hk i hi => by
    have := h.arg j hj k hk i hi
    constructor <;> omega⟩

/-- What has become of an instruction. -/
def Dn (T : FV) (s : Int → Int) (I : Nat → Nat → IV) (A J : Nat → Nat → Nat → Int) (j k : Nat) : Prop :=
  (∃ t' : Int, I j k = { T.I j k with «to» := t' } ∧ t' = if (T.I j k).ty = 0 then (T.I j k).to else s (T.I j k).to) ∧ ∃ r : Bool, (r = true → (T.I j k).op = 26 ∧ 1 < (T.I j k).into.n) ∧ (∀ i, i < (T.I j k).args.n → A j k i = s (T.A j k (if r then swi ((T.I j k).into.n - 1) i else i))) ∧ ∀ i, i < (T.I j k).into.n → J j k i = T.J j k (if r then swi ((T.I j k).into.n - 1) i else i)

/-- Done up to block b's instruction t, the others as they were. -/
def UpS (T : FV) (s : Int → Int) (b t : Nat) (I : Nat → Nat → IV) (A J : Nat → Nat → Nat → Int) : Prop :=
  ∀ j, j < T.blk.n → ∀ k, k < (T.B j).n → if j < b ∨ j = b ∧ k < t then Dn T s I A J j k else I j k = T.I j k ∧ A j k = T.A j k ∧ J j k = T.J j k

theorem UpS.start (T : FV) (s : Int → Int) : UpS T s 0 0 T.I T.A T.J := fun j hj k hk => by simp

theorem UpS.put {T : FV} {s : Int → Int} {b t : Nat} {I : Nat → Nat → IV} {A J : Nat → Nat → Nat → Int} (h : UpS T s b t I A J) {t' : Int} {a' j' : Nat → Int} (hd : Dn T s (updTo I b t t') (upd A b t a') (upd J b t j') b t) : UpS T s b (t + 1) (updTo I b t t') (upd A b t a') (upd J b t j') := fun j hj k hk => by
  by_cases e : j = b ∧ k = t
  · obtain ⟨rfl, rfl⟩ := e
    rw [if_pos (by omega)]
    exact hd
  · have hh := h j hj k hk
    by_cases c : j < b ∨ j = b ∧ k < t
    · rw [if_pos c] at hh
      rw [if_pos (by omega)]
      unfold Dn at hh ⊢
      rw [updTo_other I t' e, upd_other A a' e, upd_other J j' e]
      exact hh
    · rw [if_neg c] at hh
      rw [if_neg (by omega), updTo_other I t' e, upd_other A a' e, upd_other J j' e]
      exact hh

theorem UpS.next {T : FV} {s : Int → Int} {b : Nat} {I : Nat → Nat → IV} {A J : Nat → Nat → Nat → Int} (h : UpS T s b (T.B b).n I A J) : UpS T s (b + 1) 0 I A J := fun j hj k hk => by
  have hh := h j hj k hk
  by_cases c : j < b ∨ j = b ∧ k < (T.B b).n
  · rw [if_pos c] at hh
    rw [if_pos (by omega)]
    exact hh
  · rw [if_neg c] at hh
    have : j ≠ b := fun e => by subst e; exact c (.inr ⟨rfl, hk⟩)
    rw [if_neg (by omega)]
    exact hh

theorem UpS.shuf {F T : FV} {s : Int → Int} {I : Nat → Nat → IV} {A J : Nat → Nat → Nat → Int} (tw : Twins F T) (h : UpS T s T.blk.n 0 I A J) : Shuf F { T with I := I, A := A, J := J } s := by
  have hd : ∀ j, j < F.blk.n → ∀ k, k < (F.B j).n → Dn T s I A J j k := fun j hj k hk => by
    have := h j (by rw [tw.blk]; exact hj) k (by rw [tw.B j hj]; exact hk)
    rw [if_pos (.inl (by rw [tw.blk]; exact hj))] at this
    exact this
  have ht : ∀ j, j < F.blk.n → ∀ k, k < (F.B j).n → ∃ t' : Int, I j k = { T.I j k with «to» := t' } ∧ t' = if (T.I j k).ty = 0 then (T.I j k).to else s (T.I j k).to := fun j hj k hk => (hd j hj k hk).1
  refine ⟨tw.name, tw.out, tw.res, tw.par, tw.P, tw.blk, tw.B, fun j hj k hk => ?_, fun j hj k hk => ?_, fun j hj k hk => ?_, fun j hj k hk => ?_, fun j hj k hk => ?_, fun j hj k hk => ?_, fun j hj k hk h0 => ?_, fun j hj k hk => ?_⟩
  · obtain ⟨t', e, _⟩ := ht j hj k hk
    show (I j k).op = _
    rw [e]; exact tw.op j hj k hk
  · obtain ⟨t', e, _⟩ := ht j hj k hk
    show (I j k).ty = _
    rw [e]; exact tw.ty j hj k hk
  · obtain ⟨t', e, _⟩ := ht j hj k hk
    show (I j k).sym = _
    rw [e]; exact tw.sym j hj k hk
  · obtain ⟨t', e, _⟩ := ht j hj k hk
    show (I j k).num = _
    rw [e]; exact tw.num j hj k hk
  · obtain ⟨t', e, _⟩ := ht j hj k hk
    show (I j k).args.n = _
    rw [e]; exact tw.an j hj k hk
  · obtain ⟨t', e, _⟩ := ht j hj k hk
    show (I j k).into.n = _
    rw [e]; exact tw.jn j hj k hk
  · obtain ⟨t', e, e2⟩ := ht j hj k hk
    show (I j k).to = _
    rw [e]
    show t' = _
    rw [e2, if_neg (by rw [tw.ty j hj k hk]; exact h0), tw.to j hj k hk]
  · obtain ⟨r, h1, h2, h3⟩ := (hd j hj k hk).2
    rw [tw.op j hj k hk, tw.jn j hj k hk] at h1
    rw [tw.an j hj k hk, tw.jn j hj k hk, tw.A] at h2
    rw [tw.jn j hj k hk, tw.J] at h3
    exact ⟨r, h1, h2, h3⟩

theorem UpS.rng {F T : FV} {s : Int → Int} {I : Nat → Nat → IV} {A J : Nat → Nat → Nat → Int} (tw : Twins F T) (ok : Ok3 F) (hn : allV F ≤ 1000) (hs : ∀ v : Int, 1 ≤ v → v ≤ allV F → 1 ≤ s v ∧ s v ≤ allV F) (h : UpS T s T.blk.n 0 I A J) : Rng { T with I := I, A := A, J := J } := by
  have hd : ∀ j, j < T.blk.n → ∀ k, k < (T.B j).n → Dn T s I A J j k := fun j hj k hk => by
    have := h j hj k hk
    rw [if_pos (.inl hj)] at this
    exact this
  refine ⟨fun j hj k hk => ?_, fun j hj k hk i hi => ?_⟩
  · have hjF : j < F.blk.n := by rw [← tw.blk]; exact hj
    have hkF : k < (F.B j).n := by rw [← tw.B j hjF]; exact hk
    obtain ⟨t', e, e2⟩ := (hd j hj k hk).1
    show W64 (I j k).to
    rw [e]
    show W64 t'
    rw [e2, tw.ty j hjF k hkF, tw.to j hjF k hkF]
    by_cases z : (F.I j k).ty = 0
    · rw [if_pos z, ok.zero j hjF k hkF z]; constructor <;> decide
    · rw [if_neg z]
      have := ok.to j hjF k hkF z
      have := hs (F.I j k).to (by omega) (by omega)
      constructor <;> omega
  · have hjF : j < F.blk.n := by rw [← tw.blk]; exact hj
    have hkF : k < (F.B j).n := by rw [← tw.B j hjF]; exact hk
    obtain ⟨t', e, _⟩ := (hd j hj k hk).1
    have hi' : i < (T.I j k).args.n := by
      have : i < (I j k).args.n := hi
      rw [e] at this
      exact this
    obtain ⟨r, h1, h2, _⟩ := (hd j hj k hk).2
    show W64 (A j k i)
    rw [h2 i hi']
    have hx : (if r = true then swi ((T.I j k).into.n - 1) i else i) < (F.I j k).args.n := by
      rw [← tw.an j hjF k hkF]
      cases r with
      | false => exact hi'
      | true =>
        have := h1 rfl
        have ph := ok.phi j hjF k hkF (by rw [← tw.op j hjF k hkF]; exact this.1)
        rw [← tw.jn j hjF k hkF, ← tw.an j hjF k hkF] at ph
        exact swi_lt (by omega) hi'
    have := ok.arg j hjF k hkF _ hx
    rw [tw.A]
    have := hs _ this.1 this.2
    constructor <;> omega

theorem modE {p N y : Nat} {v nvi : Int} (hN : 0 < N) (hv : (p : Int) < v) (hn : nvi = (p : Int) + N) : ∃ r : Nat, (v - (p : Int) - 1 + (y : Int)).tmod (nvi - (p : Int)) = (r : Int) ∧ r < N ∧ (p : Int) + 1 + (r : Int) = sA p N y v := by
  have e : nvi - (p : Int) = (N : Int) := by omega
  have h1 := Int.emod_nonneg (v - p - 1 + y) (show (N : Int) ≠ 0 by omega)
  have h2 := Int.emod_lt_of_pos (v - p - 1 + y) (show (0 : Int) < N by omega)
  refine ⟨((v - p - 1 + y) % (N : Int)).toNat, ?_, by omega, ?_⟩
  · rw [e, Int.tmod_eq_emod_of_nonneg (by omega)]; omega
  · unfold sA; rw [if_pos hv]; omega

theorem updTo_self {I : Nat → Nat → IV} {j k : Nat} {u : Int} (h : (I j k).to = u) : updTo I j k u = I := by
  funext a b
  unfold updTo
  split
  · next c => obtain ⟨rfl, rfl⟩ := c; rw [← h]
  · rfl

theorem swap_set {x : World} {s : Sl} {f : Nat → Int} {g l : Nat} (h : Ints x s f) (hg : s.a = some ⟨g, 0, none⟩) (hl : l < s.n) : Ints ((x.setCell ⟨g, 0, none⟩ (.int .i64 (f l))).setCell ⟨g, l, none⟩ (.int .i64 (f 0))).drew s (fun i => f (swi l i)) := by
  have h1 := own_set (own_set h hg (k := 0) (by omega) (f l)) hg hl (f 0)
  exact (h1.on (Below.drew (same _))).congr (fun i _ => by
    unfold swi
    by_cases e : i = l
    · subst e
      by_cases z : i = 0
      · subst z; simp
      · simp [z]
    · by_cases z : i = 0
      · subst z; simp [e]
      · simp [e, z])

theorem swap_other {x : World} {s : Sl} {f : Nat → Int} {g l : Nat} {a b : Value} (h : Ints x s f) (hne : ∀ b o, s.a = some ⟨b, o, none⟩ → 0 < s.n → b ≠ g) : Ints ((x.setCell ⟨g, 0, none⟩ a).setCell ⟨g, l, none⟩ b).drew s f :=
  (h.kept ((((Kept.refl (fun q => q ≠ g) x).setCell (fun h => h rfl) a).setCell (fun h => h rfl) b)) hne).on (Below.drew (same _))

theorem swap_turn {p : Nat → Prop} {W x : World} {g l : Nat} {a b : Value} (h : Turn p W x) (hg : p g) : Turn p W ((x.setCell ⟨g, 0, none⟩ a).setCell ⟨g, l, none⟩ b).drew :=
  ((h.setCell (.inl hg) _).setCell (.inl hg) _).drew

theorem shuf_light {F G : FV} {s : Int → Int} (h : Shuf F G s) (l : Light F) : Light G := by
  refine ⟨?_, by rw [h.name]; exact l.name, by rw [h.par]; exact l.par, by rw [h.blk]; exact l.blk, fun j hj => ?_, fun j hj k hk => ?_, fun j hj k hk => ?_⟩
  · rw [h.blk, cnt_congr (fun t ht => h.B t ht)]; exact l.all
  all_goals rw [h.blk] at hj
  · rw [h.B j hj]; exact l.ins j hj
  all_goals rw [h.B j hj] at hk
  · rw [h.an j hj k hk]; exact l.args j hj k hk
  · rw [h.jn j hj k hk]; exact l.into j hj k hk

end Go.Proofs.Ytahjippocejphaa.Shf
