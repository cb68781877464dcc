/-
  plnref3.Neat: what holds between its steps.
-/
import Derived.Test.YthaedlnefikigaaCopyE
import Derived.Test.YthaedlnefikigaaRise
namespace Go.Proofs.Ythaedlnefikigaa.Own
open Go.RowKit View Rd Copy Srt Num

set_option linter.unusedVariables false

theorem setCell_self {w : World} {a : Addr} {v : Value} (h : w.cell? a = some v) : w.setCell a v = w := by
  have e : (w.setCell a v).heap = w.heap := by
    unfold World.setCell
    apply Array.ext_getElem?
    intro i
    rw [Array.getElem?_modify]
    split
    · next hi =>
      subst hi
      unfold World.cell? at h
      cases hb : w.heap[a.block]? with
      | none => rfl
      | some o =>
        rw [hb] at h
        cases o with
        | cells c el fr =>
          simp only at h
          split at h
          · simp at h
          · next hs =>
            simp only [Option.map_some, if_neg hs]
            congr 2
            apply Array.ext_getElem?
            intro j
            rw [Array.getElem?_setIfInBounds]
            split
            · next hj =>
              subst hj
              split
              · exact h.symm
              · next hn => rw [Array.getElem?_eq_none (by omega)] at h; simp at h
            · rfl
        | _ => simp at h
    · rfl
  show ({ w with heap := (w.setCell a v).heap } : World) = w
  rw [e]

/-- The numbers are given up to block b's instruction t. -/
def RenT (T : FV) (b t : Nat) (I : Nat → Nat → IV) : Prop :=
  ∀ j, j < T.blk.n → ∀ k, k < (T.B j).n → if j < b ∨ j = b ∧ k < t then I j k = { T.I j k with to := newTo T j k } else I j k = T.I j k

theorem RenT.put {F : FV} {b t : Nat} {I : Nat → Nat → IV} (h : RenT F b t I) (hb : b < F.blk.n) (ht : t < (F.B b).n) : RenT F b (t + 1) (updTo I b t (newTo F b t)) := fun j hj k hk => by
  have := h j hj k hk
  by_cases e : j = b ∧ k = t
  · obtain ⟨rfl, rfl⟩ := e
    rw [if_neg (by omega)] at this
    rw [if_pos (by omega), updTo_same, this]
  · rw [updTo_other _ _ e]
    by_cases e2 : j < b ∨ j = b ∧ k < t
    · rw [if_pos e2] at this; rw [if_pos (by omega)]; exact this
    · rw [if_neg e2] at this; rw [if_neg (by omega)]; exact this

theorem RenT.next {F : FV} {b : Nat} {I : Nat → Nat → IV} (h : RenT F b (F.B b).n I) : RenT F (b + 1) 0 I := fun j hj k hk => by
  have := h j hj k hk
  by_cases e2 : j < b ∨ j = b ∧ k < (F.B b).n
  · rw [if_pos e2] at this; rw [if_pos (by omega)]; exact this
  · rw [if_neg e2] at this
    rw [if_neg (fun h => ?_)]
    · exact this
    · rcases h with h | h
      · rcases Nat.lt_or_eq_of_le (Nat.le_of_lt_succ h) with h' | rfl
        · exact e2 (.inl h')
        · exact e2 (.inr ⟨rfl, hk⟩)
      · omega

abbrev Ms (T : FV) (at_ : Id → Nat) (N : Nat) (x : Nat) : Prop := rowsOf T at_ x ∨ x = N + 1

/-- In order and numbered up to block b's instruction t (in order up to its s). -/
structure Half (base N : Nat) (T : FV) (at_ : Id → Nat) (W0 : World) (b t s : Nat) (wr : World) (I : Nat → Nat → IV) (A J : Nat → Nat → Nat → Int) (n : Nat) : Prop where
  own : Own base wr { T with I := I, A := A, J := J } at_
  up : Upto T b s A J
  ren : RenT T b t I
  le : n ≤ lastOf T b + giv (T.I b) t
  map : MapIs wr (N + 1) n (rowMap (allMap T b) (lastOf T b) (T.I b) t)
  turn : Turn (Ms T at_ N) W0 wr
  far : ∀ x, has T x → 0 < (sl T x).n → at_ x < N

theorem MapIs.frozen {w : World} {B n : Nat} {m : Int → Option Int} (h : MapIs w B n m) (i : Nat) : w.frozen? ⟨B, i, none⟩ = false := by
  obtain ⟨D, ⟨es, clock, hb, hr⟩, hv⟩ := h
  simp [World.frozen?, hb]

theorem turn_map {p : Nat → Prop} {w a b : World} {B n n' : Nat} {m m' : Int → Option Int} (h : Turn p w a) (k : a.grownBy b (some B)) (hp : p B) (h1 : MapIs a B n m) (h2 : MapIs b B n' m') : Turn p w b :=
  ⟨k.os.trans h.os, k.tape.trans h.tape, k.output.trans h.output, Nat.le_trans h.size k.size, fun i hi hn => by
    rw [k.block i (Nat.lt_of_lt_of_le hi h.size) (fun e => by have := Option.some.inj e; subst this; exact hn hp)]; exact h.block i hi hn, fun x hx => by
    by_cases e : x.block = B
    · rw [← h.froz x hx]
      obtain ⟨D, ⟨es, clock, hb, hr⟩, hv⟩ := h1
      obtain ⟨D2, ⟨es2, clock2, hb2, hr2⟩, hv2⟩ := h2
      simp [World.frozen?, e, hb, hb2]
    · rw [World.frozen?_of_block (w := a) (k.block x.block (Nat.lt_of_lt_of_le hx h.size) (fun h => e (Option.some.inj h)))]; exact h.froz x hx⟩

theorem own_grown {base : Nat} {w w' : World} {F : FV} {at_ : Id → Nat} {B : Nat} (h : Own base w F at_) (g : w.grownBy w' (some B)) (hB : ∀ b, (∃ x, has F x ∧ 0 < (sl F x).n ∧ b = at_ x) ∨ (∃ o, F.par.a = some ⟨b, o, none⟩ ∧ 0 < F.par.n) ∨ (∃ o, F.blk.a = some ⟨b, o, none⟩ ∧ 0 < F.blk.n) → b ≠ B) : Own base w' F at_ := by
  have hz := g.size
  have kb : ∀ k, k < w.heap.size → k ≠ B → w'.heap[k]? = w.heap[k]? := fun k hk hne => g.block k hk (fun e => hne (Option.some.inj e))
  have kp : Kept (fun k => k < w.heap.size ∧ k ≠ B) w w' := ⟨hz, fun k hk => kb k hk.1 hk.2⟩
  have xne : ∀ x, has F x → 0 < (sl F x).n → at_ x ≠ B := fun x hx h0 => hB _ (.inl ⟨x, hx, h0, rfl⟩)
  have mk : ∀ s : Sl, Mine base w.heap.size w s → (∀ b o, s.a = some ⟨b, o, none⟩ → 0 < s.n → b ≠ B) → Mine base w'.heap.size w' s := fun s m hn h0 => by
    obtain ⟨g, h1, h2, h3, h4⟩ := m h0
    exact ⟨g, h1, h2, by omega, fun i => by rw [World.frozen?_of_block (w := w) (kb g h3 (hn g 0 h1 h0))]; exact h4 i⟩
  refine ⟨⟨?_, ?_, fun j hj => ?_, fun j hj k hk => ?_, fun j hj k hk => ?_⟩, h.adr, h.ge, fun x hx h0 => Nat.lt_of_lt_of_le (h.lt x hx h0) hz, fun x hx h0 i => by rw [World.frozen?_of_block (w := w) (kb _ (h.lt x hx h0) (xne x hx h0))]; exact h.fz x hx h0 i, h.sep, h.par, h.blk, mk _ h.pm (fun b o e h0 => hB b (.inr (.inl ⟨o, e, h0⟩))), mk _ h.bm (fun b o e h0 => hB b (.inr (.inr ⟨o, e, h0⟩)))⟩
  · exact h.inn.par.kept kp fun b o e h0 => ⟨Ints_lt h.inn.par b o e h0, hB b (.inr (.inl ⟨o, e, h0⟩))⟩
  · exact Sls_kept h.inn.blk kp fun b o e h0 => ⟨Sls_lt h.inn.blk b o e h0, hB b (.inr (.inr ⟨o, e, h0⟩))⟩
  · refine Inss_kept (h.inn.ins j hj) kp fun b o e h0 => ⟨Inss_lt (h.inn.ins j hj) b o e h0, ?_⟩
    rw [adr_inj (h.adr (.row j) hj h0) e]; exact xne _ hj h0
  · refine (h.inn.args j hj k hk).kept kp fun b o e h0 => ⟨Ints_lt (h.inn.args j hj k hk) b o e h0, ?_⟩
    rw [adr_inj (h.adr (.arg j k) ⟨hj, hk⟩ h0) e]; exact xne _ ⟨hj, hk⟩ h0
  · refine (h.inn.into j hj k hk).kept kp fun b o e h0 => ⟨Ints_lt (h.inn.into j hj k hk) b o e h0, ?_⟩
    rw [adr_inj (h.adr (.int j k) ⟨hj, hk⟩ h0) e]; exact xne _ ⟨hj, hk⟩ h0

theorem ren_sl {T : FV} {b t : Nat} {I : Nat → Nat → IV} (h : RenT T b t I) {j k : Nat} (hj : j < T.blk.n) (hk : k < (T.B j).n) : (I j k).args = (T.I j k).args ∧ (I j k).into = (T.I j k).into := by
  have := h j hj k hk
  split at this <;> rw [this] <;> exact ⟨rfl, rfl⟩

theorem half_sl {T : FV} {b t : Nat} {I : Nat → Nat → IV} {A J : Nat → Nat → Nat → Int} (h : RenT T b t I) (x : Id) (hx : has T x) : sl { T with I := I, A := A, J := J } x = sl T x := by
  cases x with
  | row j => rfl
  | arg j k => exact (ren_sl h hx.1 hx.2).1
  | int j k => exact (ren_sl h hx.1 hx.2).2

/-- Where rows lie: not at the map. -/
theorem Half.off {base N : Nat} {T : FV} {at_ : Id → Nat} {W0 wr : World} {b t s n : Nat} {I : Nat → Nat → IV} {A J : Nat → Nat → Nat → Int} (h : Half base N T at_ W0 b t s wr I A J n)
    (hp : ∀ g o, T.par.a = some ⟨g, o, none⟩ → 0 < T.par.n → g < N) (hb : ∀ g o, T.blk.a = some ⟨g, o, none⟩ → 0 < T.blk.n → g < N) {wx : World} (g : wr.grownBy wx (some (N + 1))) : Own base wx { T with I := I, A := A, J := J } at_ := by
  refine own_grown h.own g fun x hx => ?_
  rcases hx with ⟨y, hy, h0, e⟩ | ⟨o, e, h0⟩ | ⟨o, e, h0⟩
  · have hy' : has T y := by cases y <;> exact hy
    rw [half_sl h.ren y hy'] at h0
    have := h.far y hy' h0
    omega
  · have := hp x o e h0; omega
  · have := hb x o e h0; omega

theorem Half.ins {base N : Nat} {T : FV} {at_ : Id → Nat} {W0 wr : World} {b t s n : Nat} {I : Nat → Nat → IV} {A J : Nat → Nat → Nat → Int} (h : Half base N T at_ W0 b t s wr I A J n) (hb : b < T.blk.n) (ht : t < (T.B b).n) :
    I b t = T.I b t ∧ InsAt wr (at_ (.row b)) (t * 7) (T.I b t) ∧ (∀ wx, (Instr.indexAt 44 (.slice (T.B b).a (T.B b).n (T.B b).c) (.int .i64 t)).run Try.prog wx = .ok (.pointer (some ⟨at_ (.row b), t * 7, none⟩)) wx) ∧ at_ (.row b) < N ∧ ∀ i, wr.frozen? ⟨at_ (.row b), i, none⟩ = false := by
  have e := h.ren b hb t ht
  rw [if_neg (by omega)] at e
  obtain ⟨h1, h2⟩ := h.own.insAt (j := b) (k := t) hb ht
  have h0 : 0 < (T.B b).n := by omega
  refine ⟨e, ?_, h2, h.far (.row b) hb h0, h.own.fz (.row b) hb h0⟩
  have : ({ T with I := I, A := A, J := J } : FV).I b t = T.I b t := e
  rw [this] at h1
  exact h1

/-- A row that is none of the rows' own stays. -/
theorem Half.setTo {base N : Nat} {T : FV} {at_ : Id → Nat} {W0 wr : World} {b t n : Nat} {I : Nat → Nat → IV} {A J : Nat → Nat → Nat → Int} (h : Half base N T at_ W0 b t (t + 1) wr I A J n) (hb : b < T.blk.n) (ht : t < (T.B b).n) {n' : Nat} (hn : n' ≤ lastOf T b + giv (T.I b) (t + 1))
    {wx : World} (own : Own base wx { T with I := I, A := A, J := J } at_) (map : MapIs wx (N + 1) n' (rowMap (allMap T b) (lastOf T b) (T.I b) (t + 1))) (turn : Turn (Ms T at_ N) W0 wx) {u : Int} (hu : u = newTo T b t) :
    ∃ I', Half base N T at_ W0 b (t + 1) (t + 1) (wx.setCell ⟨at_ (.row b), t * 7 + 2, none⟩ (.int .i64 u)) I' A J n' := by
  subst hu
  have h0 : 0 < (T.B b).n := by omega
  refine ⟨updTo I b t (newTo T b t), own.setTo hb ht _, h.up, h.ren.put hb ht, hn, map_set map (by show N + 1 ≠ at_ (.row b); have := h.far (.row b) hb h0; omega) _, turn.setCell (.inl (.inl ⟨.row b, hb, h0, rfl⟩)) _, h.far⟩

theorem Half.next {base N : Nat} {T : FV} {at_ : Id → Nat} {W0 wr : World} {b n : Nat} {I : Nat → Nat → IV} {A J : Nat → Nat → Nat → Int} (h : Half base N T at_ W0 b (T.B b).n (T.B b).n wr I A J n) : Half base N T at_ W0 (b + 1) 0 0 wr I A J n :=
  ⟨h.own, h.up.next, h.ren.next, by have := h.le; simp only [lastOf, cnt, giv] at this ⊢; omega, h.map, h.turn, h.far⟩

/-- What rise makes of an instruction of one's own. -/
def RiseOwn (base : Nat) (T : FV) (at_ : Id → Nat) (j k : Nat) (w : World) (e : Ending) (w' : World) : Prop :=
  e = .returned (T.I j k).val ∧ ∃ a' j', Put (T.I j k) (T.A j k) (T.J j k) a' j' ∧ Own base w' { T with A := upd T.A j k a', J := upd T.J j k j' } at_ ∧ Turn (rowsOf T at_) w w'

set_option maxHeartbeats 1000000 in
theorem rise_ne (v : IV) (w : World) (hn : v.args.n ≠ v.into.n) : Calls Try.prog 54 #[v.val] w fun e w' => e = .returned v.val ∧ Below w.heap.size w w' := by
  have hN : ((v.args.n : Int) != (v.into.n : Int)) = true := by simp; omega
  go_enter Try.func54, Try.ntmps54
  go_wp2_with fail
  refine bodyPost_ret (v := v.val) (by rw [results_cell rfl]; go_simp) rfl ?_
  refine ⟨rfl, ?_⟩
  repeat (first | refine Below.setCell ?_ (by simp) _ | refine new ?_ _)
  exact same w

set_option maxHeartbeats 1000000 in
theorem rise_zero (v : IV) (w : World) (hn : v.args.n = 0) (hm : v.into.n = 0) : Calls Try.prog 54 #[v.val] w fun e w' => e = .returned v.val ∧ Below w.heap.size w w' := by
  have hN : ((v.args.n : Int) != (v.into.n : Int)) = false := by simp; omega
  have hM : decide ((1 : Int) < (v.into.n : Int)) = false := by simp; omega
  have hM2 : (v.into.n : Int) ≤ 1 := by omega
  have H1 := hid hn
  have H2 := hid hm
  clear hn hm
  go_enter Try.func54, Try.ntmps54
  go_wp2_with fail
  refine wp_loop_rounds 1 ?_
  rw [rounds_succ]
  go_wp2_with fail
  refine bodyPost_ret (v := v.val) (by rw [results_cell rfl]; go_simp) rfl ?_
  refine ⟨rfl, ?_⟩
  repeat (first | refine Below.setCell ?_ (by simp) _ | refine new ?_ _)
  exact same w

theorem rise_own (base : Nat) (T : FV) (at_ : Id → Nat) (w : World) (h : Own base w T at_) {j k : Nat} (hj : j < T.blk.n) (hk : k < (T.B j).n) (hop : (T.I j k).op = 26) (h20 : (T.I j k).into.n ≤ 20) :
    Calls Try.prog 54 #[(T.I j k).val] w fun e w' => RiseOwn base T at_ j k w e w' := by
  have stay : ∀ w', Put (T.I j k) (T.A j k) (T.J j k) (T.A j k) (T.J j k) → Below w.heap.size w w' → RiseOwn base T at_ j k w (.returned (T.I j k).val) w' := fun w' hp hb =>
    ⟨rfl, _, _, hp, by rw [upd_self, upd_self]; exact h.on hb, Turn.of_below hb⟩
  by_cases hn : (T.I j k).args.n = (T.I j k).into.n
  · rcases Nat.eq_zero_or_pos (T.I j k).into.n with h0 | h0
    · refine (rise_zero _ w (by omega) h0).mono ?_
      rintro e w' ⟨rfl, hb⟩
      exact stay w' (by unfold Put; rw [if_pos ⟨hop, hn⟩]; exact ⟨fun x y _ h' => by omega, fun c => rfl⟩) hb
    · have ha : has T (.arg j k) := ⟨hj, hk⟩
      have hi : has T (.int j k) := ⟨hj, hk⟩
      have h0a : 0 < (sl T (.arg j k)).n := by show 0 < (T.I j k).args.n; omega
      have h0i : 0 < (sl T (.int j k)).n := h0
      refine (rise_any (T.I j k) (T.A j k) (T.J j k) (at_ (.arg j k)) (at_ (.int j k)) w (h.inn.args j hj k hk) (h.inn.into j hj k hk) (h.adr _ ha h0a) (h.adr _ hi h0i) (fun e => by have := h.sep _ _ ha hi h0a h0i e; cases this) (h.lt _ ha h0a) (h.lt _ hi h0i) (h.fz _ ha h0a) (h.fz _ hi h0i) hn h0 h20).mono ?_
      rintro e w' ⟨rfl, a', j', ia, ij, hst, htu⟩
      have hp' : ∀ x, (0 < (T.I j k).into.n ∧ ((∃ o, (T.I j k).args.a = some ⟨x, o, none⟩) ∨ ∃ o, (T.I j k).into.a = some ⟨x, o, none⟩)) → (x = at_ (.arg j k) ∧ 0 < (T.I j k).args.n) ∨ (x = at_ (.int j k) ∧ 0 < (T.I j k).into.n) := fun x hx => by
        rcases hx.2 with ⟨o, e⟩ | ⟨o, e⟩
        · exact .inl ⟨adr_inj (h.adr _ ha h0a) e, h0a⟩
        · exact .inr ⟨adr_inj (h.adr _ hi h0i) e, h0⟩
      refine ⟨rfl, a', j', ?_, h.rows htu hj hk hp' ia ij, htu.wide fun x hx => ?_⟩
      · unfold Put; rw [if_pos ⟨hop, hn⟩, hn]; exact hst
      · rcases hp' x hx with ⟨rfl, _⟩ | ⟨rfl, _⟩
        · exact ⟨.arg j k, ha, h0a, rfl⟩
        · exact ⟨.int j k, hi, h0i, rfl⟩
  · refine (rise_ne _ w hn).mono ?_
    rintro e w' ⟨rfl, hb⟩
    exact stay w' (by unfold Put; rw [if_neg (fun h => hn h.2)]; exact ⟨rfl, rfl⟩) hb

end Go.Proofs.Ythaedlnefikigaa.Own
