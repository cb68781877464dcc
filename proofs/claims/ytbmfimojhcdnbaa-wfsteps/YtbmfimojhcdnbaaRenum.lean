/-
  ir.renumber and ir.Neat: what they leave.
-/
import Derived.Test.YtbmfimojhcdnbaaNum
namespace Go.Proofs.Ytbmfimojhcdnbaa.Own
open Go.RowKit View Rd Copy Srt Num

set_option linter.unusedVariables false

def updTo (I : Nat → Nat → IV) (j k : Nat) (v : Int) : Nat → Nat → IV := fun j' k' => if j' = j ∧ k' = k then { I j' k' with to := v } else I j' k'

theorem updTo_args (I : Nat → Nat → IV) (j k : Nat) (v : Int) (j' k' : Nat) : (updTo I j k v j' k').args = (I j' k').args := by unfold updTo; split <;> rfl
theorem updTo_into (I : Nat → Nat → IV) (j k : Nat) (v : Int) (j' k' : Nat) : (updTo I j k v j' k').into = (I j' k').into := by unfold updTo; split <;> rfl
theorem updTo_same (I : Nat → Nat → IV) (j k : Nat) (v : Int) : updTo I j k v j k = { I j k with to := v } := by simp [updTo]
theorem updTo_other (I : Nat → Nat → IV) {j k j' k' : Nat} (v : Int) (h : ¬ (j' = j ∧ k' = k)) : updTo I j k v j' k' = I j' k' := by simp only [updTo, if_neg h]

theorem sl_updTo (F : FV) (j k : Nat) (v : Int) (x : Id) : sl { F with I := updTo F.I j k v } x = sl F x := by
  cases x with
  | row _ => rfl
  | arg j' k' => exact updTo_args _ _ _ _ _ _
  | int j' k' => exact updTo_into _ _ _ _ _ _

theorem has_updTo (F : FV) (j k : Nat) (v : Int) (x : Id) : has { F with I := updTo F.I j k v } x = has F x := by cases x <;> rfl

theorem InsAt.set2 {w : World} {b o : Nat} {v : IV} (h : InsAt w b o v) (n : Int) : InsAt (w.setCell ⟨b, o + 2, none⟩ (.int .i64 n)) b o { v with to := n } :=
  ⟨cell_other (ne_off (by omega)) h.c0, cell_other (ne_off (by omega)) h.c1, cell_same h.c2, cell_other (ne_off (by omega)) h.c3, cell_other (ne_off (by omega)) h.c4, cell_other (ne_off (by omega)) h.c5, cell_other (ne_off (by omega)) h.c6⟩

theorem InsAt.off {w : World} {b o : Nat} {v : IV} (h : InsAt w b o v) {o' : Nat} (ho : o' < o ∨ o + 6 < o') (u : Value) : InsAt (w.setCell ⟨b, o', none⟩ u) b o v :=
  ⟨cell_other (ne_off (by omega)) h.c0, cell_other (ne_off (by omega)) h.c1, cell_other (ne_off (by omega)) h.c2, cell_other (ne_off (by omega)) h.c3, cell_other (ne_off (by omega)) h.c4, cell_other (ne_off (by omega)) h.c5, cell_other (ne_off (by omega)) h.c6⟩

/-- Where an instruction of one's own lies. -/
theorem Own.insAt {base : Nat} {w : World} {F : FV} {at_ : Id → Nat} (h : Own base w F at_) {j k : Nat} (hj : j < F.blk.n) (hk : k < (F.B j).n) :
    InsAt w (at_ (.row j)) (k * 7) (F.I j k) ∧ (∀ wx, (Instr.indexAt 35 (.slice (F.B j).a (F.B j).n (F.B j).c) (.int .i64 k)).run Try.prog wx = .ok (.pointer (some ⟨at_ (.row j), k * 7, none⟩)) wx) := by
  have h0 : 0 < (sl F (.row j)).n := by show 0 < (F.B j).n; omega
  have ha := h.adr (.row j) hj h0
  obtain ⟨b, off, ha', hc⟩ := (h.inn.ins j hj).2.2.2 h0
  have e := ha.symm.trans ha'
  simp at e
  obtain ⟨e1, e2⟩ := e
  subst e2
  have := hc k hk
  rw [Nat.zero_add, ← e1] at this
  exact ⟨this, by have := index_row (s := F.B j) ha underlying35 size39 hk; simpa using this⟩

theorem Own.setTo {base : Nat} {w : World} {F : FV} {at_ : Id → Nat} (h : Own base w F at_) {j k : Nat} (hj : j < F.blk.n) (hk : k < (F.B j).n) (v : Int) :
    Own base (w.setCell ⟨at_ (.row j), k * 7 + 2, none⟩ (.int .i64 v)) { F with I := updTo F.I j k v } at_ := by
  have h0 : 0 < (sl F (.row j)).n := by show 0 < (F.B j).n; omega
  have kp : Kept (fun b => b ≠ at_ (.row j)) w (w.setCell ⟨at_ (.row j), k * 7 + 2, none⟩ (.int .i64 v)) := (Kept.refl _ _).setCell (fun h => h rfl) _
  have off : ∀ x, has F x → 0 < (sl F x).n → x ≠ .row j → at_ x ≠ at_ (.row j) := fun x hx hx0 hne e => hne (h.sep x (.row j) hx hj hx0 h0 e)
  refine ⟨⟨?_, ?_, fun j1 h1 => ?_, fun j1 h1 k1 h2 => ?_, fun j1 h1 k1 h2 => ?_⟩, fun x hx hx0 => ?_, fun x hx hx0 => ?_, fun x hx hx0 => ?_, fun x hx hx0 i => ?_, fun x y hx hy hx0 hy0 e => ?_, fun x hx hx0 b o e e0 => ?_, fun x hx hx0 b o e e0 => ?_, ?_, ?_⟩
  · exact h.inn.par.kept kp fun b o ha h0' => h.par (.row j) hj h0 b o ha h0'
  · exact Sls_kept h.inn.blk kp fun b o ha h0' => h.blk (.row j) hj h0 b o ha h0'
  · by_cases e : j1 = j
    · subst e
      refine ⟨(h.inn.ins j1 h1).1, (h.inn.ins j1 h1).2.1, (h.inn.ins j1 h1).2.2.1, fun h0' => ⟨at_ (.row j1), 0, h.adr (.row j1) h1 h0', fun i hi => ?_⟩⟩
      rw [Nat.zero_add]
      show InsAt _ _ _ (updTo F.I j1 k v j1 i)
      by_cases e2 : i = k
      · subst e2
        rw [updTo_same]
        exact InsAt.set2 (h.insAt h1 hi).1 v
      · rw [updTo_other _ _ (by simp [e2])]
        exact InsAt.off (h.insAt h1 hi).1 (by omega) _
    · have : (fun k' => updTo F.I j k v j1 k') = F.I j1 := by funext k'; exact updTo_other _ _ (by simp [e])
      show Inss _ (F.B j1) (fun k' => updTo F.I j k v j1 k')
      rw [this]
      refine Inss_kept (h.inn.ins j1 h1) kp fun b o ha h0' => ?_
      rw [adr_inj (h.adr (.row j1) h1 h0') ha]
      exact off (.row j1) h1 h0' (by simp [e])
  · show Ints _ (updTo F.I j k v j1 k1).args (F.A j1 k1)
    rw [updTo_args]
    refine (h.inn.args j1 h1 k1 h2).kept kp fun b o ha h0' => ?_
    rw [adr_inj (h.adr (.arg j1 k1) ⟨h1, h2⟩ h0') ha]
    exact off (.arg j1 k1) ⟨h1, h2⟩ h0' (by simp)
  · show Ints _ (updTo F.I j k v j1 k1).into (F.J j1 k1)
    rw [updTo_into]
    refine (h.inn.into j1 h1 k1 h2).kept kp fun b o ha h0' => ?_
    rw [adr_inj (h.adr (.int j1 k1) ⟨h1, h2⟩ h0') ha]
    exact off (.int j1 k1) ⟨h1, h2⟩ h0' (by simp)
  rotate_right 2
  · intro h0'
    obtain ⟨g, a1, a2, a3, a4⟩ := h.pm h0'
    exact ⟨g, a1, a2, by rw [World.size_setCell]; exact a3, fun i => by rw [World.frozen?_setCell]; exact a4 i⟩
  · intro h0'
    obtain ⟨g, a1, a2, a3, a4⟩ := h.bm h0'
    exact ⟨g, a1, a2, by rw [World.size_setCell]; exact a3, fun i => by rw [World.frozen?_setCell]; exact a4 i⟩
  all_goals rw [has_updTo] at hx; rw [sl_updTo] at hx0
  · rw [sl_updTo]; exact h.adr x hx hx0
  · exact h.ge x hx hx0
  · rw [World.size_setCell]; exact h.lt x hx hx0
  · rw [World.frozen?_setCell]; exact h.fz x hx hx0 i
  · rw [has_updTo] at hy; rw [sl_updTo] at hy0; exact h.sep x y hx hy hx0 hy0 e
  · exact h.par x hx hx0 b o e e0
  · exact h.blk x hx hx0 b o e e0

/-- An instruction's new number. -/
def newTo (F : FV) (j k : Nat) : Int := if (F.I j k).ty = 0 then 0 else ((lastOf F j + giv (F.I j) (k + 1) : Nat) : Int)

/-- What a number becomes. -/
def nm (F : FV) (v : Int) : Int := (allMap F F.blk.n v).getD 0

/-- Renumbered up to block b's instruction t, the others as they were. -/
def Ren (F : FV) (b t : Nat) (I : Nat → Nat → IV) (A : Nat → Nat → Nat → Int) : Prop :=
  ∀ j, j < F.blk.n → ∀ k, k < (F.B j).n → if j < b ∨ j = b ∧ k < t then I j k = { F.I j k with to := newTo F j k } ∧ A j k = fun i => nm F (F.A j k i) else I j k = F.I j k ∧ A j k = F.A j k

theorem Ren.start (F : FV) : Ren F 0 0 F.I F.A := fun j hj k hk => by simp

theorem Ren.put {F : FV} {b t : Nat} {I : Nat → Nat → IV} {A : Nat → Nat → Nat → Int} (h : Ren F b t I A) (hb : b < F.blk.n) (ht : t < (F.B b).n) : Ren F b (t + 1) (updTo I b t (newTo F b t)) (upd A b t (fun i => nm F (F.A b t i))) := fun j hj k hk => by
  have := h j hj k hk
  by_cases e : j = b ∧ k = t
  · obtain ⟨rfl, rfl⟩ := e
    rw [if_neg (by omega)] at this
    rw [if_pos (by omega), upd_same, updTo_same, this.1]; exact ⟨rfl, rfl⟩
  · rw [upd_other _ _ e, updTo_other _ _ e]
    by_cases e2 : j < b ∨ j = b ∧ k < t
    · rw [if_pos e2] at this; rw [if_pos (by omega)]; exact this
    · rw [if_neg e2] at this; rw [if_neg (by omega)]; exact this

theorem Ren.next {F : FV} {b : Nat} {I : Nat → Nat → IV} {A : Nat → Nat → Nat → Int} (h : Ren F b (F.B b).n I A) : Ren F (b + 1) 0 I A := fun j hj k hk => by
  have := h j hj k hk
  by_cases e2 : j < b ∨ j = b ∧ k < (F.B b).n
  · rw [if_pos e2] at this; rw [if_pos (by omega)]; exact this
  · rw [if_neg e2] at this
    rw [if_neg (fun h => ?_)]
    · exact this
    · rcases h with h | h
      · rcases Nat.lt_or_eq_of_le (Nat.le_of_lt_succ h) with h' | rfl
        · exact e2 (.inl h')
        · exact e2 (.inr ⟨rfl, hk⟩)
      · omega

theorem upd_self (f : Nat → Nat → Nat → Int) (j k : Nat) : upd f j k (f j k) = f := by
  funext j' k'
  unfold upd
  split
  · next e => rw [e.1, e.2]
  · rfl

theorem updTo_twice (I : Nat → Nat → IV) (j k : Nat) (u v : Int) : updTo (updTo I j k u) j k v = updTo I j k v := by
  funext j' k'
  unfold updTo
  split <;> rfl

theorem map_set {w : World} {B n : Nat} {m : Int → Option Int} (h : MapIs w B n m) {a : Addr} (ha : B ≠ a.block) (v : Value) : MapIs (w.setCell a v) B n m := h.at_block (Below.heap_setCell _ _ _ _ ha)

theorem ne_blk {b b' o o' : Nat} (h : b ≠ b') : (⟨b, o, none⟩ : Addr) ≠ ⟨b', o', none⟩ := fun e => h (congrArg Addr.block e)

theorem InsAt.blk {w : World} {b o : Nat} {v : IV} (h : InsAt w b o v) {a : Addr} (ha : b ≠ a.block) (u : Value) : InsAt (w.setCell a u) b o v :=
  h.kept ((Kept.refl (fun k => k ≠ a.block) w).setCell (fun h => h rfl) u) ha

/-- What renumber leaves. -/
def Renumbered (base : Nat) (F : FV) (at_ : Id → Nat) (w : World) (e : Ending) (w' : World) : Prop :=
  e = .returned (.tuple #[]) ∧ ∃ I A, Own base w' { F with I := I, A := A } at_ ∧ Ren F F.blk.n 0 I A ∧ Turn (rowsOf F at_) w w'

set_option maxHeartbeats 2000000 in
theorem renumber_any (base : Nat) (F : FV) (at_ : Id → Nat) (w : World) (h : Own base w F at_) (hl : Light F) (hr : Rng F) :
    Calls Try.prog 64 #[F.val] w fun e w' => Renumbered base F at_ w e w' := by
  have H := hid h
  have HL := hid hl
  have HR := hid hr
  have gp := hl.par
  have gb := hl.blk
  have LOW : Hid (∀ x, has F x → 0 < (sl F x).n → at_ x < w.heap.size) := h.lt
  clear h hl hr
  go_enter Try.func64, Try.ntmps64
  go_wp2_with fail
  refine (newNumbers_any F _ (H.out.inn.on (new (same w) _)) HL.out HR.out).mono ?_
  rintro e w1 ⟨n, rfl, hm, hb1⟩
  have f1 : FuncAt w1 w.heap.size F := (FuncAt.alloc w F).on hb1
  obtain ⟨c0, c1, c2, c3, c4⟩ := f1
  have HM := hid (show MapIs w1 (w.heap.size + 1 + 1) n (allMap F F.blk.n) by have := hm; simp only [World.size_alloc] at this; exact this)
  have HO := hid (H.out.on (more (new (same w) _) hb1))
  have HT := hid (show Turn (rowsOf F at_) w w1 from Turn.of_below (more (new (same w) _) hb1))
  clear hm hb1
  simp only [World.size_alloc]
  have GG : Hid (∀ j, j ≤ F.blk.n → cnt (fun j => giv (F.I j) (F.B j).n) j ≤ j * 400) := fun j hj => cnt_le (fun i hi => Nat.le_trans (giv_le _ _) (HL.out.ins i (by omega)))
  go_wp2_with fail
  go_loopw [3, 18] (fun l i wr => ∃ j : Nat, j ≤ F.blk.n ∧ i = .int .i64 j ∧ l = .int .i64 (lastOf F j) ∧ (∃ I A, Own base wr { F with I := I, A := A } at_ ∧ Ren F j 0 I A) ∧ MapIs wr (w.heap.size + 1 + 1) n (allMap F F.blk.n) ∧ Turn (rowsOf F at_) w wr) (fun _ i _ => F.blk.n - (intOf i).toNat)
  case atStart => exact ⟨0, Nat.zero_le _, rfl, by simp [lastOf, cnt], ⟨F.I, F.A, HO.out, Ren.start F⟩, HM.out, HT.out⟩
  case round =>
    clear HM HO HT c0 c1 c2 c3 c4
    obtain ⟨j, hj, rfl, rfl, ⟨I, A, ho, hre⟩, hm, ht⟩ := hrel
    have HO := hid (And.intro ho (And.intro hre (And.intro hm ht)))
    have g1 := GG.out j hj
    by_cases hlt : j < F.blk.n
    · obtain ⟨bb, oo, hix, hck⟩ := ho.inn.blk.at hlt
      have g5 := HL.out.ins j hlt
      have hzz : w.heap.size + 1 + 1 < wr.heap.size := hm.lt
      clear ho hre hm ht
      obtain ⟨L, hL⟩ : ∃ L, lastOf F j = L := ⟨_, rfl⟩
      have hLb : L ≤ 30000 := by
        have : lastOf F j = F.par.n + cnt (fun j => giv (F.I j) (F.B j).n) j := rfl
        omega
      rw [hL]
      have HLL := hid hL
      clear hL
      go_wp2_with fail
      have hN : ∃ N5, wr.heap.size = N5 := ⟨_, rfl⟩
      obtain ⟨N5, hN5⟩ := hN
      rw [hN5] at hzz ⊢
      have HN5 := hid hN5
      clear hN5
      go_loopw [3, 25] (fun l i wx => ∃ t : Nat, t ≤ (F.B j).n ∧ i = .int .i64 t ∧ l = .int .i64 ((L + giv (F.I j) t : Nat) : Int) ∧ (∃ I A, Own base wx { F with I := I, A := A } at_ ∧ Ren F j t I A) ∧ MapIs wx (w.heap.size + 1 + 1) n (allMap F F.blk.n) ∧ Turn (rowsOf F at_) w wx ∧ wx.cell? ⟨N5, 0, none⟩ = some (.slice (F.B j).a (F.B j).n (F.B j).c)) (fun _ i _ => (F.B j).n - (intOf i).toNat)
      case atStart => exact ⟨0, Nat.zero_le _, rfl, by simp [giv], ⟨I, A, HO.out.1.on (new (same _) _), HO.out.2.1⟩, HO.out.2.2.1.on (new (same _) _), HO.out.2.2.2.below (new (same _) _), by rw [← HN5.out]; simp⟩
      case round =>
        clear HO HN5 hck
        obtain ⟨t, ht0, rfl, rfl, ⟨I1, A1, ho, hre⟩, hm, ht, hc5⟩ := hrel
        have HO := hid (And.intro ho (And.intro hre (And.intro hm ht)))
        have g6 := giv_le (F.I j) t
        obtain ⟨L1, hL1⟩ : ∃ L1, L + giv (F.I j) t = L1 := ⟨_, rfl⟩
        rw [hL1]
        have hL1b : L1 ≤ 31000 := by omega
        have HL1 := hid hL1
        clear hL1
        by_cases htl : t < (F.B j).n
        · have hE := hre j hlt t htl
          rw [if_neg (by omega)] at hE
          obtain ⟨hi0, hiy⟩ := ho.insAt (j := j) (k := t) hlt htl
          have hI : InsAt wr (at_ (.row j)) (t * 7) (F.I j t) := by have := hi0; simp only [hE.1] at this; exact this
          have HI := hid hI
          obtain ⟨c0, c1, c2, c3, c4, c5, c6⟩ := hI
          have hrow : at_ (.row j) < w.heap.size := LOW.out (.row j) hlt (by show 0 < (F.B j).n; omega)
          have hfr : ∀ i, wr.frozen? ⟨at_ (.row j), i, none⟩ = false := ho.fz (.row j) hlt (by show 0 < (F.B j).n; omega)
          have ia : Hid (Ints wr (F.I j t).args (F.A j t)) := by
            have := ho.inn.args j hlt t htl
            simp only [hE.1, hE.2] at this
            exact this
          have hargs : Hid (∀ h0 : 0 < (F.I j t).args.n, (F.I j t).args.a = some ⟨at_ (.arg j t), 0, none⟩ ∧ at_ (.arg j t) < w.heap.size ∧ (∀ i, wr.frozen? ⟨at_ (.arg j t), i, none⟩ = false) ∧ at_ (.row j) ≠ at_ (.arg j t)) := fun h0 => by
            have h0' : 0 < (sl { F with I := I1, A := A1 } (.arg j t)).n := by show 0 < (I1 j t).args.n; rw [hE.1]; exact h0
            refine ⟨by have := ho.adr (.arg j t) ⟨hlt, htl⟩ h0'; simp only [sl, hE.1] at this; exact this, LOW.out (.arg j t) ⟨hlt, htl⟩ h0, ho.fz (.arg j t) ⟨hlt, htl⟩ h0', fun e => ?_⟩
            have := ho.sep (.row j) (.arg j t) hlt ⟨hlt, htl⟩ (by show 0 < (F.B j).n; omega) h0' e
            cases this
          have HE := hid hE
          have gR := hid (And.intro hiy hrow)
          obtain ⟨R, hR⟩ : ∃ R, at_ (.row j) = R := ⟨_, rfl⟩
          obtain ⟨Q, hQ⟩ : ∃ Q, at_ (.arg j t) = Q := ⟨_, rfl⟩
          rw [hR] at hiy c0 c1 c2 c3 c4 c5 c6 hrow hfr
          have HRq := hid hR
          have HQq := hid hQ
          clear ho hre hm ht hi0 hE hR hQ
          go_wp2_with fail
          go_loopw [37] (fun i wx => ∃ s : Nat, s ≤ (F.I j t).args.n ∧ i = .int .i64 s ∧ Ints wx (F.I j t).args (mix s (fun i => nm F (F.A j t i)) (F.A j t)) ∧ Turn (fun b => b = at_ (.arg j t) ∧ 0 < (F.I j t).args.n) wr wx ∧ MapIs wx (w.heap.size + 1 + 1) n (allMap F F.blk.n) ∧ InsAt wx R (t * 7) (F.I j t) ∧ wx.cell? ⟨N5, 0, none⟩ = some (.slice (F.B j).a (F.B j).n (F.B j).c) ∧ wr.heap.size ≤ wx.heap.size) (fun i _ => (F.I j t).args.n - (intOf i).toNat)
          case atStart => exact ⟨0, Nat.zero_le _, rfl, ia.out.congr (fun i _ => by simp [mix]), Turn.refl _ _, HO.out.2.2.1, by rw [← HRq.out]; exact HI.out, hc5, Nat.le_refl _⟩
          case round =>
            clear c0 c1 c2 c3 c4 c5 c6
            obtain ⟨s, hs0, rfl, is, hts, hms, hIs, hcs, hws⟩ := hrel
            have HS := hid (And.intro is (And.intro hts (And.intro hms (And.intro hIs hcs))))
            have g20 := HL.out.args j hlt t htl
            by_cases hsl : s < (F.I j t).args.n
            · obtain ⟨ka, kl, kf, kne⟩ := hargs.out (by omega)
              rw [HQq.out] at ka kl kf kne
              rw [HRq.out] at kne
              obtain ⟨x1, y1⟩ := own_at is ka hsl
              have e1 : mix s (fun i => nm F (F.A j t i)) (F.A j t) s = F.A j t s := by simp [mix]
              rw [e1] at y1
              have hlk1 : (Instr.lookup 62 (.map (some (w.heap.size + 1 + 1))) (.int .i64 (F.A j t s)) false).run Try.prog wr.drew = .ok (.int .i64 (nm F (F.A j t s))) wr.drew := MapIs.look (MapIs.at_block (w' := wr.drew) hms rfl) (HR.out.args j hlt t htl s hsl)
              have hf1 : wr.frozen? ⟨Q, s, none⟩ = false := by rw [hts.froz _ (by show Q < _; have := HO.out.2.2.2.size; omega)]; exact kf s
              obtain ⟨c0, c1, c2, c3, c4, c5, c6⟩ := hIs
              have KA := hid ka
              clear is hts hms hcs e1 ka kf
              go_wp2_with fail
              go_region
              go_wp2_with fail
              go_round
              case rel =>
                have is2 := (own_set HS.out.1 KA.out hsl (nm F (F.A j t s))).congr (fun i _ => mix_step s (fun i => nm F (F.A j t i)) (F.A j t) i)
                have hz1 := HO.out.2.2.2.size
                exact ⟨s + 1, by omega, by go_num, is2, (HS.out.2.1.setCell (x := ⟨Q, s, none⟩) (.inl ⟨HQq.out.symm, by omega⟩) _).drew, MapIs.at_block (w' := World.drew _) (map_set HS.out.2.2.1 (a := ⟨Q, s, none⟩) (by show _ ≠ Q; omega) (.int .i64 (nm F (F.A j t s)))) rfl, InsAt.on (Below.drew (same _)) (InsAt.blk HS.out.2.2.2.1 (a := ⟨Q, s, none⟩) kne _), cell_other (ne_blk (by show Q ≠ N5; omega)) HS.out.2.2.2.2, by simp; omega⟩
              case measure => simp [intOf]; omega
            · obtain rfl : s = (F.I j t).args.n := by omega
              have ia2 : Ints wr (F.I j t).args (fun i => nm F (F.A j t i)) := is.congr (fun i hi => by simp [mix, hi])
              have hp' : ∀ x, (x = at_ (.arg j t) ∧ 0 < (F.I j t).args.n) → (x = at_ (.arg j t) ∧ 0 < (I1 j t).args.n) ∨ (x = at_ (.int j t) ∧ 0 < (I1 j t).into.n) := fun x hx => .inl ⟨hx.1, by rw [HE.out.1]; exact hx.2⟩
              have ij2 : Ints wr (I1 j t).into (F.J j t) := by
                refine (HO.out.1.inn.into j hlt t htl).kept hts.kept fun b o ha h0 => ⟨Ints_lt (HO.out.1.inn.into j hlt t htl) b o ha h0, fun hx => ?_⟩
                have e1 := adr_inj (HO.out.1.adr (.int j t) ⟨hlt, htl⟩ h0) ha
                have := HO.out.1.sep (.int j t) (.arg j t) ⟨hlt, htl⟩ ⟨hlt, htl⟩ h0 (by show 0 < (I1 j t).args.n; rw [HE.out.1]; exact hx.2) (by rw [← e1]; exact hx.1)
                cases this
              have o2 := HO.out.1.rows hts (j := j) (k := t) hlt htl hp' (by show Ints wr (I1 j t).args _; rw [HE.out.1]; exact ia2) ij2
              have o3 := o2.setTo (j := j) (k := t) hlt htl 0
              have eJ : upd F.J j t (F.J j t) = F.J := upd_self _ _ _
              simp only [eJ, HRq.out] at o3
              have t3 : Turn (rowsOf F at_) w wr := HO.out.2.2.2.trans (hts.wide fun x hx => ⟨.arg j t, ⟨hlt, htl⟩, hx.2, hx.1⟩)
              have hge : rowsOf F at_ R := ⟨.row j, hlt, by show 0 < (F.B j).n; omega, HRq.out.symm⟩
              have t4 := t3.setCell (x := ⟨R, t * 7 + 2, none⟩) (.inl hge) (.int .i64 0)
              have m4 := map_set hms (a := ⟨R, t * 7 + 2, none⟩) (by show _ ≠ R; omega) (.int .i64 0)
              have x4 : (wr.setCell ⟨R, t * 7 + 2, none⟩ (.int .i64 0)).cell? ⟨N5, 0, none⟩ = some (.slice (F.B j).a (F.B j).n (F.B j).c) := cell_other (ne_blk (by omega)) hcs
              have FIN := hid (And.intro o3 (And.intro t4 (And.intro m4 x4)))
              have fz4 : ∀ i, wr.frozen? ⟨R, i, none⟩ = false := fun i => by rw [hts.froz _ (by show R < _; have := HO.out.2.2.2.size; omega)]; exact hfr i
              have HI4 := hid (InsAt.set2 hIs 0)
              have HRe := hid (HO.out.2.1.put hlt htl)
              obtain ⟨c0, c1, c2, c3, c4, c5, c6⟩ := hIs
              clear is hts hms hcs HS ia2 hp' ij2 o2 o3 eJ t3 t4 m4 x4 HO ia hargs hfr
              go_wp2_with fail
              refine (gives_any { F.I j t with to := 0 } _).mono ?_
              rintro e w3 ⟨rfl, hb3⟩
              have I5 := HI4.out.on hb3
              have O5 := hid (FIN.out.1.on hb3)
              have T5 := hid (FIN.out.2.1.below hb3)
              have M5 := hid (FIN.out.2.2.1.on hb3)
              have X5 := hid (cell_on hb3 FIN.out.2.2.2)
              have fz5 : ∀ i, w3.frozen? ⟨R, i, none⟩ = false := fun i => by rw [hb3.frozen (by show R < _; have := FIN.out.2.1.size; omega), World.frozen?_setCell]; exact fz4 i
              clear c0 c1 c2 c3 c4 c5 c6 HI4 FIN fz4 hb3
              by_cases hty : (F.I j t).ty = 0
              · have t1 : ((F.I j t).ty != 0) = false := by simp [hty]
                go_wp2_with fail
                go_round
                case rel =>
                  have en : newTo F j t = 0 := by simp [newTo, hty]
                  have := HRe.out
                  rw [en] at this
                  exact ⟨t + 1, by omega, by go_num, by rw [← HL1.out]; simp [giv, hty], ⟨_, _, O5.out, this⟩, M5.out, T5.out, X5.out⟩
                case measure => simp [intOf]; omega
              · have t1 : ((F.I j t).ty != 0) = true := by simp [hty]
                have HTY := hid hty
                clear hty
                obtain ⟨c0, c1, c2, c3, c4, c5, c6⟩ := I5
                go_wp2_with fail
                go_round
                case rel =>
                  have eg : giv (F.I j) (t + 1) = giv (F.I j) t + 1 := by simp [giv, HTY.out]
                  have en : newTo F j t = (L1 : Int) + 1 := by simp only [newTo, if_neg HTY.out, eg, HLL.out]; have := HL1.out; omega
                  have o6 := O5.out.setTo (j := j) (k := t) hlt htl ((L1 : Int) + 1)
                  simp only [updTo_twice, HRq.out] at o6
                  have := HRe.out
                  rw [en] at this
                  refine ⟨t + 1, by omega, by go_num, by rw [eg]; have := HL1.out; simp; omega, ⟨_, _, o6, this⟩, map_set M5.out (a := ⟨R, t * 7 + 2, none⟩) (by show _ ≠ R; omega) _, T5.out.setCell (x := ⟨R, t * 7 + 2, none⟩) (.inl hge) _, cell_other (ne_blk (by omega)) X5.out⟩
                case measure => simp [intOf]; omega
        · obtain rfl : t = (F.B j).n := by omega
          clear ho hre hm ht
          go_wp2_with fail
          go_round
          case rel => exact ⟨j + 1, by omega, by go_num, by rw [← HL1.out, ← HLL.out]; simp [lastOf, cnt, Nat.add_assoc], ⟨I1, A1, HO.out.1, HO.out.2.1.next⟩, HO.out.2.2.1, HO.out.2.2.2⟩
          case measure => simp [intOf]; omega
    · obtain rfl : j = F.blk.n := by omega
      clear ho hre hm ht
      go_wp2_with fail
      go_end0
      exact ⟨rfl, I, A, HO.out.1, HO.out.2.1, HO.out.2.2.2⟩

end Go.Proofs.Ytbmfimojhcdnbaa.Own
