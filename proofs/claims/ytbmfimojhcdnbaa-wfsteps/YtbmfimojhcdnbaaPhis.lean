/-
  ir.sortPhis: each Phi's entries in order.
-/
import Derived.Test.YtbmfimojhcdnbaaOwn
namespace Go.Proofs.Ytbmfimojhcdnbaa.Own
open Go.RowKit View Rd Copy Srt

set_option linter.unusedVariables false

/-- What has become of an instruction's rows: in order if it is a Phi whose rows are as many. -/
def Put (v : IV) (a j a' j' : Nat → Int) : Prop :=
  if v.op = 26 ∧ v.args.n = v.into.n then StSort a j a' j' v.args.n else a' = a ∧ j' = j

/-- Done up to block b's instruction t, the others as they were. -/
def Upto (F : FV) (b t : Nat) (A J : Nat → Nat → Nat → Int) : Prop :=
  ∀ j, j < F.blk.n → ∀ k, k < (F.B j).n → if j < b ∨ j = b ∧ k < t then Put (F.I j k) (F.A j k) (F.J j k) (A j k) (J j k) else A j k = F.A j k ∧ J j k = F.J j k

theorem upd_same (f : Nat → Nat → Nat → Int) (j k : Nat) (g : Nat → Int) : upd f j k g j k = g := by simp [upd]
theorem upd_other (f : Nat → Nat → Nat → Int) {j k j' k' : Nat} (g : Nat → Int) (h : ¬ (j' = j ∧ k' = k)) : upd f j k g j' k' = f j' k' := by simp only [upd, if_neg h]

theorem Upto.start (F : FV) : Upto F 0 0 F.A F.J := fun j hj k hk => by simp

theorem Upto.skip {F : FV} {b t : Nat} {A J : Nat → Nat → Nat → Int} (h : Upto F b t A J) (hb : b < F.blk.n) (ht : t < (F.B b).n) (hp : Put (F.I b t) (F.A b t) (F.J b t) (F.A b t) (F.J b t)) : Upto F b (t + 1) A J := fun j hj k hk => by
  have := h j hj k hk
  by_cases e : j = b ∧ k = t
  · obtain ⟨rfl, rfl⟩ := e
    rw [if_neg (by omega)] at this
    rw [if_pos (by omega), this.1, this.2]; exact hp
  · by_cases e2 : j < b ∨ j = b ∧ k < t
    · rw [if_pos e2] at this; rw [if_pos (by omega)]; exact this
    · rw [if_neg e2] at this; rw [if_neg (by omega)]; exact this

theorem Upto.put {F : FV} {b t : Nat} {A J : Nat → Nat → Nat → Int} (h : Upto F b t A J) (hb : b < F.blk.n) (ht : t < (F.B b).n) {a' j' : Nat → Int} (hp : Put (F.I b t) (F.A b t) (F.J b t) a' j') : Upto F b (t + 1) (upd A b t a') (upd J b t j') := fun j hj k hk => by
  have := h j hj k hk
  by_cases e : j = b ∧ k = t
  · obtain ⟨rfl, rfl⟩ := e
    rw [if_pos (by omega), upd_same, upd_same]; exact hp
  · rw [upd_other _ _ e, upd_other _ _ e]
    by_cases e2 : j < b ∨ j = b ∧ k < t
    · rw [if_pos e2] at this; rw [if_pos (by omega)]; exact this
    · rw [if_neg e2] at this; rw [if_neg (by omega)]; exact this

theorem Upto.next {F : FV} {b : Nat} {A J : Nat → Nat → Nat → Int} (h : Upto F b (F.B b).n A J) : Upto F (b + 1) 0 A J := fun j hj k hk => by
  have := h j hj k hk
  by_cases e2 : j < b ∨ j = b ∧ k < (F.B b).n
  · rw [if_pos e2] at this; rw [if_pos (by omega)]; exact this
  · rw [if_neg e2] at this
    rw [if_neg (fun h => ?_)]
    · exact this
    · rcases h with h | h
      · rcases Nat.lt_or_eq_of_le (Nat.le_of_lt_succ h) with h' | rfl
        · exact e2 (.inl h')
        · exact e2 (.inr ⟨rfl, hk⟩)
      · omega

/-- The blocks of a function's rows. -/
def rowsOf (F : FV) (at_ : Id → Nat) (b : Nat) : Prop := ∃ x, has F x ∧ 0 < (sl F x).n ∧ b = at_ x

/-- What sortPhis leaves. -/
def Phis (base : Nat) (F : FV) (at_ : Id → Nat) (w : World) (e : Ending) (w' : World) : Prop :=
  e = .returned (.tuple #[]) ∧ ∃ A J, Own base w' { F with A := A, J := J } at_ ∧ Upto F F.blk.n 0 A J ∧ Turn (rowsOf F at_) w w'

set_option maxHeartbeats 1000000 in
theorem sortPhis_any (base : Nat) (F : FV) (at_ : Id → Nat) (w : World) (h : Own base w F at_) (hl : Light F) :
    Calls Try.prog 63 #[F.val] w fun e w' => Phis base F at_ w e w' := by
  have H := hid h
  have HL := hid hl
  clear h hl
  go_enter Try.func63, Try.ntmps63
  go_wp2_with fail
  go_loopw [9] (fun i wr => ∃ b : Nat, b ≤ F.blk.n ∧ i = .int .i64 b ∧ ∃ A J, Own base wr { F with A := A, J := J } at_ ∧ Upto F b 0 A J ∧ Turn (rowsOf F at_) w wr) (fun i _ => F.blk.n - (intOf i).toNat)
  case atStart => exact ⟨0, Nat.zero_le _, rfl, F.A, F.J, H.out.on (new (same _) _), Upto.start F, Turn.of_below (new (same _) _)⟩
  case round =>
    obtain ⟨b, hb, rfl, A, J, ho, hu, ht⟩ := hrel
    have g4 := HL.out.blk
    by_cases hlt : b < F.blk.n
    · have g5 := HL.out.ins b hlt
      obtain ⟨bb, oo, hix, hck⟩ := ho.inn.blk.at hlt
      have HO := hid (And.intro ho (And.intro hu ht))
      clear ho hu ht
      go_wp2_with fail
      go_loopw [16] (fun i wx => ∃ t : Nat, t ≤ (F.B b).n ∧ i = .int .i64 t ∧ ∃ A J, Own base wx { F with A := A, J := J } at_ ∧ Upto F b t A J ∧ Turn (rowsOf F at_) w wx) (fun i _ => (F.B b).n - (intOf i).toNat)
      case atStart => exact ⟨0, Nat.zero_le _, rfl, A, J, HO.out.1.on (new (same _) _), HO.out.2.1, HO.out.2.2.below (new (same _) _)⟩
      case round =>
        clear HO
        obtain ⟨t, ht0, rfl, A1, J1, ho, hu, ht⟩ := hrel
        by_cases htl : t < (F.B b).n
        · obtain ⟨ib, io, hiy, c0, c1, c2, c3, c4, c5, c6⟩ := (ho.inn.ins b hlt).at htl
          have HO := hid (And.intro ho (And.intro hu ht))
          clear ho hu ht
          by_cases hop : (F.I b t).op = 26
          · have d0 : ((F.I b t).op == 26) = true := by simp [hop]
            have HP := hid hop
            clear hop
            by_cases hnn : (F.I b t).args.n = (F.I b t).into.n
            · have d1 : (((F.I b t).args.n : Int) == ((F.I b t).into.n : Int)) = true := by simp [hnn]
              have HNN := hid hnn
              clear hnn
              go_wp2_with fail
              have o1 := HO.out.1.on (new (same wr) (.cells (F.I b t).cells 39))
              refine (sortEntries_any (F.I b t).args (F.I b t).into (A1 b t) (J1 b t) base _ _ (o1.inn.args b hlt t htl) (o1.inn.into b hlt t htl) (o1.mine (.arg b t) ⟨hlt, htl⟩) (o1.mine (.int b t) ⟨hlt, htl⟩) (Nat.le_refl _) ?_ HNN.out.symm (HL.out.args b hlt t htl)).mono ?_
              · intro g g' hg hg' h0 e
                have h0' : 0 < (F.I b t).into.n := by have := HNN.out; omega
                have e1 := adr_inj (o1.adr (.arg b t) ⟨hlt, htl⟩ h0) hg
                have e2 := adr_inj (o1.adr (.int b t) ⟨hlt, htl⟩ h0') hg'
                have := o1.sep (.arg b t) (.int b t) ⟨hlt, htl⟩ ⟨hlt, htl⟩ h0 h0' (by rw [← e1, ← e2, e])
                cases this
              rintro e w2 ⟨rfl, a', j', ia, ij, hst, htu⟩
              have hA := HO.out.2.1 b hlt t htl
              rw [if_neg (by omega)] at hA
              have hput : Put (F.I b t) (F.A b t) (F.J b t) a' j' := by
                unfold Put; rw [if_pos ⟨HP.out, HNN.out⟩, ← hA.1, ← hA.2]; exact hst
              have hp' : ∀ x, (0 < (F.I b t).args.n ∧ ((∃ o, (F.I b t).args.a = some ⟨x, o, none⟩) ∨ ∃ o, (F.I b t).into.a = some ⟨x, o, none⟩)) → (x = at_ (.arg b t) ∧ 0 < (F.I b t).args.n) ∨ (x = at_ (.int b t) ∧ 0 < (F.I b t).into.n) := fun x hx => by
                have h0' : 0 < (F.I b t).into.n := by have := HNN.out; omega
                rcases hx.2 with ⟨o, h⟩ | ⟨o, h⟩
                · exact .inl ⟨adr_inj (o1.adr (.arg b t) ⟨hlt, htl⟩ hx.1) h, hx.1⟩
                · exact .inr ⟨adr_inj (o1.adr (.int b t) ⟨hlt, htl⟩ h0') h, h0'⟩
              have o2 := o1.rows htu hlt htl hp' ia ij
              have t2 : Turn (rowsOf F at_) w w2 := (HO.out.2.2.below (new (same _) _)).trans (htu.wide fun x hx => by
                rcases hp' x hx with ⟨rfl, h0⟩ | ⟨rfl, h0⟩
                · exact ⟨.arg b t, ⟨hlt, htl⟩, h0, rfl⟩
                · exact ⟨.int b t, ⟨hlt, htl⟩, h0, rfl⟩)
              have FIN := hid (And.intro o2 (And.intro (HO.out.2.1.put hlt htl hput) t2))
              clear o1 o2 t2 hput hA ia ij hst htu hp'
              go_wp2_with fail
              go_round
              case rel => exact ⟨t + 1, by omega, by go_num, _, _, FIN.out.1, FIN.out.2.1, FIN.out.2.2⟩
              case measure => simp [intOf]; omega
            · have d1 : (((F.I b t).args.n : Int) == ((F.I b t).into.n : Int)) = false := by simp; omega
              go_wp2_with fail
              go_round
              case rel => exact ⟨t + 1, by omega, by go_num, A1, J1, HO.out.1.on (new (same _) _), HO.out.2.1.skip hlt htl (by unfold Put; rw [if_neg (fun h => hnn h.2)]; exact ⟨rfl, rfl⟩), HO.out.2.2.below (new (same _) _)⟩
              case measure => simp [intOf]; omega
          · have d0 : ((F.I b t).op == 26) = false := by simp [hop]
            go_wp2_with fail
            go_round
            case rel => exact ⟨t + 1, by omega, by go_num, A1, J1, HO.out.1.on (new (same _) _), HO.out.2.1.skip hlt htl (by unfold Put; rw [if_neg (fun h => hop h.1)]; exact ⟨rfl, rfl⟩), HO.out.2.2.below (new (same _) _)⟩
            case measure => simp [intOf]; omega
        · obtain rfl : t = (F.B b).n := by omega
          have HO := hid (And.intro ho (And.intro hu ht))
          clear ho hu ht
          go_wp2_with fail
          go_round
          case rel => exact ⟨b + 1, by omega, by go_num, A1, J1, HO.out.1, HO.out.2.1.next, HO.out.2.2⟩
          case measure => simp [intOf]; omega
    · obtain rfl : b = F.blk.n := by omega
      have HO := hid (And.intro ho (And.intro hu ht))
      clear ho hu ht
      go_wp2_with fail
      go_end0
      exact ⟨rfl, A, J, HO.out.1, HO.out.2.1, HO.out.2.2⟩

end Go.Proofs.Ytbmfimojhcdnbaa.Own
