/-
  lex: Lines, for texts that are not long.
-/
import Derived.Test.YtlakhndnoaoheaaDoorLxD
namespace Go.Proofs.YtlakhndnoaoheaaDoor.Lx
open Go.RowKit

set_option linter.unusedVariables false

/-- The lines of s lie in w. -/
def LinesAt (s : ByteArray) (w : World) (sl : Sl) : Prop :=
  sl.n = (linesOf (bts s) s.size).length ∧ ∃ f : Nat → Sl, Row 1 SAt w sl f ∧ ∀ i, i < sl.n → ElW s (linesOf (bts s) s.size) w i (f i)

theorem ElW.on {s : ByteArray} {L : List (List (Nat × Nat))} {w w' : World} {i : Nat} {t : Sl} (hb : Below w.heap.size w w') (h : ElW s L w i t) : ElW s L w' i t :=
  ⟨h.1, h.2.on (fun _ _ _ => WAt.on hb)⟩

theorem LinesAt.on {s : ByteArray} {w w' : World} {sl : Sl} (hb : Below w.heap.size w w') (h : LinesAt s w sl) : LinesAt s w' sl := by
  obtain ⟨h1, f, h2, h3⟩ := h
  exact ⟨h1, f, h2.on (fun _ _ _ h => cell_on hb h), fun i hi => (h3 i hi).on hb⟩

def Good (s : ByteArray) : Prop := ∀ i, i < s.size → okC (byteAt s i) = true
def Bad (s : ByteArray) (i : Nat) : Prop := i < s.size ∧ okC (byteAt s i) = false ∧ ∀ j, j < i → okC (byteAt s j) = true

def LinesIs (s : ByteArray) (w : World) (e : Ending) (w' : World) : Prop :=
  ∃ (sl : Sl) (at_ er : Int), e = .returned (.tuple #[.slice sl.a sl.n sl.c, .int .i64 at_, .int .i64 er]) ∧ Below w.heap.size w w' ∧
    ((∃ k : Nat, Bad s k ∧ sl = ⟨none, 0, 0⟩ ∧ at_ = k ∧ er = 1) ∨ (Good s ∧ at_ = 0 ∧ er = 0 ∧ LinesAt s w' sl))

def csL (i : Nat) (t : Sl) : List Value := [slv t]

/-- What holds between the lines. -/
structure LSt (s : ByteArray) (w wr : World) (v : Value) (k from_ : Nat) (t : Nat → Sl) : Prop where
  le : from_ ≤ s.size + 1
  g : Grow w.heap.size 32 1 k wr v csL (ElW s (linesOf (bts s) s.size)) FpS t
  low : Below w.heap.size w wr
  kl : k ≤ (linesOf (bts s) s.size).length
  r : (linesOf (bts s) s.size).drop k = conz (rem (bts s) s.size from_ false none)

theorem LSt.small {s : ByteArray} {w wr : World} {v : Value} {k from_ : Nat} {t : Nat → Sl} (h : LSt s w wr v k from_ t) : k ≤ s.size := by
  have := lines_len (bts s) s.size; have := h.kl; omega

theorem drop_cons {α : Type} {L : List α} {k : Nat} {x : α} {r : List α} (h : L.drop k = x :: r) (d : α) : k < L.length ∧ L.getD k d = x ∧ L.drop (k + 1) = r := by
  have hk : k < L.length := by
    rcases Nat.lt_or_ge k L.length with h' | h'
    · exact h'
    · rw [List.drop_eq_nil_of_le h'] at h; cases h
  rw [List.drop_eq_getElem_cons hk] at h
  injection h with h1 h2
  exact ⟨hk, by simp [List.getD, hk, h1], h2⟩

/-- No words on this line. -/
theorem LSt.skip {s : ByteArray} {w wr w2 : World} {v : Value} {k i n : Nat} {t : Nat → Sl} (h : LSt s w wr v k i t) (hn : n ≤ s.size) (hb : Below wr.heap.size wr w2) (e : rem (bts s) s.size i false none = ([], conz (rem (bts s) s.size (n + 1) false none))) : LSt s w w2 v k (n + 1) t :=
  ⟨by omega, h.g.keep (elW_stable _ _) hb.size (fun b _ hlt => hb.block b hlt), more h.low hb, h.kl, by rw [h.r, e]; rfl⟩

theorem LSt.fin {s : ByteArray} {w wr : World} {v : Value} {k i : Nat} {t : Nat → Sl} (h : LSt s w wr v k i t) (hs : s.size ≤ 4000) (hi : s.size ≤ i) : ∃ sl : Sl, v = slv sl ∧ LinesAt s wr sl := by
  have hr := h.r
  rw [rem_end hi] at hr
  have hk : k = (linesOf (bts s) s.size).length := by
    have := h.kl
    have h2 := congrArg List.length hr
    simp [conz, flush] at h2
    omega
  have hsm := h.small
  obtain ⟨sl, rfl⟩ : ∃ sl : Sl, v = slv sl := by
    rcases h.g.own.2 with ⟨rfl, _⟩ | ⟨g, cap, cur, rfl, _⟩
    · exact ⟨⟨.none, 0, 0⟩, rfl⟩
    · exact ⟨⟨some ⟨g, 0, .none⟩, k, cap⟩, rfl⟩
  obtain ⟨hn, hrow⟩ := grow_row (p := SAt) (f := t) h.g (by omega) (fun _ _ => rfl) (fun g i hi hc => by have := hc 0 (by omega); simpa [csL, SAt] using this)
  exact ⟨sl, rfl, by rw [hn, hk], t, hrow, fun i hi => h.g.el i (by omega)⟩

theorem LSt.next {s : ByteArray} {w wr w2 w4 : World} {v v' : Value} {k i n : Nat} {t : Nat → Sl} {ws : List (Nat × Nat)} {o : Obj} (h : LSt s w wr v k i t) (hs : s.size ≤ 4000) (hn : n ≤ s.size) (hb : Below wr.heap.size wr w2) (hne : ws ≠ [])
    (e : rem (bts s) s.size i false none = (ws, conz (rem (bts s) s.size (n + 1) false none))) {u : Sl} (hu : u.n = ws.length) (hrow : Row 2 (WAt s) w2 u (fun k => ws.getD k (0, 0))) (hf : ∀ b, FpS u b → wr.heap.size ≤ b ∧ b < w2.heap.size)
    (own4 : w4.ownsRow w.heap.size 32 1 v' (k + 1) (fl (fun i => csL i (t i)) k ++ [slv u])) (gr : (w2.alloc o).grownBy w4 v.ownBlock) (hat : v'.ownBlock = v.ownBlock ∨ v'.ownBlock = some (w2.heap.size + 1)) :
    ∃ t, LSt s w w4 v' (k + 1) (n + 1) t := by
  have hr : (linesOf (bts s) s.size).drop k = ws :: conz (rem (bts s) s.size (n + 1) false none) := by
    rw [h.r, e]
    cases ws with
    | nil => exact absurd rfl hne
    | cons x y => rfl
  obtain ⟨k1, k2, k3⟩ := drop_cons hr []
  obtain ⟨t', g'⟩ := h.g.step (elW_stable _ _) h.low.size hb (a := u) (show ElW s _ w2 k u from ⟨by rw [hu, k2], by rw [k2]; exact hrow⟩) hf own4 gr hat
  have z2 := hb.size
  refine ⟨t', by omega, g', ?_, k1, k3⟩
  refine ((more h.low hb).alloc (Nat.le_trans h.low.size z2) _).grown gr (by have := h.low.size; simp; omega) (fun g hg => (h.g.own.lt g hg).1)

set_option maxHeartbeats 4000000 in
theorem lines_any (s : ByteArray) (w : World) (hs : s.size ≤ 4000) :
    Calls Tryd.prog 6 #[.string s] w fun e w' => LinesIs s w e w' := by
  have t0 : decide ((4194304 : Int) < (s.size : Int)) = false := by simp; omega
  go_enter Tryd.func6, Tryd.ntmps6
  go_wp2_with fail
  go_loop [2, 14] (fun y x => y = .slice none 0 0 ∧ ∃ k : Nat, k ≤ s.size ∧ x = .int .i64 k ∧ ∀ j, j < k → okC (byteAt s j) = true) (fun y x => s.size - (intOf x).toNat)
  case atStart => exact ⟨rfl, 0, Nat.zero_le _, rfl, fun j hj => by omega⟩
  case round =>
    obtain ⟨rfl, k, hk, rfl, hall⟩ := hrel
    have HA := hid hall
    clear hall
    by_cases lk : k < s.size
    · have hx := index_str s lk
      have hcc := at_str s lk
      go_wp2_with fail
      refine (mayStand_any _ _).mono ?_
      rintro e w1 ⟨rfl, rfl⟩
      cases hok : okC (byteAt s k) with
      | true =>
        have HO := hid hok
        go_wp2_with fail
        go_round
        case rel => exact ⟨rfl, k + 1, by omega, by go_num, fun j h1 => by rcases Nat.lt_or_eq_of_le (Nat.le_of_lt_succ h1) with h | rfl; exact HA.out j h; exact HO.out⟩
        case measure => simp [intOf]; omega
      | false =>
        have HR := hid (show Bad s k from ⟨lk, hok, HA.out⟩)
        go_wp2_with fail
        go_ret3
        exact ⟨⟨.none, 0, 0⟩, k, 1, rfl, Below.refl _ _, .inl ⟨k, HR.out, rfl, rfl, rfl⟩⟩
    · obtain rfl : k = s.size := by omega
      have HG := hid (show Good s from HA.out)
      clear lk hk HA
      go_wp2_with fail
      go_loopg [2, 6] (s.size + 1) (fun g x a wr => ∃ (v : Value) (k i : Nat) (t : Nat → Sl), v = x ∧ g = s.size + 1 - i ∧ a = .int .i64 i ∧ LSt s w wr v k i t)
      case atStart => exact ⟨_, 0, 0, fun _ => ⟨.none, 0, 0⟩, rfl, rfl, rfl, Nat.zero_le _, ⟨World.ownsRow_nil _ _ _ _, fun i hi => by omega, fun i hi => by omega, fun i j hi => by omega⟩, Below.refl _ _, Nat.zero_le _, rfl⟩
      case round =>
        obtain ⟨v, k, i, t, rfl, hg, rfl, st⟩ := hrel
        have ST := hid st
        have z0 := st.low.size
        have hle := st.le
        have hsm := st.small
        by_cases li : i < s.size
        · clear st
          go_wp2_with fail
          refine (endOfLine_any s i _ (by omega) (by omega)).mono ?_
          rintro e w1 ⟨⟨n, rfl, hn⟩, rfl⟩
          obtain ⟨n1, n2, n3, n4⟩ := hn
          have N4 := hid n4
          have N3 := hid n3
          clear n3 n4
          go_wp2_with fail
          refine (wordsBetween_any s i n _ n1 n2 (by omega) N3.out N4.out).mono ?_
          rintro e w2 ⟨ws, v2, rfl, own2, hrem, hb2⟩
          have hwl : ws.length ≤ s.size := by
            have := rem_words (bts s) s.size (s.size - i) i rfl false
            rw [hrem] at this
            simp only at this
            omega
          obtain ⟨u, rfl, hu, hrow, hf⟩ := words_row own2 (by omega)
          have HREM := hid hrem
          have HB2 := hid hb2
          have HROW := hid hrow
          have HU := hid hu
          have HF := hid hf
          have z2 : w.heap.size ≤ w2.heap.size := Nat.le_trans z0 hb2.size
          have OWN := hid (owns_on hb2 ST.out.g.own)
          clear own2 hrem hb2 hrow hf
          by_cases hne : ws = []
          · subst hne
            have h0 : u.n = 0 := by rw [hu]; rfl
            have t1 : decide ((0 : Int) < (u.n : Int)) = false := by simp [h0]
            have t2 : ¬ (0 < u.n) := by omega
            have t3 : decide (0 < u.n) = false := by simp [h0]
            have HR := hid (ST.out.skip n2 HB2.out HREM.out)
            clear hu h0
            go_wp2_with fail
            go_roundg (s.size + 1 - (n + 1))
            case measure => omega
            case rel => exact ⟨_, k, n + 1, t, rfl, rfl, by go_num, HR.out⟩
          · have hpos : 0 < ws.length := List.length_pos_iff.2 hne
            have t1 : decide ((0 : Int) < (u.n : Int)) = true := by simp; omega
            have t2 : (0 : Int) < (u.n : Int) := by omega
            have HNE := hid hne
            clear hu hne hpos
            go_wp2_with (at_builtin; refine append_gen undLines infoLine rfl (by decide) (by decide) rfl (.tmp 38) (.tmp 41) rfl w.heap.size v k _ rfl OWN.out rfl #[slv u] rfl (by intro u hu; simp at hu; subst hu; rfl) (by omega) z2 ?_; intro v' w4 own4 gr4 at4)
            have HR := hid (ST.out.next hs n2 HB2.out HNE.out HREM.out HU.out HROW.out HF.out own4 gr4 at4)
            clear own4 gr4 at4
            go_wp2_with fail
            go_roundg (s.size + 1 - (n + 1))
            case measure => omega
            case rel =>
              obtain ⟨t', h'⟩ := HR.out
              exact ⟨_, k + 1, n + 1, t', rfl, rfl, by go_num, h'⟩
        · obtain ⟨sl, rfl, hl⟩ := st.fin hs (by omega)
          have HL := hid hl
          have LOW := hid st.low
          clear st hl
          go_wp2_with fail
          go_ret3
          exact ⟨sl, 0, 0, rfl, LOW.out, .inr ⟨HG.out, rfl, rfl, HL.out⟩⟩

end Go.Proofs.YtlakhndnoaoheaaDoor.Lx
