/-
  dom.nearest: of each place the nearest one over it.
-/
import Derived.Test.YtahjippocejphaaDmd
namespace Go.Proofs.Ytahjippocejphaa.Dm
open Go.RowKit View Rd Copy Num Ty Srt Go.Proofs.Ytahjippocejphaa.Flo Go.Proofs.Ytahjippocejphaa.Lt

set_option linter.unusedVariables false

/-- What nearest leaves: in front of k all are told, the others are parents still. -/
def ovAt (O par : Nat → Nat) (k : Nat) : Nat → Int := fun p => if p = 0 then -1 else if p < k then (O p : Int) else (par p : Int)

set_option maxRecDepth 10000 in
set_option maxHeartbeats 4000000 in
theorem nearest_any {m : Nat} {e : Nat → Nat → Prop} {par H : Nat → Nat} (D : Dfs m e par) (hm : m ≤ 16) (hH : ∀ x, 0 < x → x < m → Head m e x (H x)) (hH0 : H 0 = 0) (g1 c1 g2 c2 g3 n c3 gh ch : Nat) (w : World) (r2 : Ro w g2 m (fun p => if p = 0 then -1 else (par p : Int))) (rh : Ro w gh m (fun p => (H p : Int))) (hc : m ≤ c2) :
    Calls Try.prog 73 #[.agg #[.slice (some ⟨g1, 0, none⟩) m c1, .slice (some ⟨g2, 0, none⟩) m c2, .slice (some ⟨g3, 0, none⟩) n c3], .slice (some ⟨gh, 0, none⟩) m ch] w fun e' w' => ∃ O : Nat → Nat, (∀ p, 0 < p → p < m → Near m e p (O p)) ∧ RowIs m (fun p => if p = 0 then -1 else (O p : Int)) w e' w' := by
  have mp := D.pos
  have R2 := hid r2
  have RH := hid rh
  clear r2 rh
  go_enter Try.func73, Try.ntmps73
  go_wp2_with fail
  refine (clone_any g2 m c2 _ _ (R2.out.on (new (same w) _)) mp (by omega) hc).mono ?_
  rintro e' w1 ⟨go, co, rfl, ro, hgo, hb1⟩
  have B1 := hid (View.more (new (same w) _) hb1)
  have RO := hid ro
  have RH1 := hid (RH.out.on B1.out)
  have hgo1 : w.heap.size < go := by simp at hgo; omega
  have hhl := RH.out.lt
  clear ro hb1 hgo
  go_wp2_with fail
  have ST := hid (show Ro w1 go m (ovAt (fun _ => 0) par 0) from RO.out.congr (fun i hi => by unfold ovAt; simp))
  go_loopw [13] (fun iv wr => ∃ (k : Nat) (O : Nat → Nat), iv = .int .i64 k ∧ k ≤ m ∧ (∀ p, 0 < p → p < k → Near m e p (O p)) ∧ Ro wr go m (ovAt O par k) ∧ Ro wr gh m (fun p => (H p : Int)) ∧ Below w.heap.size w wr) (fun iv _ => m - (intOf iv).toNat)
  case atStart => exact ⟨0, fun _ => 0, rfl, Nat.zero_le _, fun p h1 h2 => by omega, ST.out, RH1.out, B1.out⟩
  case round =>
    clear ST RO RH1 B1
    obtain ⟨k, O, rfl, hk, hn, hro, hrh, hb⟩ := hrel
    have HS := hid (And.intro hn (And.intro hro (And.intro hrh hb)))
    by_cases lk : k < m
    · have i1 := int_at (g := gh) (c := ch) lk
      have p1 := hrh.cell k lk
      clear hn hro hrh hb
      go_wp2_with fail
      have CUR := hid (show ∃ cv : Int, ((k = 0 ∧ cv = -1) ∨ ∃ o : Nat, cv = o ∧ 0 < k ∧ Step m e par k o) ∧ Ro wr go m (fun p => if p = k then cv else ovAt O par k p) ∧ cv ≤ (m : Int) by
        by_cases h0 : k = 0
        · exact ⟨-1, .inl ⟨h0, rfl⟩, HS.out.2.1.congr (fun i hi => by by_cases e : i = k <;> simp [ovAt, e, h0]), by omega⟩
        · have st := Step.start D lk (by omega)
          exact ⟨(par k : Int), .inr ⟨par k, rfl, by omega, st⟩, HS.out.2.1.congr (fun i hi => by by_cases e : i = k <;> simp [ovAt, e, h0]), by have := st.lt; omega⟩)
      go_loopg [] (m) (fun gk wx => ∃ cv : Int, ((k = 0 ∧ cv = -1) ∨ ∃ o : Nat, cv = o ∧ 0 < k ∧ Step m e par k o) ∧ Ro wx go m (fun p => if p = k then cv else ovAt O par k p) ∧ Ro wx gh m (fun p => (H p : Int)) ∧ Below w.heap.size w wx ∧ cv ≤ (gk : Int))
      case atStart =>
        obtain ⟨cv, h1, h2, h3⟩ := CUR.out
        exact ⟨cv, h1, h2, HS.out.2.2.1, HS.out.2.2.2, h3⟩
      case round =>
        clear CUR p1
        obtain ⟨cv, hcv, hro, hrh, hb, hgk⟩ := hrel
        have HT := hid (And.intro hcv (And.intro hro (And.intro hrh hb)))
        have i2 := int_at (g := go) (c := co) lk
        have p2 := hro.cell k lk
        rw [if_pos rfl] at p2
        by_cases hgt : (H k : Int) < cv
        · have t1 : decide ((H k : Int) < cv) = true := by simpa using hgt
          obtain ⟨o, rfl, hk0, hst⟩ : ∃ o : Nat, cv = o ∧ 0 < k ∧ Step m e par k o := by
            rcases hcv with ⟨_, rfl⟩ | h
            · omega
            · exact h
          have ho := hst.lt
          have i3 := int_at (g := go) (n := m) (c := co) (x := o) (by omega)
          have p3 := hro.cell o (by omega)
          have e3 : (if o = k then ((o : Nat) : Int) else ovAt O par k o) = (O o : Int) := by
            rw [if_neg (by omega)]
            unfold ovAt
            rw [if_neg (by omega), if_pos (by omega)]
          rw [e3] at p3
          have z1 := hro.fz k
          have HST := hid hst
          have NEA := hid (HS.out.1 o (by omega) ho)
          clear hcv hro hrh hb hst e3
          go_wp2_with fail
          have hoo := NEA.out.lt
          go_roundg (O o)
          case measure => omega
          case rel =>
            refine ⟨(O o : Int), .inr ⟨O o, rfl, hk0, HST.out.next D lk (hH k hk0 lk) (by omega) NEA.out⟩, (HT.out.2.1.set lk (O o : Int)).congr (fun i hi => ?_), HT.out.2.2.1.setOther (by show gh ≠ go; omega) _, HT.out.2.2.2.setCell (by show _ ≤ go; omega) _, Int.le_refl _⟩
            by_cases e : i = k <;> simp [e]
        · have t1 : decide ((H k : Int) < cv) = false := by simpa using hgt
          clear hcv hro hrh hb
          go_wp2_with fail
          go_round
          case rel =>
            have FIN : ∃ O' : Nat → Nat, (∀ p, 0 < p → p < k + 1 → Near m e p (O' p)) ∧ Ro wr go m (ovAt O' par (k + 1)) := by
              rcases HT.out.1 with ⟨h0, hc⟩ | ⟨o, hc, hk0, hst⟩
              · refine ⟨O, fun p h1 h2 => by omega, HT.out.2.1.congr (fun i hi => ?_)⟩
                by_cases e : i = k
                · simp [ovAt, e, h0, hc]
                · have h1 : ¬ i < 1 := by omega
                  have h2 : i ≠ 0 := by omega
                  simp [ovAt, h0, h1, h2]
              · refine ⟨fun p => if p = k then o else O p, fun p h1 h2 => ?_, HT.out.2.1.congr (fun i hi => ?_)⟩
                · by_cases e : p = k
                  · subst e; simp only [if_true]; exact hst.done D lk (hH p hk0 lk) (by omega)
                  · simp only [if_neg e]; exact HS.out.1 p h1 (by omega)
                · by_cases e : i = k
                  · subst e
                    simp [ovAt, hc, show i ≠ 0 by omega]
                  · have e2 : (i < k + 1) = (i < k) := by apply propext; omega
                    simp [ovAt, e, e2]
            obtain ⟨O', f1, f2⟩ := FIN
            first
              | exact ⟨k + 1, O', by go_num, by omega, f1, f2, HT.out.2.2.1, HT.out.2.2.2⟩
              | ((repeat apply Exists.intro); exact ⟨⟨k + 1, O', by go_num, by omega, f1, f2, HT.out.2.2.1, HT.out.2.2.2⟩, rfl⟩)
          case measure => simp [intOf]; omega
    · obtain rfl : k = m := by omega
      clear hn hro hrh hb
      go_wp2_with fail
      go_ret
      exact ⟨O, HS.out.1, go, co, rfl, HS.out.2.1.congr (fun i hi => by unfold ovAt; simp [hi]), by omega, HS.out.2.2.2⟩

end Go.Proofs.Ytahjippocejphaa.Dm
