/-
  By the document: plnref3.deep, Order.
-/
import Derived.Test.YtipligpabhjniaaFloT
namespace Go.Proofs.Ytipligpabhjniaa.Flo
open Go.RowKit View Rd Copy Num Ty Srt

set_option linter.unusedVariables false

theorem Rest.inv_skip {N : Nat → List Nat} {t : Nat} {l d d' : List Nat} {m m' : Nat → Bool} (h : Rest N (t :: l) d m d' m') (hm : m t = true) : Rest N l d m d' m' := by
  cases h with
  | skip _ h => exact h
  | go h' _ _ => rw [hm] at h'; cases h'
theorem Rest.inv_go {N : Nat → List Nat} {t : Nat} {l d d' : List Nat} {m m' : Nat → Bool} (h : Rest N (t :: l) d m d' m') (hm : m t = false) : ∃ d1 m1, Rest N (N t) d (upd m t) d1 m1 ∧ Rest N l (d1 ++ [t]) m1 d' m' := by
  cases h with
  | skip h' _ => rw [hm] at h'; cases h'
  | go _ h1 h2 => exact ⟨_, _, h1, h2⟩
theorem Rest.inv_nil {N : Nat → List Nat} {d d' : List Nat} {m m' : Nat → Bool} (h : Rest N [] d m d' m') : d' = d ∧ m' = m := by
  cases h; exact ⟨rfl, rfl⟩
theorem Rest.unmet_le {N : Nat → List Nat} {l d d' : List Nat} {m m' : Nat → Bool} (h : Rest N l d m d' m') (n : Nat) : unmet m' n ≤ unmet m n := by
  obtain ⟨e, _, T⟩ := h.told
  exact unmet_mono (fun x hx => (T.met x).2 (.inl hx)) n

theorem Rest.count {N : Nat → List Nat} {n : Nat} (hN : ∀ b, ∀ x ∈ N b, x < n) {l d d' : List Nat} {m m' : Nat → Bool} (h : Rest N l d m d' m') (hl : ∀ x ∈ l, x < n) : d.length + unmet m n = d'.length + unmet m' n := by
  induction h with
  | nil => rfl
  | skip _ _ ih => exact ih (fun x hx => hl x (List.mem_cons_of_mem _ hx))
  | @go t l d m d1 m1 d' m' hm h1 h2 ih1 ih2 =>
    have a1 := ih1 (hN t)
    have a2 := ih2 (fun x hx => hl x (List.mem_cons_of_mem _ hx))
    have a3 := unmet_upd hm (n := n)
    rw [if_pos (hl t (by simp))] at a3
    simp at a2
    omega

/-- What deep hands back. -/
structure DeepIs (B0 M base : Nat) (w0 w : World) (n : Nat) (dv : Value) (L : List Nat) (m : Nat → Bool) (e : Ending) (w' : World) (dv' : Value) : Prop where
  ret : e = .returned dv'
  own : w'.ownsRow base 3 1 dv' (ints L).length ((ints L).map (Value.int .i64))
  row : w'.rowIs M 4 n (fun i => .bool (m i))
  bel : Below B0 w0 w'
  at_ : dv'.ownBlock = dv.ownBlock ∨ ∃ g, dv'.ownBlock = some g ∧ w.heap.size ≤ g
  kept : Kept (fun k => k < w.heap.size ∧ k ≠ M ∧ some k ≠ dv.ownBlock) w w'

def SdP (F : FV) (A ib io : Nat) (X : Int) (wx : World) : Prop := FuncAt wx A F ∧ wx.cell? ⟨ib, io, none⟩ = some (.int .i64 X)

theorem slice_of {w : World} {base z n : Nat} {e : TypeId} {v : Value} {xs : List Value} (h : w.ownsRow base e z v n xs) : ∃ s : Sl, v = .slice s.a s.n s.c := by
  rcases h.2 with ⟨rfl, _⟩ | ⟨g, cap, cur, rfl, _⟩
  · exact ⟨⟨none, 0, 0⟩, rfl⟩
  · exact ⟨⟨some ⟨g, 0, none⟩, n, cap⟩, rfl⟩

set_option maxRecDepth 10000 in
set_option maxHeartbeats 4000000 in
theorem deep_ref (F : FV) (hl : Light F) (w0 : World) (hF : In w0 F) (M base : Nat) (hM0 : w0.heap.size ≤ M) (hMb : M < base) :
    ∀ (u : Nat) (b : Nat) (d : List Nat) (m : Nat → Bool) (d1 : List Nat) (m1 : Nat → Bool) (dv : Value) (w : World), unmet m F.blk.n = u → b < F.blk.n → m b = false → Rest (su F) (su F b) d (upd m b) d1 m1 →
      d.length + unmet m F.blk.n ≤ F.blk.n → w.ownsRow base 3 1 dv (ints d).length ((ints d).map (Value.int .i64)) → w.rowIs M 4 F.blk.n (fun i => .bool (m i)) → Below w0.heap.size w0 w → base ≤ w.heap.size →
      Calls Try.prog 35 #[F.val, .int .i64 b, .slice (some ⟨M, 0, none⟩) F.blk.n F.blk.n, dv] w fun e w' => ∃ dv', DeepIs w0.heap.size M base w0 w F.blk.n dv (d1 ++ [b]) m1 e w' dv' := by
  have HF := hid hF
  have HL := hid hl
  have gb := hl.blk
  clear hF hl
  intro u
  induction u using Nat.strongRecOn with
  | _ u ih =>
  intro b d m d1 m1 dv w hu hb hmb hR hcnt hown hrow hbel hbase
  have IH := hid ih
  have un := unmet_upd hmb (n := F.blk.n)
  rw [if_pos hb] at un
  obtain ⟨dvs, rfl⟩ := slice_of hown
  have hbx := bool_at (g := M) hb
  have hrc := hrow.cell hb
  rw [hmb] at hrc
  have hrf := hrow.frozen b
  have hwl := hrow.lt
  have row2 : (w.setCell ⟨M, b, none⟩ (.bool true)).rowIs M 4 F.blk.n (fun i => .bool (upd m b i)) := (hrow.set b (.bool true)).congr (fun i hi => (upd_eq m b i).symm)
  have own2 : (w.setCell ⟨M, b, none⟩ (.bool true)).ownsRow base 3 1 (.slice dvs.a dvs.n dvs.c) (ints d).length ((ints d).map (Value.int .i64)) := owns_at hown (fun g hg _ => Below.heap_setCell _ _ _ _ (by have := (hown.lt g hg).1; show g ≠ M; omega))
  have bel2 : Below w0.heap.size w0 (w.setCell ⟨M, b, none⟩ (.bool true)) := hbel.setCell hM0 _
  have R2 := hid row2
  have O2 := hid own2
  have B2 := hid bel2
  have HU := hid (And.intro hu (And.intro un hcnt))
  have HR := hid hR
  have hol := hown.lt
  have HOL := hid hol
  clear ih hu hmb hR hcnt hown hrow hbel un row2 own2 bel2 hol
  go_enter Try.func35, Try.ntmps35
  go_wp2_with fail
  refine (next_ref F b _ (HF.out.on (B2.out.alloc (by have := B2.out.size; exact this) _)) HL.out).mono ?_
  rintro e w2 ⟨s, rfl, hsn, hsi, hsm, hb2⟩
  rw [suI_nat] at hsn hsi
  have hle := su_le HL.out b
  have hs20 : s.n ≤ 20 := by omega
  have SN := hid hsn
  have SI := hid hsi
  have z2 := hb2.size
  simp only [World.size_alloc, World.size_setCell] at z2 hsm
  have SM := hid hsm
  have R3 := hid ((R2.out.alloc (.cells (fcells F) 25)).of_block (hb2.block _ (by simp; omega)))
  have O3 := hid (owns_on hb2 (O2.out.alloc (.cells (fcells F) 25)))
  have B3 := hid ((B2.out.alloc (by have := B2.out.size; exact this) (.cells (fcells F) 25)).trans (hb2.mono (by have := B2.out.size; simp at this ⊢; omega)))
  have f0 := (FuncAt.alloc (w.setCell ⟨M, b, none⟩ (.bool true)) F).on hb2
  simp only [World.size_setCell] at f0
  have F3 := hid f0
  have K3 : Hid (Kept (fun k => k < w.heap.size ∧ k ≠ M) w w2) := ⟨by omega, fun k hk => by
    rw [hb2.block k (by simp; omega), Below.heap_alloc _ _ _ (by simp; exact hk.1), Below.heap_setCell _ _ _ _ (by show k ≠ M; exact hk.2)]⟩
  clear hsn hsi hsm hb2 hle hbx hrc hrf f0 R2 O2 B2
  go_wp2_with fail
  go_loopw [3, 10] (fun o i wr => ∃ (k : Nat) (d' : List Nat) (m' : Nat → Bool), k ≤ s.n ∧ i = .int .i64 k ∧ wr.ownsRow base 3 1 o (ints d').length ((ints d').map (Value.int .i64)) ∧ wr.rowIs M 4 F.blk.n (fun i => .bool (m' i)) ∧ Rest (su F) ((su F b).drop k) d' m' d1 m1 ∧ unmet m' F.blk.n < u ∧ d'.length + 1 + unmet m' F.blk.n ≤ F.blk.n ∧ Below w0.heap.size w0 wr ∧ (o.ownBlock = (Value.slice dvs.a dvs.n dvs.c).ownBlock ∨ ∃ g, o.ownBlock = some g ∧ w2.heap.size ≤ g) ∧ Kept (fun k => k < w2.heap.size ∧ k ≠ M ∧ some k ≠ (Value.slice dvs.a dvs.n dvs.c).ownBlock) w2 wr) (fun _ i _ => s.n - (intOf i).toNat)
  case atStart =>
    obtain ⟨h1, h2, h3⟩ := HU.out
    exact ⟨0, d, upd m b, Nat.zero_le _, rfl, O3.out, R3.out, by rw [List.drop_zero]; exact HR.out, by omega, by omega, B3.out, .inl rfl, Kept.refl _ _⟩
  case round =>
    clear O3 R3 HR B3
    obtain ⟨k, d', m', hk, rfl, hown, hrow, hR, hun, hcnt, hbel, hat, hkept⟩ := hrel
    obtain ⟨dw, rfl⟩ := slice_of hown
    have HR := hid hR
    have HN := hid (And.intro hun hcnt)
    have HO := hid hown
    have HW := hid hrow
    have HB := hid hbel
    have HA := hid hat
    have HK := hid hkept
    have zr := hkept.size
    have nA : ∀ k, k < w2.heap.size → some k ≠ (Value.slice dvs.a dvs.n dvs.c).ownBlock → some k ≠ (Value.slice dw.a dw.n dw.c).ownBlock := fun k hk hne e => by
      rcases hat with h | ⟨g, h, hg⟩
      · rw [h] at e; exact hne e
      · rw [h] at e; have := Option.some.inj e; omega
    have hne1 : ∀ k, w.heap.size ≤ k → some k ≠ (Value.slice dvs.a dvs.n dvs.c).ownBlock := fun k hk e => by have := (HOL.out k e.symm).2; omega
    have NA := hid (And.intro nA hne1)
    have fr : FuncAt wr w.heap.size F := F3.out.kept hkept ⟨by omega, by omega, hne1 _ (Nat.le_refl _)⟩
    have ir : Ints wr s (fun i => (((su F b).getD i 0 : Nat) : Int)) := SI.out.kept hkept (fun g off h h0 => by
      obtain ⟨h1, h2⟩ := SM.out.ge g off h h0
      exact ⟨h2, by omega, hne1 g (by omega)⟩)
    have FR := hid fr
    have IR := hid ir
    obtain ⟨c0, c1, c2, c3, c4⟩ := fr
    clear hR hun hcnt hown hrow hbel hat hkept nA hne1 ir
    by_cases hlt : k < s.n
    · obtain ⟨ib, hga, hg1, hg2, _⟩ := SM.out (by omega)
      obtain ⟨hiy, hcell⟩ := own_at IR.out hga hlt
      have HGA := hid hga
      clear hga
      have hkl : k < (su F b).length := by have := SN.out; omega
      have hx := su_lt F b _ (getD_mem hkl)
      have hdrop : (su F b).drop k = (su F b).getD k 0 :: (su F b).drop (k + 1) := by
        rw [List.drop_eq_getElem_cons hkl]; simp [List.getD, hkl]
      rw [hdrop] at HR
      obtain ⟨X, hX⟩ : ∃ X, (su F b).getD k 0 = X := ⟨_, rfl⟩
      rw [hX] at HR hx
      simp only [hX] at hcell
      have hbX := bool_at (g := M) hx
      have hrX := HW.out.cell hx
      have HXX := hid hX
      clear hX hdrop
      by_cases hmX : m' X = true
      · rw [hmX] at hrX
        have MX := hid hmX
        clear hmX
        go_wp2_with fail
        go_round
        case rel => exact ⟨k + 1, d', m', by omega, by go_num, HO.out, HW.out, HR.out.inv_skip MX.out, HN.out.1, HN.out.2, HB.out, HA.out, HK.out⟩
        case measure => simp [intOf]; omega
      · have hmX' : m' X = false := by simpa using hmX
        rw [hmX'] at hrX
        obtain ⟨dx, mx, hr1, hr2⟩ := HR.out.inv_go hmX'
        have MX := hid (And.intro hmX' (And.intro hr1 hr2))
        have S0 : SdP F w.heap.size ib k X wr.drew := ⟨FR.out.on (Below.drew (same _)), hcell⟩
        have A0 : ∀ wx, SdP F w.heap.size ib k X wx → wx.cell? ⟨w.heap.size, 0, none⟩ = some (.string F.name) := fun wx h => h.1.c0
        have A1 : ∀ wx, SdP F w.heap.size ib k X wx → wx.cell? ⟨w.heap.size, 1, none⟩ = some (.bool F.out) := fun wx h => h.1.c1
        have A2 : ∀ wx, SdP F w.heap.size ib k X wx → wx.cell? ⟨w.heap.size, 2, none⟩ = some (.slice F.par.a F.par.n F.par.c) := fun wx h => h.1.c2
        have A3 : ∀ wx, SdP F w.heap.size ib k X wx → wx.cell? ⟨w.heap.size, 3, none⟩ = some (.int .i64 F.res) := fun wx h => h.1.c3
        have A4 : ∀ wx, SdP F w.heap.size ib k X wx → wx.cell? ⟨w.heap.size, 4, none⟩ = some (.slice F.blk.a F.blk.n F.blk.c) := fun wx h => h.1.c4
        have A5 : ∀ wx, SdP F w.heap.size ib k X wx → wx.cell? ⟨ib, k, none⟩ = some (.int .i64 X) := fun wx h => h.2
        have HC : Hid (∀ wx, Kept (fun k => k < wr.heap.size ∧ k ≠ M ∧ some k ≠ (Value.slice dw.a dw.n dw.c).ownBlock) wr.drew wx → SdP F w.heap.size ib k X wx) := fun wx hkp => by
          refine ⟨(FR.out.on (Below.drew (same _))).kept hkp ⟨by omega, by omega, NA.out.1 _ (by omega) (NA.out.2 _ (Nat.le_refl _))⟩, ?_⟩
          exact cell_kept hkp ⟨by show ib < _; omega, by show ib ≠ M; omega, NA.out.1 _ (by show ib < _; omega) (NA.out.2 _ (by show _ ≤ ib; omega))⟩ (show wr.drew.cell? ⟨ib, k, none⟩ = _ from hcell)
        clear hmX hmX' hr1 hr2
        go_wp2_with fail
        go_region_held3 (fun wx => SdP F w.heap.size ib k X wx) (first | exact S0 | exact S1)
          (first | (go_at_call 35; refine (IH.out _ HN.out.1 X d' m' dx mx _ _ rfl hx MX.out.1 MX.out.2.1 (by have := HN.out.2; omega) (owns_on (Below.drew (same _)) HO.out) (HW.out.of_block rfl) (Below.drew HB.out) (by show base ≤ wr.heap.size; omega)).mono ?_; rintro e w5 ⟨dv5, h5⟩; obtain ⟨rfl, a1, a2, a3, a4, a5⟩ := h5; have S1 := HC.out _ a5; have FIN := hid (And.intro a1 (And.intro a2 (And.intro a3 (And.intro a4 a5)))); clear a1 a2 a3 a4 a5))
        clear A0 A1 A2 A3 A4 A5 S0 S1
        go_wp2_with fail
        go_round
        case rel =>
          obtain ⟨a1, a2, a3, a4, a5⟩ := FIN.out
          have hle := MX.out.2.1.unmet_le F.blk.n
          have hun := unmet_upd MX.out.1 (n := F.blk.n)
          rw [if_pos hx] at hun
          have hlen : dx.length + 1 + 1 + unmet mx F.blk.n ≤ F.blk.n := by
            have := MX.out.2.1.count (su_lt F) (su_lt F X)
            have := HN.out.2
            omega
          refine ⟨k + 1, dx ++ [X], mx, by omega, by go_num, a1, a2, MX.out.2.2, by have := HN.out.1; omega, by simp; omega, a3, ?_, ⟨by have := a5.size; simp at this; have := zr; omega, fun q hq => ?_⟩⟩
          · rcases a4 with h | ⟨g, h, hg⟩
            · rw [h]; exact HA.out
            · exact .inr ⟨g, h, by have : wr.heap.size ≤ g := hg; omega⟩
          · rw [a5.block q ⟨by show q < wr.heap.size; have := hq.1; omega, hq.2.1, NA.out.1 q hq.1 hq.2.2⟩]
            exact HK.out.block q hq
        case measure => simp [intOf]; omega
    · obtain rfl : k = s.n := by omega
      have hdrop : (su F b).drop s.n = [] := by rw [SN.out]; exact List.drop_length
      rw [hdrop] at HR
      obtain ⟨rfl, rfl⟩ := HR.out.inv_nil
      have hdl : d1.length ≤ 16 := by have := HN.out.2; omega
      clear HR hdrop
      go_wp2_with (at_builtin; refine append_at rfl (.tmp 39) (.tmp 41) rfl base _ (ints d1) rfl b HO.out rfl (by simp; omega) (by omega) ?_; intro v5 w5 hown5 hgr5 hat5; have OW := hid (And.intro hown5 (And.intro hgr5 hat5)); clear hown5 hgr5 hat5)
      go_ret
      obtain ⟨o1, o2, o3⟩ := OW.out
      have lo := HO.out.lt
      have zo := o2.size
      simp only [World.size_alloc] at zo
      refine ⟨v5, rfl, by have e2 : ints (d1 ++ [b]) = ints d1 ++ [(b : Int)] := (by simp [ints]); rw [e2]; exact o1, (HW.out.alloc _).of_block (o2.block M (by have := HW.out.lt; simp; omega) (fun e => by have := (lo M e.symm).1; omega)), ?_, ?_, ⟨by omega, fun q hq => ?_⟩⟩
      · exact (HB.out.alloc (by have := HB.out.size; exact this) _).grown o2 (by have := HB.out.size; simp; omega) (fun q hq => by have := (lo q hq).1; omega)
      · rcases o3 with h | h
        · rw [h]
          rcases HA.out with h' | ⟨g, h', hg⟩
          · exact .inl h'
          · exact .inr ⟨g, h', by omega⟩
        · exact .inr ⟨_, h, by omega⟩
      · rw [o2.block q (by simp; omega) (NA.out.1 q (by omega) hq.2.2), Below.heap_alloc _ _ _ (by omega), HK.out.block q ⟨by omega, hq.2.1, hq.2.2⟩]
        exact K3.out.block q ⟨hq.1, hq.2.1⟩

set_option maxRecDepth 10000 in
set_option maxHeartbeats 2000000 in
theorem order_ref (F : FV) (L : List Nat) (w : World) (hL : OrdIs F L) (hF : In w F) (hl : Light F) :
    Calls Try.prog 19 #[F.val] w fun e w' => Gives L w e w' := by
  have HF := hid hF
  have HL := hid hl
  have gb := hl.blk
  have OD := hid hL.ord
  clear hF hl
  rcases hL with ⟨h0, rfl⟩ | ⟨h0, d1, m1, hR, rfl⟩
  · have t0 : ((F.blk.n : Int) == 0) = true := by simp [h0]
    have H0 := hid h0
    clear h0 OD
    go_enter Try.func19, Try.ntmps19
    go_wp2
    go_ret
    exact gives_nil (new (same w) _)
  have t0 : ((F.blk.n : Int) == 0) = false := by simp; omega
  have hmk := run_make_row' (P := Try.prog) 34 4 (.bool false) 1 underlying34 info4 rfl .i64 .i64 F.blk.n (by omega) (by omega)
  have hrow : ((w.alloc (.cells (fcells F) 25)).alloc (.cells (madeCells #[.bool false] F.blk.n) 4)).rowIs (w.heap.size + 1) 4 F.blk.n (fun _ => .bool false) := by
    have := World.rowIs_made (w.alloc (.cells (fcells F) 25)) (.bool false) F.blk.n 4
    simpa using this
  have HRW := hid hrow
  have HR := hid hR
  obtain ⟨D, hD⟩ : ∃ D, d1 ++ [0] = D := ⟨_, rfl⟩
  have DL := hid (show D.length ≤ 16 by have := OD.out.len; rw [← hD]; simp at this ⊢; omega)
  have HD := hid hD
  rw [hD]
  clear hrow hR OD hD
  go_enter Try.func19, Try.ntmps19
  go_wp2_with fail
  refine (deep_ref F HL.out w HF.out (w.heap.size + 1) (w.heap.size + 2) (by omega) (by omega) _ 0 [] (fun _ => false) d1 m1 (.slice none 0 0) _ rfl h0 rfl HR.out (by rw [unmet_none]; simp) (World.ownsRow_nil _ _ _ _) HRW.out (new (new (same w) _) _) (by simp)).mono ?_
  rintro e w1 ⟨dv, h⟩
  obtain ⟨rfl, a1, a2, a3, a4, a5⟩ := h
  rw [HD.out] at a1
  obtain ⟨t, rfl, htn, hti, htm⟩ := ints_of_owns a1 (by have := DL.out; simp; omega)
  have z1 := a5.size
  simp only [World.size_alloc] at z1
  have TI := hid hti
  have htn' : t.n = D.length := by simpa using htn
  have TN := hid htn'
  have ht16 : t.n ≤ 16 := by have := DL.out; omega
  have B1 := hid a3
  have TM := hid htm
  clear hmk HRW a1 a2 a3 a4 a5 htn htn' hti htm
  go_wp2_with fail
  go_loopw [5, 6] (fun o i wr => ∃ k : Nat, k ≤ t.n ∧ i = .int .i64 ((t.n : Int) - 1 - k) ∧ wr.ownsRow w1.heap.size 3 1 o (ints (D.reverse.take k)).length ((ints (D.reverse.take k)).map (Value.int .i64)) ∧ Below w1.heap.size w1 wr) (fun _ i _ => (intOf i + 1).toNat)
  case atStart => exact ⟨0, Nat.zero_le _, by simp, World.ownsRow_nil _ _ _ _, same w1⟩
  case round =>
    obtain ⟨k, hk, rfl, hown, hb⟩ := hrel
    have HO := hid hown
    clear hown
    by_cases hlt : k < t.n
    · obtain ⟨j, hj⟩ : ∃ j : Nat, t.n = k + 1 + j := ⟨t.n - k - 1, by omega⟩
      have e1 : (t.n : Int) - 1 - k = j := by omega
      rw [e1]
      obtain ⟨ib, io, hiy, hcell⟩ := (TI.out.on hb).at (k := j) (by omega)
      rw [getD_ints D j (by have := TN.out; omega)] at hcell
      have hstep : D.reverse.take (k + 1) = D.reverse.take k ++ [D.getD j 0] := by
        have hk2 : k < D.reverse.length := by have := TN.out; simp; omega
        rw [List.take_succ_eq_append_getElem hk2]
        congr 1
        have h2 : D.length - 1 - k = j := by have := TN.out; omega
        have h3 : j < D.length := by have := TN.out; omega
        simp [List.getD, h2, h3]
      obtain ⟨X, hX⟩ : ∃ X, D.getD j 0 = X := ⟨_, rfl⟩
      rw [hX] at hstep hcell
      have hlen : (D.reverse.take k).length = k := by have := TN.out; simp; omega
      have ST := hid (And.intro hstep (And.intro hj e1))
      have LN := hid hlen
      have zb := hb.size
      have hj16 : j < 16 := by omega
      clear hstep hX hlen hj e1
      go_wp2_with (at_builtin; refine append_one rfl (.tmp 26) (.tmp 31) rfl w1.heap.size _ (ints (D.reverse.take k)) rfl (X : Int) HO.out rfl (by have := LN.out; simp at this ⊢; omega) (by omega) ?_; intro v5 w5 hown5 hgr5; have OW := hid (And.intro hown5 hgr5); clear hown5 hgr5)
      go_round
      case rel =>
        obtain ⟨o1, o2⟩ := OW.out
        obtain ⟨h1, h2, h3⟩ := ST.out
        refine ⟨k + 1, by omega, ?_, ?_, (hb.alloc zb _).grown o2 (by simp; omega) (fun q hq => (HO.out.lt q hq).1)⟩
        · congr 1; omega
        · have e2 : ints (D.reverse.take (k + 1)) = ints (D.reverse.take k) ++ [(X : Int)] := by rw [h1]; simp [ints]
          rw [e2]; exact o1
      case measure => (simp [intOf]) <;> omega
    · have e1 : (t.n : Int) - 1 - k = -1 := by omega
      rw [e1]
      have ek : k = t.n := by omega
      have EK := hid ek
      clear e1 ek
      go_wp2_with fail
      go_ret
      have hall : D.reverse.take k = D.reverse := by rw [EK.out, TN.out]; exact List.take_of_length_le (by simp)
      rw [hall] at HO
      have g := gives_of_owns (w := w1) HO.out (by have := DL.out; simp; omega) hb (Nat.le_refl _)
      obtain ⟨s, p1, p2, p3, p4, p5⟩ := g
      exact ⟨s, p1, p2, p3, p4.wide (by omega) (Nat.le_refl _), B1.out.trans (hb.mono (by omega))⟩

end Go.Proofs.Ytipligpabhjniaa.Flo
