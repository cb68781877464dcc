/-
  Who comes there: flow.Prev. Rows of rows that a call makes itself.
-/
import Derived.Test.YtbmfimojhcdnbaaFlo
import Derived.Test.YtbmfimojhcdnbaaSortF
import Derived.Deep.OwnRows
import Derived.Maps.AppendAt
namespace Go.Proofs.Ytbmfimojhcdnbaa.Flo
open Go.RowKit View Rd Copy Num Ty

set_option linter.unusedVariables false

/-- One number appended to a row of the call's own: and where the row is then. -/
theorem append_at {ops : Array Oper} {rest : List Oper} {o : Oper} {a : Act} {Q : Exit → Act → World → Prop} {w : World} (hgd : o.guard = none) (s x : Operand)
    (ho : o.op = .call { callee := .builtin .append, args := #[s, x], argTypes := #[28, 28] })
    (base : Nat) (v : Value) (xs : List Int) (hs : a.eval s = v) (y : Int) (hown : w.ownsRow base 3 1 v xs.length (xs.map (Value.int .i64)))
    (hx : a.eval x = .slice (some ⟨w.heap.size, 0, none⟩) 1 1)
    (hsm : xs.length ≤ 1000000) (hbase : base ≤ w.heap.size)
    (h : ∀ v' w', w'.ownsRow base 3 1 v' (xs ++ [y]).length ((xs ++ [y]).map (Value.int .i64)) → (w.alloc (.cells #[.int .i64 y] 3)).grownBy w' v.ownBlock → (v'.ownBlock = v.ownBlock ∨ v'.ownBlock = some (w.heap.size + 1)) → wpList Try.prog ops Q rest (a.put o.dst v') w') : wpList Try.prog ops Q (o :: rest) a (w.alloc (.cells #[.int .i64 y] 3)) := by
  obtain ⟨i0, hi, hz0, hz1, hz2⟩ := info_parts info3
  refine wpList_append_own_at _ hgd s x 28 ho base 3 i0 (.int .i64 0) 1 8 underlying28 hi hz0 hz1 hz2 rfl (by decide) v _ _ hs (hown.alloc _) ⟨w.heap.size, 0, none⟩ 1 1 [.int .i64 y] hx rfl (cell_one_new _ _ _) (by intro u hu; simp at hu; subst hu; rfl) (by simp only [maxLen]; omega) (by omega) (by simp; omega) ?_
  intro v' w' h1 h2 _ h4
  exact h v' w' (by simpa using h1) h2 (by simpa using h4)

theorem info28 : (Try.prog.info? 28).map (fun i => (i.zero, i.size, i.bytes)) = some (some (.slice none 0 0), 1, 24) := by kernel_rfl
theorem underlying59 : Try.prog.underlying 59 = some (.slice 28) := by kernel_rfl
theorem size28 : (Try.prog.info? 28).map (fun i => i.size) = some 1 := by kernel_rfl

abbrev Sl.val (s : Sl) : Value := .slice s.a s.n s.c

theorem owns_sl {w : World} {base e z n : Nat} {v : Value} {xs : List Value} (h : w.ownsRow base e z v n xs) : ∃ s : Sl, v = Sl.val s := by
  rcases h.2 with ⟨rfl, _⟩ | ⟨g, cap, cur, rfl, _⟩
  · exact ⟨⟨none, 0, 0⟩, rfl⟩
  · exact ⟨⟨some ⟨g, 0, none⟩, n, cap⟩, rfl⟩

/-- Block M is a row of n rows of the call's own, the i-th is L i; no two share a block. -/
structure Pv (w : World) (M n : Nat) (R : Nat → Sl) (L : Nat → List Nat) : Prop where
  row : w.rowIs M 28 n (fun i => Sl.val (R i))
  own : ∀ i, i < n → w.ownsRow (M + 1) 3 1 (Sl.val (R i)) (ints (L i)).length ((ints (L i)).map (Value.int .i64))
  apart : ∀ i j, i < n → j < n → i ≠ j → ∀ g, (Sl.val (R i)).ownBlock = some g → (Sl.val (R j)).ownBlock ≠ some g

theorem owns_at {w w' : World} {base e z n : Nat} {v : Value} {xs : List Value} (h : w.ownsRow base e z v n xs) (hb : ∀ g, v.ownBlock = some g → g < w.heap.size → w'.heap[g]? = w.heap[g]?) : w'.ownsRow base e z v n xs := by
  refine ⟨h.1, ?_⟩
  rcases h.2 with h | ⟨g, cap, cur, h1, h2, h3, h4⟩
  · exact .inl h
  · exact .inr ⟨g, cap, cur, h1, h2, by rw [hb g (by rw [h1]; rfl) (Array.getElem?_eq_some_iff.1 h3).1]; exact h3, h4⟩

theorem Pv.on {w w' : World} {M n : Nat} {R : Nat → Sl} {L : Nat → List Nat} (hb : Below w.heap.size w w') (h : Pv w M n R L) : Pv w' M n R L :=
  ⟨h.row.of_block (hb.block M h.row.lt), fun i hi => owns_on hb (h.own i hi), h.apart⟩

theorem Pv.congr {w : World} {M n : Nat} {R : Nat → Sl} {L L' : Nat → List Nat} (h : Pv w M n R L) (e : ∀ i, i < n → L i = L' i) : Pv w M n R L' :=
  ⟨h.row, fun i hi => by rw [← e i hi]; exact h.own i hi, h.apart⟩

/-- One row longer by one, and laid back. -/
theorem Pv.step {w w' : World} {M n t : Nat} {R : Nat → Sl} {L : Nat → List Nat} {y : Nat} {s : Sl} (h : Pv w M n R L) (ht : t < n)
    (hown : w'.ownsRow (M + 1) 3 1 (Sl.val s) (ints (L t) ++ [(y : Int)]).length ((ints (L t) ++ [(y : Int)]).map (Value.int .i64))) (hg : (w.alloc (.cells #[.int .i64 y] 3)).grownBy w' (Sl.val (R t)).ownBlock)
    (hat : (Sl.val s).ownBlock = (Sl.val (R t)).ownBlock ∨ (Sl.val s).ownBlock = some (w.heap.size + 1)) :
    Pv (w'.setCell ⟨M, t, none⟩ (Sl.val s)) M n (fun i => if i = t then s else R i) (fun i => if i = t then L t ++ [y] else L i) := by
  have hM := h.row.lt
  have hlow : ∀ i, i < n → ∀ g, (Sl.val (R i)).ownBlock = some g → M + 1 ≤ g ∧ g < w.heap.size := fun i hi g hg => (h.own i hi).lt g hg
  have keep : ∀ i, i < n → i ≠ t → w'.ownsRow (M + 1) 3 1 (Sl.val (R i)) (ints (L i)).length ((ints (L i)).map (Value.int .i64)) := fun i hi hne => by
    refine owns_at ((h.own i hi).alloc (.cells #[.int .i64 y] 3)) (fun g hg' hlt => hg.block g hlt (fun e => ?_))
    exact h.apart i t hi ht hne g hg' e.symm
  have hrow : w'.rowIs M 28 n (fun i => Sl.val (R i)) := (h.row.alloc _).of_block (hg.block M (by simp; omega) (fun e => by have := hlow t ht M e.symm; omega))
  refine ⟨(hrow.set t (Sl.val s)).congr (fun i hi => by split <;> rfl), fun i hi => ?_, fun i j hi hj hne g h1 h2 => ?_⟩
  · by_cases e : i = t
    · subst e
      simp only [if_true]
      have e2 : ints (L i ++ [y]) = ints (L i) ++ [(y : Int)] := by simp [ints]
      rw [e2]
      exact owns_at hown (fun g hg hlt => Below.heap_setCell _ _ _ _ (by have := (hown.lt g hg).1; show g ≠ M; omega))
    · simp only [e, if_false]
      exact owns_at (keep i hi e) (fun g hg hlt => Below.heap_setCell _ _ _ _ (by have := (hlow i hi g hg).1; show g ≠ M; omega))
  · by_cases e1 : i = t
    · subst e1
      have e2 : ¬ j = i := fun e => hne e.symm
      simp only [if_true, e2, if_false] at h1 h2
      rcases hat with h' | h'
      · rw [h'] at h1; exact h.apart i j hi hj hne g h1 h2
      · rw [h'] at h1
        have := (hlow j hj g h2).2
        have := Option.some.inj h1
        omega
    · by_cases e2 : j = t
      · subst e2
        simp only [if_true, e1, if_false] at h1 h2
        rcases hat with h' | h'
        · rw [h'] at h2; exact h.apart i j hi hj hne g h1 h2
        · rw [h'] at h2
          have := (hlow i hi g h1).2
          have := Option.some.inj h2
          omega
      · simp only [e1, e2, if_false] at h1 h2
        exact h.apart i j hi hj hne g h1 h2

/-- Who of the first b goes to i; and of block b's first t. -/
def pvL (F : FV) (b i : Nat) : List Nat := (List.range b).filter (fun a => decide (i ∈ su F a))
def pvn (F : FV) (b t i : Nat) : List Nat := pvL F b i ++ if i ∈ (su F b).take t then [b] else []

theorem pvn_zero (F : FV) (b i : Nat) : pvn F b 0 i = pvL F b i := by simp [pvn]
theorem pvn_all (F : FV) (b i : Nat) : pvn F b (su F b).length i = pvL F (b + 1) i := by
  simp only [pvn, pvL, List.take_length, List.range_succ, List.filter_append]
  by_cases h : i ∈ su F b <;> simp [h]
theorem pvL_lt {F : FV} {b i : Nat} : ∀ x ∈ pvL F b i, x < b := by
  intro x h
  simp [pvL] at h
  exact h.1
theorem mem_pvL {F : FV} {b i x : Nat} : x ∈ pvL F b i ↔ x < b ∧ i ∈ su F x := by simp [pvL]
theorem pvL_le (F : FV) (b i : Nat) : (pvL F b i).length ≤ b := by
  have := List.length_filter_le (fun a => decide (i ∈ su F a)) (List.range b)
  simpa [pvL] using this
theorem pvn_le (F : FV) (b t i : Nat) : (pvn F b t i).length ≤ b + 1 := by
  have := pvL_le F b i
  unfold pvn
  split <;> simp <;> omega

theorem take_succ_mem {l : List Nat} {t i : Nat} (ht : t < l.length) : i ∈ l.take (t + 1) ↔ i ∈ l.take t ∨ i = l.getD t 0 := by
  rw [List.take_succ_eq_append_getElem ht, List.mem_append, List.mem_singleton]
  simp [List.getD, ht]

theorem take_not_mem {l : List Nat} (hl : l.Nodup) {t : Nat} (ht : t < l.length) : l.getD t 0 ∉ l.take t := by
  intro h
  obtain ⟨i, hi, e⟩ := List.mem_take_iff_getElem.1 h
  have e1 : l.getD t 0 = l[t] := by simp [List.getD, ht]
  rw [e1] at e
  have := (List.getElem_inj hl).1 e
  omega

theorem pvn_step {F : FV} {b t : Nat} (ht : t < (su F b).length) (i : Nat) : pvn F b (t + 1) i = if i = (su F b).getD t 0 then pvn F b t i ++ [b] else pvn F b t i := by
  unfold pvn
  by_cases e : i = (su F b).getD t 0
  · rw [if_pos e, if_pos ((take_succ_mem ht).2 (.inr e)), if_neg (by rw [e]; exact take_not_mem (su_nodup F b) ht)]
    simp
  · rw [if_neg e]
    congr 1
    have : i ∈ (su F b).take (t + 1) ↔ i ∈ (su F b).take t := by rw [take_succ_mem ht]; exact ⟨fun h => h.resolve_right e, .inl⟩
    simp [this]

/-- s shares no block with the rows. -/
def Far (s : Sl) (R : Nat → Sl) (n : Nat) : Prop := 0 < s.n → ∀ g, s.a = some ⟨g, 0, none⟩ → ∀ i, i < n → (Sl.val (R i)).ownBlock ≠ some g

theorem row_at {M n x : Nat} (hx : x < n) : ∀ wx, (Instr.indexAt 59 (.slice (some ⟨M, 0, none⟩) n n) (.int .i64 x)).run Try.prog wx = .ok (.pointer (some ⟨M, x, none⟩)) wx := by
  have := index_row (s := ⟨some ⟨M, 0, none⟩, n, n⟩) rfl underlying59 size28 hx
  simpa using this

def PrevIs (F : FV) (w : World) (e : Ending) (w' : World) : Prop :=
  ∃ (M : Nat) (R : Nat → Sl), e = .returned (.slice (some ⟨M, 0, none⟩) F.blk.n F.blk.n) ∧ Pv w' M F.blk.n R (pvL F F.blk.n) ∧ w.heap.size ≤ M ∧ Below w.heap.size w w'

theorem getD_mem {l : List Nat} {t : Nat} (ht : t < l.length) : l.getD t 0 ∈ l := by
  simp [List.getD, ht]

set_option maxRecDepth 10000 in
set_option maxHeartbeats 1000000 in
theorem prev_flow (F : FV) (w : World) (hF : In w F) (hl : Light F) (hj : Jng F) :
    Calls Try.prog 28 #[F.val] w fun e w' => PrevIs F w e w' := by
  have HF := hid hF
  have HL := hid hl
  have HJ := hid hj
  have gb := hl.blk
  have hmk := run_make_row' (P := Try.prog) 59 28 (.slice none 0 0) 24 underlying59 info28 rfl .i64 .i64 F.blk.n (by omega) (by omega)
  clear hF hl hj
  go_enter Try.func28, Try.ntmps28
  go_wp2_with fail
  have p0 : Pv ((w.alloc (.cells (fcells F) 33)).alloc (.cells (madeCells #[.slice none 0 0] F.blk.n) 28)) (w.heap.size + 1) F.blk.n (fun _ => ⟨none, 0, 0⟩) (pvL F 0) := by
    refine ⟨?_, fun i hi => by simp [pvL]; exact World.ownsRow_nil _ _ _ _, fun i j _ _ _ g h => by simp [Value.ownBlock] at h⟩
    have := World.rowIs_made (w.alloc (.cells (fcells F) 33)) (.slice none 0 0) F.blk.n 28
    simpa using this
  have P0 := hid p0
  clear hmk p0
  go_loopw [14] (fun i wr => ∃ b : Nat, b ≤ F.blk.n ∧ i = .int .i64 b ∧ (∃ R, Pv wr (w.heap.size + 1) F.blk.n R (pvL F b)) ∧ FuncAt wr w.heap.size F ∧ Below w.heap.size w wr) (fun i _ => F.blk.n - (intOf i).toNat)
  case atStart => exact ⟨0, Nat.zero_le _, rfl, ⟨_, P0.out⟩, (FuncAt.alloc w F).on (new (same _) _), new (new (same w) _) _⟩
  case round =>
    clear P0
    obtain ⟨b, hb, rfl, ⟨R, hp⟩, hf, hbr⟩ := hrel
    have HP := hid hp
    have HFA := hid hf
    obtain ⟨c0, c1, c2, c3, c4⟩ := hf
    have hwl : w.heap.size + 1 < wr.heap.size := hp.row.lt
    clear hp
    by_cases hlt : b < F.blk.n
    · go_wp2_with fail
      refine (next_flow F b _ (HF.out.on hbr) HL.out HJ.out).mono ?_
      rintro e w1 ⟨s, rfl, hsn, hsi, hsm, hb1⟩
      rw [suI_nat] at hsn hsi
      have far : Far s R F.blk.n := fun h0 g hg i hi e => by
        obtain ⟨g1, h1, h2, h3, _⟩ := hsm h0
        rw [h1] at hg
        have h4 := ((HP.out.own i hi).lt g e).2
        simp at hg
      have FAR := hid far
      clear far
      have p1 := HP.out.on hb1
      have f1 := HFA.out.on hb1
      have hb2 := View.more hbr hb1
      have hz := hb1.size
      have hle := su_le HL.out b
      have SI := hid hsi
      have SM := hid hsm
      have P1 := hid p1
      have F1 := hid f1
      have B2 := hid hb2
      have SN := hid hsn
      have hsn2 : s.n ≤ 20 := by omega
      clear hsi hsm p1 f1 hb2 hb1 HP HFA c0 c1 c2 c3 c4 hsn hbr
      go_wp2_with fail
      go_loopw [21] (fun i wx => ∃ t : Nat, t ≤ s.n ∧ i = .int .i64 t ∧ (∃ R, Pv wx (w.heap.size + 1) F.blk.n R (pvn F b t) ∧ Far s R F.blk.n) ∧ w1.heap.size ≤ wx.heap.size ∧ Ints wx s (fun i => (((su F b).getD i 0 : Nat) : Int)) ∧ FuncAt wx w.heap.size F ∧ Below w.heap.size w wx) (fun i _ => s.n - (intOf i).toNat)
      case atStart => exact ⟨0, Nat.zero_le _, rfl, ⟨R, P1.out.congr (fun i _ => (pvn_zero F b i).symm), FAR.out⟩, Nat.le_refl _, SI.out, F1.out, B2.out⟩
      case round =>
        clear P1 F1 B2 SI FAR
        obtain ⟨t, ht, rfl, ⟨R2, hp, hfar⟩, hw1, hsi, hf, hbr⟩ := hrel
        have FR := hid hfar
        have HP := hid hp
        have HFA := hid hf
        have SI := hid hsi
        have hwl2 : w.heap.size + 1 < wr.heap.size := hp.row.lt
        clear hp hf hsi hfar
        by_cases htl : t < s.n
        · have htl2 : t < (su F b).length := by have := SN.out; omega
          obtain ⟨g1, ga, gl, gt, _⟩ := SM.out (by omega)
          have GA := hid ga
          clear ga
          obtain ⟨ib, io, hiy, hcell⟩ := SI.out.at htl
          have hx : (su F b).getD t 0 < F.blk.n := su_lt F b _ (getD_mem htl2)
          have hstep := pvn_step htl2
          obtain ⟨X, hX⟩ : ∃ X, (su F b).getD t 0 = X := ⟨_, rfl⟩
          simp only [hX] at hcell hx hstep
          have hrow := row_at (M := w.heap.size + 1) hx
          have hrc := HP.out.row.cell hx
          have hrf := HP.out.row.frozen X
          have hpl := pvn_le F b t X
          have STP := hid hstep
          clear hX hstep
          go_wp2_with (at_builtin; refine append_at rfl (.tmp 30) (.tmp 32) rfl (w.heap.size + 1 + 1) (Sl.val (R2 X)) (ints (pvn F b t X)) rfl b (HP.out.own X hx) rfl (by simp; omega) (by omega) ?_; intro v2 w2 hown2 hgr2 hat2; obtain ⟨s2, rfl⟩ := owns_sl hown2; have hk : w2.heap[w.heap.size + 1]? = (wr.alloc (.cells #[.int .i64 b] 3)).heap[w.heap.size + 1]? := hgr2.block _ (by simp; omega) (fun e => by have := ((HP.out.own X hx).lt _ e.symm).1; omega); have hr2 := ((HP.out.row.alloc (.cells #[.int .i64 b] 3)).of_block hk); have hrc2 := hr2.cell hx; have hrf2 := hr2.frozen X; have OW := hid (And.intro hown2 (And.intro hgr2 hat2)); clear hown2 hgr2 hat2 hk hr2 hrc hrf hcell)
          have hz2 := OW.out.2.1.size
          simp only [World.size_alloc] at hz2
          go_round
          case rel =>
            obtain ⟨o1, o2, o3⟩ := OW.out
            have hP := HP.out.step hx o1 o2 o3
            have hb2 : Below w.heap.size w w2 := (new hbr _).grown o2 (by simp; omega) (fun q hq => by have := ((HP.out.own X hx).lt q hq).1; omega)
            have hf2 : FuncAt w2 w.heap.size F := FuncAt.grown (HFA.out.on (new (same _) _)) o2 (fun q hq => by have := ((HP.out.own X hx).lt q hq).1; omega)
            have hi2 : Ints w2 s (fun i => (((su F b).getD i 0 : Nat) : Int)) := by
              refine (SI.out.on (new (same _) (.cells #[.int .i64 b] 3))).kept (p := fun k => k = g1) ⟨o2.size, fun k hk => by subst hk; exact o2.block _ (by simp; omega) (fun e => FR.out (by omega) _ GA.out X hx e.symm)⟩ (fun q off h h0 => ?_)
              rw [GA.out] at h
              simp at h
              exact h.1.symm
            have hi3 : Ints (w2.setCell ⟨w.heap.size + 1, X, none⟩ (Sl.val s2)) s (fun i => (((su F b).getD i 0 : Nat) : Int)) := by
              refine hi2.kept (p := fun k => k = g1) ((Kept.refl _ _).setCell (by show ¬ (w.heap.size + 1 = g1); omega) _) (fun q off h h0 => ?_)
              rw [GA.out] at h
              simp at h
              exact h.1.symm
            refine ⟨t + 1, by omega, by go_num, ⟨_, hP.congr (fun i _ => by rw [STP.out i]; by_cases e : i = X <;> simp [e]), fun h0 g hg i hi e => ?_⟩, by simp; omega, hi3, ?_, hb2.setCell (by simp) _⟩
            · rw [GA.out] at hg
              simp at hg
              subst hg
              by_cases e1 : i = X
              · simp only [e1, if_true] at e
                rcases o3 with h | h
                · rw [h] at e; exact FR.out h0 _ GA.out X hx e
                · rw [h] at e; simp at e; omega
              · simp only [e1, if_false] at e
                exact FR.out h0 _ GA.out i hi e
            · exact hf2.kept ((Kept.refl (fun k => k ≠ w.heap.size + 1) w2).setCell (fun h => h rfl) _) (by show _ ≠ _; omega)
          case measure => simp [intOf]; omega
        · obtain rfl : t = s.n := by omega
          go_wp2_with fail
          go_round
          case rel => exact ⟨b + 1, by omega, by go_num, ⟨R2, HP.out.congr (fun i _ => by rw [SN.out]; exact pvn_all F b i)⟩, HFA.out, hbr⟩
          case measure => simp [intOf]; omega
    · obtain rfl : b = F.blk.n := by omega
      go_wp2_with fail
      go_ret
      exact ⟨w.heap.size + 1, R, rfl, HP.out, by omega, hbr⟩

end Go.Proofs.Ytbmfimojhcdnbaa.Flo
