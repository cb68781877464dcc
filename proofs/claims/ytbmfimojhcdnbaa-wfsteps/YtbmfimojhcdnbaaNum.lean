/-
  The numbers of a function's values: the map that ir.newNumbers makes.
-/
import Derived.Test.YtbmfimojhcdnbaaPhis
import Derived.Maps.OwnSet
import Derived.Maps.OwnOps
namespace Go.Proofs.Ytbmfimojhcdnbaa.Num
open Go.RowKit View Rd Copy Srt Own
open Go.Maps (Keyed int_keyed keyOf_int_mk)

set_option linter.unusedVariables false

def W64 (n : Int) : Prop := -9223372036854775808 ≤ n ∧ n ≤ 9223372036854775807

theorem underlying3 : Try.prog.underlying 3 = some (.int .i64) := by kernel_rfl
theorem underlying62 : Try.prog.underlying 62 = some (.map 3 3) := by kernel_rfl
theorem law3 : Keyed Try.prog 3 := int_keyed underlying3
theorem zero3 (w : World) : (zeroValue 3).run Try.prog w = .ok (.int .i64 0) w := by kernel_rfl

theorem wf64 {n : Int} (h : W64 n) : (Lit.int .i64 n).wf = true := WalkArith.wf_i64 (by have := h.1; have := h.2; omega)

/-- Block B is a map of at most n entries that is m. -/
def MapIs (w : World) (B n : Nat) (m : Int → Option Int) : Prop :=
  ∃ D : DataW Unit, w.ownsMap Try.prog 3 (plainElem Try.prog 3) B n D ∧ ∀ v, Maps.has D (.int .i64 v) = (m v).isSome ∧ D.atKey (.int .i64 v) (.lit (.int .i64 0)) = .lit (.int .i64 ((m v).getD 0))

theorem MapIs.at_block {w w' : World} {B n : Nat} {m : Int → Option Int} (h : MapIs w B n m) (e : w'.heap[B]? = w.heap[B]?) : MapIs w' B n m := by
  obtain ⟨D, ⟨es, clock, hb, hr⟩, hv⟩ := h
  exact ⟨D, ⟨es, clock, by rw [e]; exact hb, hr⟩, hv⟩

theorem MapIs.lt {w : World} {B n : Nat} {m : Int → Option Int} (h : MapIs w B n m) : B < w.heap.size := by
  obtain ⟨D, ⟨es, clock, hb, hr⟩, hv⟩ := h
  exact (Array.getElem?_eq_some_iff.1 hb).1

theorem MapIs.on {w w' : World} {B n : Nat} {m : Int → Option Int} (hb : Below w.heap.size w w') (h : MapIs w B n m) : MapIs w' B n m := h.at_block (hb.block B h.lt)

theorem MapIs.congr {w : World} {B n n' : Nat} {m m' : Int → Option Int} (h : MapIs w B n m) (e : ∀ v, m v = m' v) (hn : n ≤ n') : MapIs w B n' m' := by
  obtain ⟨D, ⟨es, clock, hb, hr, hs, hd⟩, hv⟩ := h
  exact ⟨D, ⟨es, clock, hb, hr, Nat.le_trans hs hn, hd⟩, fun v => by rw [← e v]; exact hv v⟩

theorem MapIs.made (w : World) : MapIs (w.alloc (.map #[] 0)) w.heap.size 0 (fun _ => none) :=
  ⟨.map [], World.ownsMap_made _ _ _ _, fun v => ⟨rfl, rfl⟩⟩

theorem MapIs.look {w : World} {B n : Nat} {m : Int → Option Int} (h : MapIs w B n m) {v : Int} (hv : W64 v) : (Instr.lookup 62 (.map (some B)) (.int .i64 v) false).run Try.prog w = .ok (.int .i64 ((m v).getD 0)) w := by
  obtain ⟨D, ho, hm⟩ := h
  obtain ⟨c, hrun, hat, _⟩ := ho.lookup_int law3 underlying62 underlying3 (zero3 w) (keyOf_int_mk underlying3 (wf64 hv))
  rw [(hm v).2] at hat
  simp at hat
  rw [hat]; exact hrun

theorem MapIs.look_ok {w : World} {B n : Nat} {m : Int → Option Int} (h : MapIs w B n m) {v : Int} (hv : W64 v) : (Instr.lookup 62 (.map (some B)) (.int .i64 v) true).run Try.prog w = .ok (.tuple #[.int .i64 ((m v).getD 0), .bool (m v).isSome]) w := by
  obtain ⟨D, ho, hm⟩ := h
  obtain ⟨x, ps, hrun, hat⟩ := ho.look_ok law3 underlying62 (zero3 w) (plainElem_int underlying3 (by decide)) (keyOf_int_mk underlying3 (wf64 hv))
  obtain ⟨c, rfl, hc, _⟩ := plainElem_int_inv underlying3 hat
  have hc1 := congrArg Prod.fst hc
  simp only at hc1
  rw [(hm v).2] at hc1
  simp at hc1
  rw [hrun, (hm v).1, hc1]

theorem wpList_put {ops : Array Oper} {rest : List Oper} {o : Oper} {a : Act} {Q : Exit → Act → World → Prop} {w : World} (hg : o.guard = none) (mo x y : Operand) (hop : o.op = Op.mapUpdate 62 mo x y)
    (B n : Nat) (m : Int → Option Int) (hm : a.eval mo = .map (some B)) (h : MapIs w B n m) (hn : n ≤ 1000000) (v u : Int) (hx : a.eval x = .int .i64 v) (hy : a.eval y = .int .i64 u) (hv : W64 v) (hu : W64 u)
    (hK : ∀ w', MapIs w' B (n + 1) (fun z => if z = v then some u else m z) → w.grownBy w' (some B) → wpList Try.prog ops Q rest (a.put o.dst undef) w') :
    wpList Try.prog ops Q (o :: rest) a w := by
  obtain ⟨D, ho, hD⟩ := h
  refine wpList_mapUpdate_own w hg mo x y 62 hop 3 3 law3 underlying62 _ B n D hm ho (by unfold maxLen; omega) _ _ _ hx hy (keyOf_int_mk underlying3 (wf64 hv)) _ [] (plainElem_int underlying3 (wf64 hu)) ?_
  intro w' hown hgr
  refine hK w' ⟨_, hown, fun z => ?_⟩ hgr
  have hmap : Maps.IsMap D := by obtain ⟨_, _, _, _, _, e⟩ := ho; exact ⟨_, e⟩
  by_cases e : z = v
  · subst e
    dsimp only
    rw [if_pos rfl]
    have hk : WideAt.IsKeyLit (.int .i64 z) := by simp [WideAt.IsKeyLit]
    exact ⟨Maps.has_put_same hmap hk _, Maps.atKey_put_same hmap hk _ _⟩
  · have hne : (Lit.int .i64 z) ≠ .int .i64 v := fun h => e (by simpa using h)
    dsimp only
    rw [if_neg e, Maps.has_put_other hne, Maps.atKey_put_other hne]
    exact hD z

/-- The parameters' own numbers. -/
def m0 (np : Nat) (v : Int) : Option Int := if 1 ≤ v ∧ v ≤ np then some v else none

def rowMap (m : Int → Option Int) (l : Nat) (f : Nat → IV) : Nat → Int → Option Int
  | 0 => m
  | k + 1 => fun v => if (f k).ty ≠ 0 ∧ rowMap m l f k (f k).to = none ∧ v = (f k).to then some ((l : Int) + giv f (k + 1)) else rowMap m l f k v

theorem rowMap_no {m : Int → Option Int} {l : Nat} {f : Nat → IV} {k : Nat} {v : Int} (h : ¬ ((f k).ty ≠ 0 ∧ rowMap m l f k (f k).to = none ∧ v = (f k).to)) : rowMap m l f (k + 1) v = rowMap m l f k v := if_neg h
theorem rowMap_yes {m : Int → Option Int} {l : Nat} {f : Nat → IV} {k : Nat} {v : Int} (h1 : (f k).ty ≠ 0) (h2 : rowMap m l f k (f k).to = none) (h3 : v = (f k).to) : rowMap m l f (k + 1) v = some ((l : Int) + giv f (k + 1)) := if_pos ⟨h1, h2, h3⟩

abbrev lastOf (F : FV) (j : Nat) : Nat := F.par.n + cnt (fun j => giv (F.I j) (F.B j).n) j

def allMap (F : FV) : Nat → Int → Option Int
  | 0 => m0 F.par.n
  | j + 1 => rowMap (allMap F j) (lastOf F j) (F.I j) (F.B j).n

/-- The numbers fit. -/
structure Rng (F : FV) : Prop where
  to : ∀ j, j < F.blk.n → ∀ k, k < (F.B j).n → W64 (F.I j k).to
  args : ∀ j, j < F.blk.n → ∀ k, k < (F.B j).n → ∀ i, i < (F.I j k).args.n → W64 (F.A j k i)

def Numbers (F : FV) (w : World) (e : Ending) (w' : World) : Prop :=
  ∃ n, e = .returned (.map (some (w.heap.size + 1))) ∧ MapIs w' (w.heap.size + 1) n (allMap F F.blk.n) ∧ Below w.heap.size w w'

set_option maxHeartbeats 1000000 in
theorem newNumbers_any (F : FV) (w : World) (hF : In w F) (hl : Light F) (hr : Rng F) :
    Calls Try.prog 101 #[F.val] w fun e w' => Numbers F w e w' := by
  have hmm := @run_makeMap Try.prog
  have HF := hid hF
  have HL := hid hl
  have HR := hid hr
  have gp := hl.par
  have gb := hl.blk
  clear hF hl hr
  go_enter Try.func101, Try.ntmps101
  go_wp2_with fail
  clear hmm
  go_loopw [16] (fun i wr => ∃ k : Nat, k ≤ F.par.n ∧ i = .int .i64 k ∧ MapIs wr (w.heap.size + 1) k (m0 k) ∧ FuncAt wr w.heap.size F ∧ Below w.heap.size w wr) (fun i _ => F.par.n - (intOf i).toNat)
  case atStart => exact ⟨0, Nat.zero_le _, rfl, by have := MapIs.made (w.alloc (.cells (fcells F) 33)); simp only [World.size_alloc] at this; exact this.congr (fun v => by unfold m0; rw [if_neg (by omega)]) (Nat.le_refl _), (FuncAt.alloc w F).on (new (same _) _), new (new (same w) _) _⟩
  case round =>
    obtain ⟨k, hk, rfl, hm, hf, hb⟩ := hrel
    have HM := hid hm
    have HFA := hid hf
    clear hm hf
    by_cases hlt : k < F.par.n
    · go_wp2_with (at_mapUpdate; refine wpList_put rfl (.tmp 19) (.tmp 21) (.tmp 23) rfl (w.heap.size + 1) k _ rfl HM.out (by omega) ((k : Int) + 1) ((k : Int) + 1) rfl rfl ⟨by omega, by omega⟩ ⟨by omega, by omega⟩ ?_; intro w2 hm2 hg2)
      have FIN := hid (And.intro hm2 hg2)
      clear hm2 hg2
      go_wp2_with fail
      go_round
      case rel =>
        refine ⟨k + 1, by omega, by go_num, FIN.out.1.congr (fun v => ?_) (Nat.le_refl _), HFA.out.kept (kept_of_grown FIN.out.2) ⟨by omega, ?_⟩, hb.grown FIN.out.2 hb.size (fun k hk => by cases hk; omega)⟩
        · unfold m0
          by_cases e : v = (k : Int) + 1
          · rw [if_pos e, if_pos (by omega), e]
          · rw [if_neg e]
            by_cases e2 : 1 ≤ v ∧ v ≤ k
            · rw [if_pos e2, if_pos (by omega)]
            · rw [if_neg e2, if_neg (by omega)]
        · exact World.block_lt_of_cell? _ _ HFA.out.c0
      case measure => simp [intOf]; omega
    · obtain rfl : k = F.par.n := by omega
      obtain ⟨c0, c1, c2, c3, c4⟩ := HFA.out
      have GG : Hid (∀ j, j ≤ F.blk.n → cnt (fun j => giv (F.I j) (F.B j).n) j ≤ j * 400) := fun j hj => cnt_le (fun i hi => Nat.le_trans (giv_le _ _) (HL.out.ins i (by omega)))
      go_wp2_with fail
      go_loopw [5, 31] (fun l i wr => ∃ j : Nat, j ≤ F.blk.n ∧ i = .int .i64 j ∧ l = .int .i64 (lastOf F j) ∧ (∃ n, n ≤ lastOf F j ∧ MapIs wr (w.heap.size + 1) n (allMap F j)) ∧ Below w.heap.size w wr) (fun _ i _ => F.blk.n - (intOf i).toNat)
      case atStart => exact ⟨0, Nat.zero_le _, rfl, by simp [lastOf, cnt], ⟨F.par.n, by simp [lastOf, cnt], HM.out⟩, hb⟩
      case round =>
        clear HM HFA hb c0 c1 c2 c3 c4 hlt
        obtain ⟨j, hj, rfl, rfl, ⟨n, hn, hm⟩, hb⟩ := hrel
        have HM := hid hm
        clear hm
        have g1 := GG.out j hj
        by_cases hlt : j < F.blk.n
        · obtain ⟨bb, oo, hix, hck⟩ := (HF.out.blk.on hb).at hlt
          have g5 := HL.out.ins j hlt
          go_wp2_with fail
          go_loopw [5, 38] (fun l i wx => ∃ t : Nat, t ≤ (F.B j).n ∧ i = .int .i64 t ∧ l = .int .i64 ((lastOf F j + giv (F.I j) t : Nat) : Int) ∧ (∃ n, n ≤ lastOf F j + giv (F.I j) t ∧ MapIs wx (w.heap.size + 1) n (rowMap (allMap F j) (lastOf F j) (F.I j) t)) ∧ Below w.heap.size w wx) (fun _ i _ => (F.B j).n - (intOf i).toNat)
          case atStart => exact ⟨0, Nat.zero_le _, rfl, by simp [giv], ⟨n, by simp [giv]; exact hn, HM.out.on (new (same _) _)⟩, new hb _⟩
          case round =>
            clear HM hn n hb hck
            obtain ⟨t, ht, rfl, rfl, ⟨n, hn, hm⟩, hb⟩ := hrel
            have HM := hid hm
            clear hm
            have g6 := giv_le (F.I j) t
            obtain ⟨L, hL⟩ : ∃ L, lastOf F j + giv (F.I j) t = L := ⟨_, rfl⟩
            rw [hL] at hn ⊢
            have hLb : L ≤ 30000 := by
              have : lastOf F j = F.par.n + cnt (fun j => giv (F.I j) (F.B j).n) j := rfl
              omega
            have HLL := hid hL
            clear hL
            by_cases htl : t < (F.B j).n
            · obtain ⟨ib, io, hiy, c0, c1, c2, c3, c4, c5, c6⟩ := ((HF.out.ins j hlt).on hb).at htl
              go_wp2_with fail
              refine (gives_any (F.I j t) _).mono ?_
              rintro e w2 ⟨rfl, hb2⟩
              have hb3 := more (new hb _) hb2
              have HM2 := hid (MapIs.on hb2 (HM.out.on (new (same _) (.cells (F.I j t).cells 39))))
              have d2 : w2.cell? ⟨wr.heap.size, 2, none⟩ = some (.int .i64 (F.I j t).to) := by have := ((InsAt.alloc wr (F.I j t)).on hb2).c2; simpa using this
              have hto := HR.out.to j hlt t htl
              clear HM c0 c1 c2 c3 c4 c5 c6 hb2
              by_cases hty : (F.I j t).ty = 0
              · have t1 : ((F.I j t).ty != 0) = false := by simp [hty]
                go_wp2_with fail
                go_round
                case rel => exact ⟨t + 1, by omega, by go_num, by rw [← HLL.out]; simp [giv, hty], ⟨n, by rw [← HLL.out] at hn; simp [giv, hty]; omega, HM2.out.congr (fun v => (rowMap_no (fun h => h.1 hty)).symm) (Nat.le_refl _)⟩, hb3⟩
                case measure => simp [intOf]; omega
              · have t1 : ((F.I j t).ty != 0) = true := by simp [hty]
                have HTY := hid hty
                clear hty
                have hlk := HM2.out.look_ok hto
                obtain ⟨mv, hmv⟩ : ∃ mv, rowMap (allMap F j) (lastOf F j) (F.I j) t (F.I j t).to = mv := ⟨_, rfl⟩
                rw [hmv] at hlk
                cases mv with
                | some c =>
                  simp only [Option.isSome_some, Option.getD_some] at hlk
                  have HMV := hid hmv
                  clear hmv
                  go_wp2_with fail
                  go_round
                  case rel => exact ⟨t + 1, by omega, by go_num, by rw [← HLL.out]; simp [giv, HTY.out]; try omega, ⟨n, by rw [← HLL.out] at hn; simp [giv, HTY.out]; omega, HM2.out.congr (fun v => (rowMap_no (fun h => by rw [HMV.out] at h; simp at h)).symm) (Nat.le_refl _)⟩, hb3⟩
                  case measure => simp [intOf]; omega
                | none =>
                  simp only [Option.isSome_none, Option.getD_none] at hlk
                  have HMV := hid hmv
                  clear hmv
                  go_wp2_with (at_mapUpdate; refine wpList_put rfl (.tmp 56) (.tmp 58) (.tmp 59) rfl (w.heap.size + 1) n _ rfl HM2.out (by omega) (F.I j t).to ((L : Int) + 1) rfl rfl hto ⟨by omega, by omega⟩ ?_; intro w3 hm3 hg3)
                  have FIN := hid (And.intro hm3 hg3)
                  clear hm3 hg3
                  go_round
                  case rel =>
                    have eg : giv (F.I j) (t + 1) = giv (F.I j) t + 1 := by simp [giv, HTY.out]
                    refine ⟨t + 1, by omega, by go_num, by rw [eg, ← HLL.out]; simp; try omega, ⟨n + 1, by rw [eg]; have := HLL.out; omega, FIN.out.1.congr (fun v => ?_) (Nat.le_refl _)⟩, hb3.grown FIN.out.2 hb3.size (fun k hk => by cases hk; omega)⟩
                    by_cases e : v = (F.I j t).to
                    · rw [if_pos e, rowMap_yes HTY.out HMV.out e, eg, ← HLL.out]; simp; try omega
                    · rw [if_neg e, rowMap_no (fun h => e h.2.2)]
                  case measure => simp [intOf]; omega
            · obtain rfl : t = (F.B j).n := by omega
              go_wp2_with fail
              go_round
              case rel => exact ⟨j + 1, by omega, by go_num, by rw [← HLL.out]; simp [lastOf, cnt, Nat.add_assoc], ⟨n, by rw [← HLL.out] at hn; simp only [lastOf, cnt] at hn ⊢; omega, HM.out⟩, hb⟩
              case measure => simp [intOf]; omega
        · obtain rfl : j = F.blk.n := by omega
          go_wp2_with fail
          go_ret
          exact ⟨n, rfl, HM.out, hb⟩

end Go.Proofs.Ytbmfimojhcdnbaa.Num
