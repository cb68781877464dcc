/-
  The types of a function's values: plnref3.Types, plnref3.Values.
-/
import Derived.Test.YtbmfimojhcdnbaaCopyF
namespace Go.Proofs.Ytbmfimojhcdnbaa.Ty
open Go.RowKit View Rd Copy

set_option linter.unusedVariables false

def tyRow (f : Nat → IV) : Nat → List Int
  | 0 => []
  | k + 1 => tyRow f k ++ if (f k).ty ≠ 0 then [(f k).ty] else []

def tyAll (F : FV) : Nat → List Int
  | 0 => []
  | j + 1 => tyAll F j ++ tyRow (F.I j) (F.B j).n

def typesL (F : FV) : List Int := 0 :: (row F.P F.par.n ++ tyAll F F.blk.n)

/-- What has been told ahead of block j's instruction t. -/
def pre (F : FV) (j t : Nat) : List Int := 0 :: (row F.P F.par.n ++ (tyAll F j ++ tyRow (F.I j) t))

theorem pre_next (F : FV) (j : Nat) : pre F j (F.B j).n = pre F (j + 1) 0 := by simp [pre, tyAll, tyRow]
theorem pre_all (F : FV) : pre F F.blk.n 0 = typesL F := by simp [pre, typesL, tyRow]
theorem pre_no (F : FV) (j t : Nat) (h : (F.I j t).ty = 0) : pre F j (t + 1) = pre F j t := by simp [pre, tyRow, h]
theorem pre_yes (F : FV) (j t : Nat) (h : (F.I j t).ty ≠ 0) : pre F j (t + 1) = pre F j t ++ [(F.I j t).ty] := by simp [pre, tyRow, h]

theorem tyRow_length (f : Nat → IV) : ∀ k, (tyRow f k).length = giv f k
  | 0 => rfl
  | k + 1 => by
    rw [tyRow, List.length_append, tyRow_length f k, giv]
    by_cases h : (f k).ty = 0 <;> simp [h]

theorem tyAll_length (F : FV) : ∀ j, (tyAll F j).length = cnt (fun j => giv (F.I j) (F.B j).n) j
  | 0 => rfl
  | j + 1 => by rw [tyAll, List.length_append, tyAll_length F j, tyRow_length, cnt]

theorem pre_length (F : FV) (j t : Nat) : (pre F j t).length = F.par.n + cnt (fun j => giv (F.I j) (F.B j).n) j + giv (F.I j) t + 1 := by
  rw [pre, List.length_cons, List.length_append, List.length_append, row_length, tyAll_length, tyRow_length]; omega

theorem typesL_length (F : FV) : (typesL F).length = F.par.n + cnt (fun j => giv (F.I j) (F.B j).n) F.blk.n + 1 := by
  rw [typesL, List.length_cons, List.length_append, row_length, tyAll_length]

/-- One number appended to a row of the call's own. -/
theorem append_one {ops : Array Oper} {rest : List Oper} {o : Oper} {a : Act} {Q : Exit → Act → World → Prop} {w : World} (hgd : o.guard = none) (s x : Operand)
    (ho : o.op = .call { callee := .builtin .append, args := #[s, x], argTypes := #[28, 28] })
    (base : Nat) (v : Value) (xs : List Int) (hs : a.eval s = v) (y : Int) (hown : w.ownsRow base 3 1 v xs.length (xs.map (Value.int .i64)))
    (hx : a.eval x = .slice (some ⟨w.heap.size, 0, none⟩) 1 1)
    (hsm : xs.length ≤ 1000000) (hbase : base ≤ w.heap.size)
    (h : ∀ v' w', w'.ownsRow base 3 1 v' (xs ++ [y]).length ((xs ++ [y]).map (Value.int .i64)) → (w.alloc (.cells #[.int .i64 y] 3)).grownBy w' v.ownBlock → wpList Try.prog ops Q rest (a.put o.dst v') w') : wpList Try.prog ops Q (o :: rest) a (w.alloc (.cells #[.int .i64 y] 3)) := by
  obtain ⟨i0, hi, hz0, hz1, hz2⟩ := info_parts info3
  refine wpList_append_own _ hgd s x 28 ho base 3 i0 (.int .i64 0) 1 8 underlying28 hi hz0 hz1 hz2 rfl (by decide) v _ _ hs (hown.alloc _) ⟨w.heap.size, 0, none⟩ 1 1 [.int .i64 y] hx rfl (cell_one_new _ _ _) (by intro u hu; simp at hu; subst hu; rfl) (by simp only [maxLen]; omega) (by omega) (by simp; omega) ?_
  intro v' w' h1 h2 _
  exact h v' w' (by simpa using h1) h2

/-- A row of numbers is handed back. -/
def Lists (L : List Int) (w : World) (e : Ending) (w' : World) : Prop :=
  ∃ s : Sl, e = .returned (.slice s.a s.n s.c) ∧ s.n = L.length ∧ Ints w' s (fun i => L.getD i 0) ∧ Mine w.heap.size w'.heap.size w' s ∧ Below w.heap.size w w'

theorem FuncAt.grown {w w' : World} {b : Nat} {F : FV} {r : Option Nat} (h : FuncAt w b F) (hg : w.grownBy w' r) (hr : ∀ k, r = some k → b < k) : FuncAt w' b F :=
  h.kept (p := fun k => k < w.heap.size ∧ some k ≠ r) ⟨hg.size, fun k hk => hg.block k hk.1 hk.2⟩ ⟨World.block_lt_of_cell? _ _ h.c0, fun e => by have := hr b e.symm; omega⟩

set_option maxHeartbeats 1000000 in
theorem types_ref (F : FV) (w : World) (hF : In w F) (hl : Light F) :
    Calls Try.prog 54 #[F.val] w fun e w' => Lists (typesL F) w e w' := by
  have HF := hid hF
  have HL := hid hl
  have gp := hl.par
  have gb := hl.blk
  have GG : Hid (∀ j, j ≤ F.blk.n → cnt (fun j => giv (F.I j) (F.B j).n) j ≤ j * 400) := fun j hj => cnt_le (fun i hi => Nat.le_trans (giv_le _ _) (hl.ins i (by omega)))
  clear hF hl
  go_enter Try.func54, Try.ntmps54
  have r0 : ((w.alloc (.cells (fcells F) 33)).alloc (.cells #[.int .i64 0] 3)).ownsRow (w.heap.size + 1) 3 1 (.slice (some ⟨w.heap.size + 1, 0, none⟩) 1 1) 1 (([0] : List Int).map (Value.int .i64)) :=
    ⟨rfl, .inr ⟨w.heap.size + 1, 1, #[.int .i64 0], rfl, Nat.le_refl _, by have := heap_alloc_new (w.alloc (.cells (fcells F) 33)) (.cells #[.int .i64 0] 3); simpa using this, Nat.le_refl _, by decide, rfl, rfl⟩⟩
  have R0 := hid r0
  clear r0
  go_wp2_with (at_builtin; refine append_in rfl (.tmp 7) (.tmp 9) rfl (w.heap.size + 1) _ 1 [0] rfl R0.out F.par F.P rfl (HF.out.par.on (new (new (same w) _) _)) (by omega) (by simp) ?_; intro v1 w1 hown1 hgr1)
  have b1 : Below w.heap.size w w1 := (new (new (same w) _) _).grown hgr1 (by simp; omega) (fun k hk => by have := (R0.out.lt k hk).1; omega)
  have f1 : FuncAt w1 w.heap.size F := FuncAt.grown ((FuncAt.alloc w F).on (new (same _) _)) hgr1 (fun k hk => by have := (R0.out.lt k hk).1; omega)
  have e1 : 1 + F.par.n = (pre F 0 0).length := by simp [pre, tyAll, tyRow, row_length]; omega
  have e2 : ([0] : List Int) ++ row F.P F.par.n = pre F 0 0 := by simp [pre, tyAll, tyRow]
  rw [e1, e2] at hown1
  have O1 := hid hown1
  clear e1 e2
  have FB := hid (And.intro f1 b1)
  clear hown1 hgr1 b1 f1 R0
  go_wp2_with fail
  go_loopw [3, 4] (fun v i wr => ∃ j : Nat, j ≤ F.blk.n ∧ i = .int .i64 j ∧ wr.ownsRow (w.heap.size + 1) 3 1 v (pre F j 0).length ((pre F j 0).map (Value.int .i64)) ∧ FuncAt wr w.heap.size F ∧ Below w.heap.size w wr) (fun _ i _ => F.blk.n - (intOf i).toNat)
  case atStart => exact ⟨0, Nat.zero_le _, rfl, O1.out, FB.out.1, FB.out.2⟩
  case round =>
    clear O1 FB
    obtain ⟨j, hj, rfl, hown, hf, hb⟩ := hrel
    have HO := hid hown
    obtain ⟨c0, c1, c2, c3, c4⟩ := hf
    have HFA : Hid (FuncAt wr w.heap.size F) := ⟨c0, c1, c2, c3, c4⟩
    clear hown
    by_cases hlt : j < F.blk.n
    · have g1 := GG.out j hj
      have g5 := HL.out.ins j hlt
      go_wp2_with fail
      go_loopw [3, 5] (fun v i wx => ∃ t : Nat, t ≤ (F.B j).n ∧ i = .int .i64 t ∧ wx.ownsRow (w.heap.size + 1) 3 1 v (pre F j t).length ((pre F j t).map (Value.int .i64)) ∧ FuncAt wx w.heap.size F ∧ Below w.heap.size w wx) (fun _ i _ => (F.B j).n - (intOf i).toNat)
      case atStart => exact ⟨0, Nat.zero_le _, rfl, HO.out, HFA.out, hb⟩
      case round =>
        clear HO HFA hb c0 c1 c2 c3 c4
        obtain ⟨t, ht, rfl, hown, hf, hb⟩ := hrel
        have HO := hid hown
        obtain ⟨c0, c1, c2, c3, c4⟩ := hf
        have HFA : Hid (FuncAt wr w.heap.size F) := ⟨c0, c1, c2, c3, c4⟩
        obtain ⟨b2, o2, hix2, hck⟩ := (HF.out.blk.on hb).at hlt
        clear hown
        by_cases htl : t < (F.B j).n
        · obtain ⟨ib, io, hiy, i0, i1, i2, i3, i4, i5, i6⟩ := ((HF.out.ins j hlt).on hb).at htl
          have hsz := hb.size
          have hwl : w.heap.size < wr.heap.size := World.block_lt_of_cell? _ _ c0
          have hlen : (pre F j t).length ≤ 1000000 := by rw [pre_length]; have := giv_le (F.I j) t; omega
          by_cases hty : (F.I j t).ty = 0
          · have t1 : ((F.I j t).ty != 0) = false := by simp [hty]
            go_wp2_with fail
            go_round
            case rel => exact ⟨t + 1, by omega, by go_num, by rw [pre_no F j t hty]; exact HO.out, HFA.out, hb⟩
            case measure => simp [intOf]; omega
          · have t1 : ((F.I j t).ty != 0) = true := by simp [hty]
            have HTY := hid hty
            clear hty
            obtain ⟨X, hX⟩ : ∃ X, pre F j t = X := ⟨_, rfl⟩
            rw [hX] at hlen HO
            have HX := hid hX
            clear hX
            go_wp2_with (at_builtin; refine append_one rfl (.tmp 41) (.tmp 43) rfl (w.heap.size + 1) _ X rfl (F.I j t).ty HO.out rfl hlen (by omega) ?_; intro v2 w2 hown2 hgr2)
            have b2 : Below w.heap.size w w2 := (new hb _).grown hgr2 (by simp; omega) (fun k hk => by have := (HO.out.lt k hk).1; omega)
            have f2 : FuncAt w2 w.heap.size F := FuncAt.grown (HFA.out.on (new (same _) _)) hgr2 (fun k hk => by have := (HO.out.lt k hk).1; omega)
            have FIN := hid (And.intro hown2 (And.intro f2 b2))
            clear hown2 hgr2 b2 f2
            go_round
            case rel => exact ⟨t + 1, by omega, by go_num, by rw [pre_yes F j t HTY.out, HX.out]; exact FIN.out.1, FIN.out.2.1, FIN.out.2.2⟩
            case measure => simp [intOf]; omega
        · obtain rfl : t = (F.B j).n := by omega
          go_wp2_with fail
          go_round
          case rel => exact ⟨j + 1, by omega, by go_num, by rw [← pre_next]; exact HO.out, HFA.out, hb⟩
          case measure => simp [intOf]; omega
    · obtain rfl : j = F.blk.n := by omega
      go_wp2_with fail
      go_ret
      have HO2 := HO.out
      rw [pre_all] at HO2
      obtain ⟨t, ht, hn, hi, hm⟩ := ints_of_owns HO2 (by have := GG.out F.blk.n (Nat.le_refl _); rw [typesL_length]; omega)
      exact ⟨t, by rw [← ht]; rfl, hn, hi, hm.wide (by omega) (Nat.le_refl _), hb⟩

set_option maxHeartbeats 400000 in
theorem values_ref (F : FV) (w : World) (hF : In w F) (hl : Light F) :
    Calls Try.prog 18 #[F.val] w fun e w' => e = .returned (.int .i64 (F.par.n + cnt (fun j => giv (F.I j) (F.B j).n) F.blk.n)) ∧ Below w.heap.size w w' := by
  have HT := hid (types_ref F _ (hF.on (new (same w) (.cells (fcells F) 33))) hl)
  have hle : F.par.n + cnt (fun j => giv (F.I j) (F.B j).n) F.blk.n ≤ 10000 := by
    have := giv_all hl
    have := hl.par; have := hl.blk; omega
  clear hF hl
  go_enter Try.func18, Try.ntmps18
  go_wp2_with fail
  refine HT.out.mono ?_
  rintro e w1 ⟨s, rfl, hn, hi, hm, hb⟩
  rw [typesL_length] at hn
  have HB := hid (more (new (same w) _) hb)
  clear hi hm hb HT
  go_wp2_with fail
  go_ret
  refine ⟨?_, HB.out⟩
  congr 2

end Go.Proofs.Ytbmfimojhcdnbaa.Ty
