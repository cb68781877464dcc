/-
  plnlaw4.FlowWays answers true.
-/
import Derived.Test.YtipligpabhjniaaFloX
import Derived.Test.YtipligpabhjniaaLight
import Derived.Test.YtipligpabhjniaaOpen
import Derived.Deep.RegionHeld3
import Derived.BigQuiet
import Derived.Deep.QuietTactic
namespace Go.Proofs.Ytipligpabhjniaa.Flo
open Go.RowKit View Rd Copy Num Ty Srt

set_option linter.unusedVariables false

theorem wrap_toInt (x : BitVec 64) : IntKind.i64.wrap (x.toNat : Int) = x.toInt := by
  rw [IntKind.wrap_i64, BitVec.toInt_eq_toNat_cond]
  have := x.isLt
  split <;> omega

theorem toNat_of (n : Int) : ((BitVec.ofInt 64 n).toNat : Int) = n % 18446744073709551616 := by
  rw [BitVec.toNat_ofInt]
  omega

theorem low16 (n : Int) : bits .and .i64 n 65535 = n % 65536 := by
  have hb : bits .and .i64 n 65535 = (BitVec.ofInt 64 n &&& BitVec.ofInt 64 65535).toInt := wrap_toInt _
  rw [hb, ← wrap_toInt, IntKind.wrap_i64, BitVec.toNat_and]
  have e : (BitVec.ofInt 64 65535).toNat = 2 ^ 16 - 1 := rfl
  have t := toNat_of n
  rw [e, Nat.and_two_pow_sub_one_eq_mod]
  omega

/-- An operation is taken first; where it leaves its value is told. -/
theorem takeAt {P : Program} {ops : Array Oper} {Q : Exit → Act → World → Prop} {md : Region.Mode} {S : World → Prop} {i : Nat} {oi : Oper} {d : Option Tmp} {v : Value} {fuel : Nat} {listed : Array Bool} {a : Act} {w : World} (hi : ops[i]? = some oi) (hd : oi.dst = d)
    (hs : Region.noSelect ops = true) (hf : Region.free md ops listed i = true) (hr : (Region.ready md ops listed).contains i = true)
    (hQ : ∀ c a w, Q (.panic c) (a.put d v) w → Q (.panic c) a w) (hy : YieldsIf P ops S oi v a) (hS : S w)
    (h : wpAnyH P md ops Q S fuel (listed.setIfInBounds i true) (a.put d v) w) : wpAnyH P md ops Q S (fuel + 1) listed a w := by
  subst hd
  exact wpAnyH_take hi hs hf hr hQ hy hS h

/-- Another condition, which says more, from here on. -/
theorem wpAnyH_switch {P : Program} {ops : Array Oper} {Q : Exit → Act → World → Prop} {md : Region.Mode} {S S' : World → Prop} (h : ∀ w, S' w → S w) :
    ∀ (fuel : Nat) (listed : Array Bool) (a : Act) (w : World), wpAnyH P md ops Q S' fuel listed a w → wpAnyH P md ops Q S fuel listed a w
  | 0, _, _, _, H => H
  | fuel + 1, _, _, _, H => ⟨H.1, fun i hi => wpOp_mono (fun a' w' h' => ⟨h w' h'.1, wpAnyH_switch h fuel _ a' w' h'.2⟩) (H.2 i hi)⟩

theorem Pv.ints {w : World} {M n : Nat} {R : Nat → Sl} {L : Nat → List Nat} (h : Pv w M n R L) {i : Nat} (hi : i < n) (hl : (L i).length ≤ 1000) : Ints w (R i) (fun k => (((L i).getD k 0 : Nat) : Int)) ∧ (R i).n = (L i).length := by
  obtain ⟨s, hs, hn, hI, _⟩ := ints_of_owns (h.own i hi) (by simp; omega)
  have e : R i = s := by
    have h1 : (R i).a = s.a ∧ (R i).n = s.n ∧ (R i).c = s.c := by simpa [Sl.val] using hs
    cases hR : R i; cases s; rw [hR] at h1; simp at h1; simp [h1]
  rw [e]
  exact ⟨hI.congr (fun k hk => getD_ints _ _ (by rw [hn] at hk; simpa using hk)), by simpa using hn⟩

theorem ex_mem {l : List Nat} {n : Nat} (hn : n = l.length) (x : Nat) : (∃ i, i < n ∧ ((l.getD i 0 : Nat) : Int) = (x : Int)) ↔ x ∈ l := by
  constructor
  · rintro ⟨i, hi, e⟩
    have : l.getD i 0 = x := by omega
    rw [← this]
    exact getD_mem (by omega)
  · intro h
    obtain ⟨i, hi, e⟩ := List.getElem_of_mem h
    exact ⟨i, by omega, by simp [List.getD, hi, e]⟩

theorem bool_of {b : Bool} {p : Prop} [Decidable p] (h : b = true ↔ p) : b = decide p := by
  cases b with
  | true => simp [h.1 rfl]
  | false => simp; exact fun hp => by simpa using h.2 hp

theorem red16 (a : Int) {n : Nat} (hn : 0 < n) : ∃ x : Nat, x < n ∧ ∃ a0 : Nat, bits .and .i64 a 65535 = (a0 : Int) ∧ (a0 : Int).tmod (n : Int) = (x : Int) := by
  refine ⟨(a % 65536).toNat % n, Nat.mod_lt _ hn, (a % 65536).toNat, ?_, ?_⟩
  · rw [low16]; omega
  · rw [Int.ofNat_tmod]

set_option maxRecDepth 10000 in
set_option maxHeartbeats 4000000 in
theorem ways_any (F : FV) (a b : Int) (w : World) (hF : In w F) (hj : Jng F) :
    Calls Try.prog 6 #[F.val, .int .i64 a, .int .i64 b] w fun e w' => e = .returned (.bool true) ∧ Below w.heap.size w w' := by
  have HF := hid hF
  have HJ := hid hj
  clear hF hj
  go_enter Try.func6, Try.ntmps6
  go_wp2_with fail
  refine (first_any _).mono ?_
  rintro e w1 ⟨rfl, hb1⟩
  have f1 : FuncAt w1 w.heap.size F := (FuncAt.alloc w F).on hb1
  have hb1' := View.more (new (same w) _) hb1
  have B1 := hid hb1'
  have F1 := hid f1
  obtain ⟨c0, c1, c2, c3, c4⟩ := f1
  clear hb1 hb1'
  go_wp2_with fail
  refine (light_any F _ (HF.out.on B1.out)).mono ?_
  rintro e w2 ⟨r, rfl, hr, hb2⟩
  have B2 := hid (View.more B1.out hb2)
  have F2 := hid (F1.out.on hb2)
  clear c0 c1 c2 c3 c4 hb2 B1 F1
  cases r with
  | false =>
    obtain ⟨c0, c1, c2, c3, c4⟩ := F2.out
    go_wp2_with fail
    refine (first_any _).mono ?_
    rintro e w3 ⟨rfl, hb3⟩
    go_wp2_with fail
    go_ret
    exact ⟨rfl, View.more B2.out hb3⟩
  | true =>
    have hl := hr rfl
    have HL := hid hl
    have gb := hl.blk
    clear hl hr
    obtain ⟨c0, c1, c2, c3, c4⟩ := F2.out
    by_cases h0 : F.blk.n = 0
    · have t0 : ((F.blk.n : Int) == 0) = true := by simp [h0]
      have H0 := hid h0
      clear h0
      go_wp2_with fail
      refine (first_any _).mono ?_
      rintro e w3 ⟨rfl, hb3⟩
      go_wp2_with fail
      go_ret
      exact ⟨rfl, View.more B2.out hb3⟩
    · have t0 : ((F.blk.n : Int) == 0) = false := by simp [h0]
      obtain ⟨x, hx, hx1⟩ := red16 a (show 0 < F.blk.n by omega)
      obtain ⟨y, hy, hy1⟩ := red16 b (show 0 < F.blk.n by omega)
      obtain ⟨a0, ha0, hx0⟩ := hx1
      obtain ⟨b0, hb0, hy0⟩ := hy1
      have hn0 : ((F.blk.n : Int) = 0) = False := by simp; omega
      go_wp2_with fail
      go_region
      obtain ⟨L, hL⟩ := ord_ex F
      have OI := hid hL
      have OD := hid hL.ord
      obtain ⟨W, hW⟩ : ∃ W, w2.drew = W := ⟨_, rfl⟩
      have BW := hid (show Below w.heap.size w W by rw [← hW]; exact Below.drew B2.out)
      have FW := hid (show FuncAt W w.heap.size F by rw [← hW]; exact F2.out.on (Below.drew (same _)))
      rw [hW]
      clear hL hW c0 c1 c2 c3 c4 F2 B2 ha0 hx0 hb0 hy0
      have IW := hid (HF.out.on BW.out)
      have A0 : ∀ wx, Below W.heap.size W wx → wx.cell? ⟨w.heap.size, 0, none⟩ = some (.string F.name) := fun wx h => cell_on h FW.out.c0
      have A1 : ∀ wx, Below W.heap.size W wx → wx.cell? ⟨w.heap.size, 1, none⟩ = some (.bool F.out) := fun wx h => cell_on h FW.out.c1
      have A2 : ∀ wx, Below W.heap.size W wx → wx.cell? ⟨w.heap.size, 2, none⟩ = some (.slice F.par.a F.par.n F.par.c) := fun wx h => cell_on h FW.out.c2
      have A3 : ∀ wx, Below W.heap.size W wx → wx.cell? ⟨w.heap.size, 3, none⟩ = some (.int .i64 F.res) := fun wx h => cell_on h FW.out.c3
      have A4 : ∀ wx, Below W.heap.size W wx → wx.cell? ⟨w.heap.size, 4, none⟩ = some (.slice F.blk.a F.blk.n F.blk.c) := fun wx h => cell_on h FW.out.c4
      have st0 : Below W.heap.size W W.drew := Below.drew (same _)
      go_wp2_with fail
      go_region_held3 (fun wx => Below W.heap.size W wx) (first | exact st0 | exact st1 | exact st2)
        (first
          | (go_at_call 13; refine (prev_flow F _ (IW.out.on st0) HL.out HJ.out).mono ?_; rintro e wa ⟨M, R, rfl, hpv, hM, hba⟩; have st1 : Below W.heap.size W wa := View.more st0 hba)
          | (go_at_call 16; refine (reach_flow F L _ OI.out (IW.out.on st1) HL.out HJ.out).mono ?_; rintro e wb ⟨M2, rfl, hrr, hM2, hbb⟩; have st2 : Below W.heap.size W wb := View.more st1 hbb; have hpv2 := hpv.on hbb))
      have hle := pvL_le F F.blk.n y
      obtain ⟨hi1, hi2⟩ := hpv2.ints hy (by omega)
      have hq0 := hrr.cell (show 0 < F.blk.n by omega)
      have hqx := hrr.cell hx
      have hqy := hrr.cell hy
      have hrow := row_at (M := M) hy
      have hcy := hpv2.row.cell hy
      have hbx := bool_at (g := M2) hx
      have hby := bool_at (g := M2) hy
      have hbz : ∀ wx, (Instr.indexAt 34 (.slice (some ⟨M2, 0, none⟩) F.blk.n F.blk.n) (.int .i64 0)).run Try.prog wx = .ok (.pointer (some ⟨M2, 0, none⟩)) wx := bool_at (g := M2) (x := 0) (show 0 < F.blk.n by omega)
      have h0L : 0 ∈ L := List.mem_of_getElem? (OD.out.zero (by omega))
      rw [decide_eq_true h0L] at hq0
      have hR20 : (R y).n ≤ 16 := by omega
      have B3 := hid (View.more BW.out st2)
      have hpm : x ∈ pvL F F.blk.n y ↔ y ∈ su F x := by rw [mem_pvL]; exact ⟨fun h => h.2, fun h => ⟨hx, h⟩⟩
      have FB := hid (FW.out.on st2)
      have IB := hid (IW.out.on st2)
      have HP := hid hpv2
      have HR := hid hrr
      have RI := hid (And.intro hi1 hi2)
      have PM := hid hpm
      clear A0 A1 A2 A3 A4 st0 st1 st2 hpv hba hbb hpv2 hrr hi1 hi2 h0L hpm hle BW FW IW hM hM2
      obtain ⟨p, hp⟩ : ∃ p, decide (y ∈ su F x) = p := ⟨_, rfl⟩
      obtain ⟨px, hpx⟩ : ∃ px, decide (x ∈ L) = px := ⟨_, rfl⟩
      obtain ⟨py, hpy⟩ : ∃ py, decide (y ∈ L) = py := ⟨_, rfl⟩
      rw [hpx] at hqx
      rw [hpy] at hqy
      have PP := hid (And.intro hp (And.intro hpx hpy))
      have hyy : p = true → px = true → py = true := fun h1 h2 => by
        subst h1 h2
        rw [← hpy]
        exact decide_eq_true (OD.out.shut x (of_decide_eq_true hpx) y (of_decide_eq_true hp))
      have A0 : ∀ wx, Below wb.heap.size wb wx → wx.cell? ⟨w.heap.size, 0, none⟩ = some (.string F.name) := fun wx h => cell_on h FB.out.c0
      have A1 : ∀ wx, Below wb.heap.size wb wx → wx.cell? ⟨w.heap.size, 1, none⟩ = some (.bool F.out) := fun wx h => cell_on h FB.out.c1
      have A2 : ∀ wx, Below wb.heap.size wb wx → wx.cell? ⟨w.heap.size, 2, none⟩ = some (.slice F.par.a F.par.n F.par.c) := fun wx h => cell_on h FB.out.c2
      have A3 : ∀ wx, Below wb.heap.size wb wx → wx.cell? ⟨w.heap.size, 3, none⟩ = some (.int .i64 F.res) := fun wx h => cell_on h FB.out.c3
      have A4 : ∀ wx, Below wb.heap.size wb wx → wx.cell? ⟨w.heap.size, 4, none⟩ = some (.slice F.blk.a F.blk.n F.blk.c) := fun wx h => cell_on h FB.out.c4
      have D0 : ∀ wx, Below wb.heap.size wb wx → wx.cell? ⟨M2, 0, none⟩ = some (.bool true) := fun wx h => cell_on h hq0
      have D1 : ∀ wx, Below wb.heap.size wb wx → wx.cell? ⟨M2, x, none⟩ = some (.bool px) := fun wx h => cell_on h hqx
      have D2 : ∀ wx, Below wb.heap.size wb wx → wx.cell? ⟨M2, y, none⟩ = some (.bool py) := fun wx h => cell_on h hqy
      have D3 : ∀ wx, Below wb.heap.size wb wx → wx.cell? ⟨M, y, none⟩ = some (.slice (R y).a (R y).n (R y).c) := fun wx h => cell_on h hcy
      have st0 : Below wb.heap.size wb wb.drew := Below.drew (same _)
      clear hp hpx hpy hq0 hqx hqy hcy
      go_wp2_with fail
      cases px with
      | false =>
        cases p with
        | false =>
          clear hyy
          refine wp_region_noPanic ?_
          refine wp_region_held_drew (S := fun wx => Below wb.heap.size wb wx) (by kernel_rfl) st0 (fun hS => ?_)
          refine takeAt (i := 0) (d := some 39) (v := ?vff0) rfl (by rfl) (by kernel_rfl) (by kernel_rfl) (by kernel_rfl) (fun _ _ _ h => h) (Or.inl ⟨by rfl, ?yff0⟩) hS ?_
          case yff0 => intro wx hSw; (go_simp) <;> with_reducible rfl
          simp only [Act.put, List.setIfInBounds_toArray, List.set_cons_zero, List.set_cons_succ]
          refine takeAt (i := 1) (d := some 40) (v := ?vff1) rfl (by rfl) (by kernel_rfl) (by kernel_rfl) (by kernel_rfl) (fun _ _ _ h => h) (Or.inl ⟨by rfl, ?yff1⟩) hS ?_
          case yff1 => intro wx hSw; (go_simp) <;> with_reducible rfl
          simp only [Act.put, List.setIfInBounds_toArray, List.set_cons_zero, List.set_cons_succ]
          refine takeAt (i := 2) (d := some 41) (v := ?vff2) rfl (by rfl) (by kernel_rfl) (by kernel_rfl) (by kernel_rfl) (fun _ _ _ h => h) (Or.inl ⟨by rfl, ?yff2⟩) hS ?_
          case yff2 => intro wx hSw; (go_simp) <;> with_reducible rfl
          simp only [Act.put, List.setIfInBounds_toArray, List.set_cons_zero, List.set_cons_succ]
          refine takeAt (i := 3) (d := some 42) (v := ?vff3) rfl (by rfl) (by kernel_rfl) (by kernel_rfl) (by kernel_rfl) (fun _ _ _ h => h) (Or.inl ⟨by rfl, ?yff3⟩) hS ?_
          case yff3 => intro wx hSw; (go_simp) <;> with_reducible rfl
          simp only [Act.put, List.setIfInBounds_toArray, List.set_cons_zero, List.set_cons_succ]
          refine takeAt (i := 4) (d := some 43) (v := ?vff4) rfl (by rfl) (by kernel_rfl) (by kernel_rfl) (by kernel_rfl) (fun _ _ _ h => h) (Or.inl ⟨by rfl, ?yff4⟩) hS ?_
          case yff4 => intro wx hSw; (go_simp) <;> with_reducible rfl
          simp only [Act.put, List.setIfInBounds_toArray, List.set_cons_zero, List.set_cons_succ]
          refine takeAt (i := 5) (d := some 44) (v := ?vff5) rfl (by rfl) (by kernel_rfl) (by kernel_rfl) (by kernel_rfl) (fun _ _ _ h => h) (Or.inl ⟨by rfl, ?yff5⟩) hS ?_
          case yff5 => intro wx hSw; (go_simp) <;> with_reducible rfl
          simp only [Act.put, List.setIfInBounds_toArray, List.set_cons_zero, List.set_cons_succ]
          refine takeAt (i := 6) (d := some 45) (v := ?vff6) rfl (by rfl) (by kernel_rfl) (by kernel_rfl) (by kernel_rfl) (fun _ _ _ h => h) (Or.inl ⟨by rfl, ?yff6⟩) hS ?_
          case yff6 => intro wx hSw; (go_simp) <;> with_reducible rfl
          simp only [Act.put, List.setIfInBounds_toArray, List.set_cons_zero, List.set_cons_succ]
          refine takeAt (i := 7) (d := some 46) (v := ?vff7) rfl (by rfl) (by kernel_rfl) (by kernel_rfl) (by kernel_rfl) (fun _ _ _ h => h) (Or.inl ⟨by rfl, ?yff7⟩) hS ?_
          case yff7 => intro wx hSw; (go_simp) <;> with_reducible rfl
          simp only [Act.put, List.setIfInBounds_toArray, List.set_cons_zero, List.set_cons_succ]
          refine takeAt (i := 8) (d := some 47) (v := ?vff8) rfl (by rfl) (by kernel_rfl) (by kernel_rfl) (by kernel_rfl) (fun _ _ _ h => h) (Or.inl ⟨by rfl, ?yff8⟩) hS ?_
          case yff8 => intro wx hSw; (go_simp) <;> with_reducible rfl
          simp only [Act.put, List.setIfInBounds_toArray, List.set_cons_zero, List.set_cons_succ]
          refine takeAt (i := 9) (d := some 48) (v := ?vff9) rfl (by rfl) (by kernel_rfl) (by kernel_rfl) (by kernel_rfl) (fun _ _ _ h => h) (Or.inl ⟨by rfl, ?yff9⟩) hS ?_
          case yff9 => intro wx hSw; (go_simp) <;> with_reducible rfl
          simp only [Act.put, List.setIfInBounds_toArray, List.set_cons_zero, List.set_cons_succ]
          refine takeAt (i := 10) (d := some 49) (v := ?vff10) rfl (by rfl) (by kernel_rfl) (by kernel_rfl) (by kernel_rfl) (fun _ _ _ h => h) (Or.inl ⟨by rfl, ?yff10⟩) hS ?_
          case yff10 => intro wx hSw; (go_simp) <;> with_reducible rfl
          simp only [Act.put, List.setIfInBounds_toArray, List.set_cons_zero, List.set_cons_succ]
          refine takeAt (i := 11) (d := some 50) (v := ?vff11) rfl (by rfl) (by kernel_rfl) (by kernel_rfl) (by kernel_rfl) (fun _ _ _ h => h) (Or.inl ⟨by rfl, ?yff11⟩) hS ?_
          case yff11 => intro wx hSw; (go_simp) <;> with_reducible rfl
          simp only [Act.put, List.setIfInBounds_toArray, List.set_cons_zero, List.set_cons_succ]
          refine takeAt (i := 12) (d := some 51) (v := ?vff12) rfl (by rfl) (by kernel_rfl) (by kernel_rfl) (by kernel_rfl) (fun _ _ _ h => h) (Or.inl ⟨by rfl, ?yff12⟩) hS ?_
          case yff12 => intro wx hSw; (go_simp) <;> with_reducible rfl
          simp only [Act.put, List.setIfInBounds_toArray, List.set_cons_zero, List.set_cons_succ]
          refine takeAt (i := 13) (d := some 52) (v := ?vff13) rfl (by rfl) (by kernel_rfl) (by kernel_rfl) (by kernel_rfl) (fun _ _ _ h => h) (Or.inl ⟨by rfl, ?yff13⟩) hS ?_
          case yff13 => intro wx hSw; (go_simp) <;> with_reducible rfl
          simp only [Act.put, List.setIfInBounds_toArray, List.set_cons_zero, List.set_cons_succ]
          refine takeAt (i := 14) (d := some 53) (v := ?vff14) rfl (by rfl) (by kernel_rfl) (by kernel_rfl) (by kernel_rfl) (fun _ _ _ h => h) (Or.inl ⟨by rfl, ?yff14⟩) hS ?_
          case yff14 => intro wx hSw; (go_simp) <;> with_reducible rfl
          simp only [Act.put, List.setIfInBounds_toArray, List.set_cons_zero, List.set_cons_succ]
          refine takeAt (i := 15) (d := some 54) (v := ?vff15) rfl (by rfl) (by kernel_rfl) (by kernel_rfl) (by kernel_rfl) (fun _ _ _ h => h) (Or.inl ⟨by rfl, ?yff15⟩) hS ?_
          case yff15 => intro wx hSw; (go_simp) <;> with_reducible rfl
          simp only [Act.put, List.setIfInBounds_toArray, List.set_cons_zero, List.set_cons_succ]
          refine takeAt (i := 17) (d := some 56) (v := ?vff17) rfl (by rfl) (by kernel_rfl) (by kernel_rfl) (by kernel_rfl) (fun _ _ _ h => h) (Or.inl ⟨by rfl, ?yff17⟩) hS ?_
          case yff17 => intro wx hSw; (go_simp) <;> with_reducible rfl
          simp only [Act.put, List.setIfInBounds_toArray, List.set_cons_zero, List.set_cons_succ]
          refine takeAt (i := 18) (d := some 57) (v := ?vff18) rfl (by rfl) (by kernel_rfl) (by kernel_rfl) (by kernel_rfl) (fun _ _ _ h => h) (Or.inl ⟨by rfl, ?yff18⟩) hS ?_
          case yff18 => intro wx hSw; (go_simp) <;> with_reducible rfl
          simp only [Act.put, List.setIfInBounds_toArray, List.set_cons_zero, List.set_cons_succ]
          refine takeAt (i := 20) (d := some 59) (v := ?vff20) rfl (by rfl) (by kernel_rfl) (by kernel_rfl) (by kernel_rfl) (fun _ _ _ h => h) (Or.inl ⟨by rfl, ?yff20⟩) hS ?_
          case yff20 => intro wx hSw; (go_simp) <;> with_reducible rfl
          simp only [Act.put, List.setIfInBounds_toArray, List.set_cons_zero, List.set_cons_succ]
          refine wpAnyH_ready (rs := [16]) (by kernel_rfl) (by simp) ?_
          refine AllReadyH.cons rfl (fun K hK => ?_) AllReadyH.nil
          go_simp
          refine (in_any (R y) _ x _ (RI.out.1.on st0) (by omega)).mono ?_
          rintro e wc ⟨r1, rfl, hr1, hbc⟩
          obtain rfl := (bool_of (hr1.trans ((ex_mem RI.out.2 x).trans PM.out))).trans PP.out.1
          have st1 : Below wb.heap.size wb wc := View.more st0 hbc
          clear hr1 hbc
          go_wp2_with fail
          refine hK.out _ _ st1 (fun _ => ?_)
          clear hK K
          replace hS := st1
          try simp only [Act.put, List.setIfInBounds_toArray, List.set_cons_zero, List.set_cons_succ]
          refine wpAnyH_ready (rs := [19]) (by kernel_rfl) (by simp) ?_
          refine AllReadyH.cons rfl (fun K hK => ?_) AllReadyH.nil
          go_simp
          refine (next_flow F x _ (IB.out.on st1) HL.out HJ.out).mono ?_
          rintro e wd ⟨s3, rfl, hsn3, hsi3, hsm3, hbd⟩
          rw [suI_nat] at hsn3 hsi3
          have st2 : Below wb.heap.size wb wd := View.more st1 hbd
          have SI3 := hid hsi3
          have SN3 := hid hsn3
          clear hsm3 hbd hsi3 hsn3
          go_wp2_with fail
          refine hK.out _ _ st2 (fun _ => ?_)
          clear hK K
          replace hS := st2
          try simp only [Act.put, List.setIfInBounds_toArray, List.set_cons_zero, List.set_cons_succ]
          refine wpAnyH_ready (rs := [21]) (by kernel_rfl) (by simp) ?_
          refine AllReadyH.cons rfl (fun K hK => ?_) AllReadyH.nil
          go_simp
          refine (in_any s3 _ y _ SI3.out (by have := su_le HL.out x; have := SN3.out; omega)).mono ?_
          rintro e we ⟨r2, rfl, hr2, hbe⟩
          obtain rfl := (bool_of (hr2.trans (ex_mem SN3.out y))).trans PP.out.1
          have st3 : Below wb.heap.size wb we := View.more st2 hbe
          clear hr2 hbe
          go_wp2_with fail
          refine hK.out _ _ st3 (fun _ => ?_)
          clear hK K
          replace hS := st3
          try simp only [Act.put, List.setIfInBounds_toArray, List.set_cons_zero, List.set_cons_succ]
          refine takeAt (i := 22) (d := some 61) (v := ?vff22) rfl (by rfl) (by kernel_rfl) (by kernel_rfl) (by kernel_rfl) (fun _ _ _ h => h) (Or.inl ⟨by rfl, ?yff22⟩) hS ?_
          case yff22 => intro wx hSw; (go_simp) <;> with_reducible rfl
          simp only [Act.put, List.setIfInBounds_toArray, List.set_cons_zero, List.set_cons_succ]
          refine takeAt (i := 23) (d := some 62) (v := ?vff23) rfl (by rfl) (by kernel_rfl) (by kernel_rfl) (by kernel_rfl) (fun _ _ _ h => h) (Or.inl ⟨by rfl, ?yff23⟩) hS ?_
          case yff23 => intro wx hSw; (go_simp) <;> with_reducible rfl
          simp only [Act.put, List.setIfInBounds_toArray, List.set_cons_zero, List.set_cons_succ]
          refine takeAt (i := 24) (d := some 63) (v := ?vff24) rfl (by rfl) (by kernel_rfl) (by kernel_rfl) (by kernel_rfl) (fun _ _ _ h => h) (Or.inl ⟨by rfl, ?yff24⟩) hS ?_
          case yff24 => intro wx hSw; (go_simp) <;> with_reducible rfl
          simp only [Act.put, List.setIfInBounds_toArray, List.set_cons_zero, List.set_cons_succ]
          refine takeAt (i := 25) (d := some 64) (v := ?vff25) rfl (by rfl) (by kernel_rfl) (by kernel_rfl) (by kernel_rfl) (fun _ _ _ h => h) (Or.inl ⟨by rfl, ?yff25⟩) hS ?_
          case yff25 => intro wx hSw; (go_simp) <;> with_reducible rfl
          simp only [Act.put, List.setIfInBounds_toArray, List.set_cons_zero, List.set_cons_succ]
          refine takeAt (i := 26) (d := some 65) (v := ?vff26) rfl (by rfl) (by kernel_rfl) (by kernel_rfl) (by kernel_rfl) (fun _ _ _ h => h) (Or.inl ⟨by rfl, ?yff26⟩) hS ?_
          case yff26 => intro wx hSw; (go_simp) <;> with_reducible rfl
          simp only [Act.put, List.setIfInBounds_toArray, List.set_cons_zero, List.set_cons_succ]
          refine takeAt (i := 27) (d := some 66) (v := ?vff27) rfl (by rfl) (by kernel_rfl) (by kernel_rfl) (by kernel_rfl) (fun _ _ _ h => h) (Or.inl ⟨by rfl, ?yff27⟩) hS ?_
          case yff27 => intro wx hSw; (go_simp) <;> with_reducible rfl
          simp only [Act.put, List.setIfInBounds_toArray, List.set_cons_zero, List.set_cons_succ]
          refine takeAt (i := 28) (d := some 67) (v := ?vff28) rfl (by rfl) (by kernel_rfl) (by kernel_rfl) (by kernel_rfl) (fun _ _ _ h => h) (Or.inl ⟨by rfl, ?yff28⟩) hS ?_
          case yff28 => intro wx hSw; (go_simp) <;> with_reducible rfl
          simp only [Act.put, List.setIfInBounds_toArray, List.set_cons_zero, List.set_cons_succ]
          refine takeAt (i := 29) (d := some 68) (v := ?vff29) rfl (by rfl) (by kernel_rfl) (by kernel_rfl) (by kernel_rfl) (fun _ _ _ h => h) (Or.inl ⟨by rfl, ?yff29⟩) hS ?_
          case yff29 => intro wx hSw; (go_simp) <;> with_reducible rfl
          simp only [Act.put, List.setIfInBounds_toArray, List.set_cons_zero, List.set_cons_succ]
          refine takeAt (i := 30) (d := some 69) (v := ?vff30) rfl (by rfl) (by kernel_rfl) (by kernel_rfl) (by kernel_rfl) (fun _ _ _ h => h) (Or.inl ⟨by rfl, ?yff30⟩) hS ?_
          case yff30 => intro wx hSw; (go_simp) <;> with_reducible rfl
          simp only [Act.put, List.setIfInBounds_toArray, List.set_cons_zero, List.set_cons_succ]
          refine takeAt (i := 31) (d := some 70) (v := ?vff31) rfl (by rfl) (by kernel_rfl) (by kernel_rfl) (by kernel_rfl) (fun _ _ _ h => h) (Or.inl ⟨by rfl, ?yff31⟩) hS ?_
          case yff31 => intro wx hSw; (go_simp) <;> with_reducible rfl
          simp only [Act.put, List.setIfInBounds_toArray, List.set_cons_zero, List.set_cons_succ]
          refine takeAt (i := 32) (d := some 71) (v := ?vff32) rfl (by rfl) (by kernel_rfl) (by kernel_rfl) (by kernel_rfl) (fun _ _ _ h => h) (Or.inl ⟨by rfl, ?yff32⟩) hS ?_
          case yff32 => intro wx hSw; (go_simp) <;> with_reducible rfl
          simp only [Act.put, List.setIfInBounds_toArray, List.set_cons_zero, List.set_cons_succ]
          refine takeAt (i := 33) (d := some 72) (v := ?vff33) rfl (by rfl) (by kernel_rfl) (by kernel_rfl) (by kernel_rfl) (fun _ _ _ h => h) (Or.inl ⟨by rfl, ?yff33⟩) hS ?_
          case yff33 => intro wx hSw; (go_simp) <;> with_reducible rfl
          simp only [Act.put, List.setIfInBounds_toArray, List.set_cons_zero, List.set_cons_succ]
          refine takeAt (i := 34) (d := some 73) (v := ?vff34) rfl (by rfl) (by kernel_rfl) (by kernel_rfl) (by kernel_rfl) (fun _ _ _ h => h) (Or.inl ⟨by rfl, ?yff34⟩) hS ?_
          case yff34 => intro wx hSw; (go_simp) <;> with_reducible rfl
          simp only [Act.put, List.setIfInBounds_toArray, List.set_cons_zero, List.set_cons_succ]
          refine takeAt (i := 35) (d := some 74) (v := ?vff35) rfl (by rfl) (by kernel_rfl) (by kernel_rfl) (by kernel_rfl) (fun _ _ _ h => h) (Or.inl ⟨by rfl, ?yff35⟩) hS ?_
          case yff35 => intro wx hSw; (go_simp) <;> with_reducible rfl
          simp only [Act.put, List.setIfInBounds_toArray, List.set_cons_zero, List.set_cons_succ]
          refine takeAt (i := 36) (d := some 75) (v := undef) rfl (by rfl) (by kernel_rfl) (by kernel_rfl) (by kernel_rfl) (fun _ _ _ h => h) (Or.inr ⟨by rfl, rfl⟩) hS ?_
          simp only [Act.put, List.setIfInBounds_toArray, List.set_cons_zero, List.set_cons_succ]
          refine takeAt (i := 37) (d := some 76) (v := undef) rfl (by rfl) (by kernel_rfl) (by kernel_rfl) (by kernel_rfl) (fun _ _ _ h => h) (Or.inr ⟨by rfl, rfl⟩) hS ?_
          simp only [Act.put, List.setIfInBounds_toArray, List.set_cons_zero, List.set_cons_succ]
          refine takeAt (i := 38) (d := some 77) (v := undef) rfl (by rfl) (by kernel_rfl) (by kernel_rfl) (by kernel_rfl) (fun _ _ _ h => h) (Or.inr ⟨by rfl, rfl⟩) hS ?_
          simp only [Act.put, List.setIfInBounds_toArray, List.set_cons_zero, List.set_cons_succ]
          refine takeAt (i := 39) (d := some 78) (v := undef) rfl (by rfl) (by kernel_rfl) (by kernel_rfl) (by kernel_rfl) (fun _ _ _ h => h) (Or.inr ⟨by rfl, rfl⟩) hS ?_
          simp only [Act.put, List.setIfInBounds_toArray, List.set_cons_zero, List.set_cons_succ]
          refine takeAt (i := 40) (d := some 79) (v := undef) rfl (by rfl) (by kernel_rfl) (by kernel_rfl) (by kernel_rfl) (fun _ _ _ h => h) (Or.inr ⟨by rfl, rfl⟩) hS ?_
          simp only [Act.put, List.setIfInBounds_toArray, List.set_cons_zero, List.set_cons_succ]
          refine takeAt (i := 41) (d := some 80) (v := undef) rfl (by rfl) (by kernel_rfl) (by kernel_rfl) (by kernel_rfl) (fun _ _ _ h => h) (Or.inr ⟨by rfl, rfl⟩) hS ?_
          simp only [Act.put, List.setIfInBounds_toArray, List.set_cons_zero, List.set_cons_succ]
          refine takeAt (i := 42) (d := some 81) (v := ?vff42) rfl (by rfl) (by kernel_rfl) (by kernel_rfl) (by kernel_rfl) (fun _ _ _ h => h) (Or.inl ⟨by rfl, ?yff42⟩) hS ?_
          case yff42 => intro wx hSw; (go_simp) <;> with_reducible rfl
          simp only [Act.put, List.setIfInBounds_toArray, List.set_cons_zero, List.set_cons_succ]
          refine takeAt (i := 43) (d := some 82) (v := ?vff43) rfl (by rfl) (by kernel_rfl) (by kernel_rfl) (by kernel_rfl) (fun _ _ _ h => h) (Or.inl ⟨by rfl, ?yff43⟩) hS ?_
          case yff43 => intro wx hSw; (go_simp) <;> with_reducible rfl
          simp only [Act.put, List.setIfInBounds_toArray, List.set_cons_zero, List.set_cons_succ]
          refine takeAt (i := 44) (d := some 83) (v := undef) rfl (by rfl) (by kernel_rfl) (by kernel_rfl) (by kernel_rfl) (fun _ _ _ h => h) (Or.inr ⟨by rfl, rfl⟩) hS ?_
          simp only [Act.put, List.setIfInBounds_toArray, List.set_cons_zero, List.set_cons_succ]
          refine takeAt (i := 45) (d := some 84) (v := undef) rfl (by rfl) (by kernel_rfl) (by kernel_rfl) (by kernel_rfl) (fun _ _ _ h => h) (Or.inr ⟨by rfl, rfl⟩) hS ?_
          simp only [Act.put, List.setIfInBounds_toArray, List.set_cons_zero, List.set_cons_succ]
          refine takeAt (i := 46) (d := some 85) (v := undef) rfl (by rfl) (by kernel_rfl) (by kernel_rfl) (by kernel_rfl) (fun _ _ _ h => h) (Or.inr ⟨by rfl, rfl⟩) hS ?_
          simp only [Act.put, List.setIfInBounds_toArray, List.set_cons_zero, List.set_cons_succ]
          refine takeAt (i := 47) (d := some 86) (v := undef) rfl (by rfl) (by kernel_rfl) (by kernel_rfl) (by kernel_rfl) (fun _ _ _ h => h) (Or.inr ⟨by rfl, rfl⟩) hS ?_
          simp only [Act.put, List.setIfInBounds_toArray, List.set_cons_zero, List.set_cons_succ]
          refine takeAt (i := 48) (d := some 87) (v := undef) rfl (by rfl) (by kernel_rfl) (by kernel_rfl) (by kernel_rfl) (fun _ _ _ h => h) (Or.inr ⟨by rfl, rfl⟩) hS ?_
          simp only [Act.put, List.setIfInBounds_toArray, List.set_cons_zero, List.set_cons_succ]
          refine takeAt (i := 49) (d := some 88) (v := ?vff49) rfl (by rfl) (by kernel_rfl) (by kernel_rfl) (by kernel_rfl) (fun _ _ _ h => h) (Or.inl ⟨by rfl, ?yff49⟩) hS ?_
          case yff49 => intro wx hSw; (go_simp) <;> with_reducible rfl
          simp only [Act.put, List.setIfInBounds_toArray, List.set_cons_zero, List.set_cons_succ]
          refine takeAt (i := 50) (d := some 89) (v := ?vff50) rfl (by rfl) (by kernel_rfl) (by kernel_rfl) (by kernel_rfl) (fun _ _ _ h => h) (Or.inl ⟨by rfl, ?yff50⟩) hS ?_
          case yff50 => intro wx hSw; (go_simp) <;> with_reducible rfl
          simp only [Act.put, List.setIfInBounds_toArray, List.set_cons_zero, List.set_cons_succ]
          refine wpAnyH_done (by kernel_rfl) ?_ _
          refine NoPanic.normal ?_
          have ST := hid st3
          obtain ⟨WX, hWX⟩ : ∃ WX, we = WX := ⟨_, rfl⟩
          rw [hWX] at ST
          rw [hWX]
          clear hWX st0 st1 st2 st3  hS A0 A1 A2 A3 A4 D0 D1 SI3 SN3
          cases py with
          | false =>
            have e0 := D2 WX ST.out
            have e1 := D3 WX ST.out
            go_wp2_with fail
            go_ret
            exact ⟨rfl, View.more B3.out ST.out⟩
          | true =>
            have e0 := D2 WX ST.out
            have e1 := D3 WX ST.out
            by_cases hy0 : y = 0
            · have t1 : ((y : Int) == 0) = true := by simp [hy0]
              have Y0 := hid hy0
              clear hy0
              go_wp2_with fail
              go_ret
              exact ⟨rfl, View.more B3.out ST.out⟩
            · have t1 : ((y : Int) == 0) = false := by simp; omega
              have Y0 := hid hy0
              clear hy0
              go_wp2_with fail
              clear e0 e1 D2
              go_loopw [10] (fun i wr => ∃ k : Nat, k ≤ (R y).n ∧ i = .int .i64 k ∧ (∀ i, i < k → (pvL F F.blk.n y).getD i 0 ∉ L) ∧ Below wb.heap.size wb wr) (fun i _ => (R y).n - (intOf i).toNat)
              case atStart => exact ⟨0, Nat.zero_le _, rfl, fun i hi => by omega, ST.out⟩
              case round =>
                obtain ⟨k, hk, rfl, hno, hbw⟩ := hrel
                have HN := hid hno
                clear hno
                have e1 := D3 wr hbw
                by_cases hlt : k < (R y).n
                · obtain ⟨ib, io, hiy, hcell⟩ := (RI.out.1.on hbw).at hlt
                  have hkl : k < (pvL F F.blk.n y).length := by have := RI.out.2; omega
                  have hz := pvL_lt _ (getD_mem hkl)
                  obtain ⟨z, hze⟩ : ∃ z, (pvL F F.blk.n y).getD k 0 = z := ⟨_, rfl⟩
                  simp only [hze] at hcell hz
                  have e2 := cell_on hbw (HR.out.cell hz)
                  have hbzz := bool_at (g := M2) hz
                  have ZE := hid hze
                  clear hze
                  by_cases hzL : z ∈ L
                  · rw [decide_eq_true hzL] at e2
                    have ZL := hid hzL
                    clear hzL
                    go_wp2_with fail
                    go_ret
                    exact ⟨rfl, View.more B3.out hbw⟩
                  · rw [decide_eq_false hzL] at e2
                    have ZL := hid hzL
                    clear hzL
                    go_wp2_with fail
                    go_round
                    case rel => exact ⟨k + 1, by omega, by go_num, fun i hi => by
                      by_cases e : i = k
                      · rw [e, ZE.out]; exact ZL.out
                      · exact HN.out i (by omega), hbw⟩
                    case measure => simp [intOf]; omega
                · exfalso
                  have hyL : y ∈ L := of_decide_eq_true PP.out.2.2
                  obtain ⟨i, hi, e⟩ := List.getElem_of_mem hyL
                  rcases OD.out.par i y (by rw [List.getElem?_eq_getElem hi, e]) with h | ⟨j, z, _, hj, hyz⟩
                  · exact Y0.out h
                  · have hzL := List.mem_of_getElem? hj
                    have hzp : z ∈ pvL F F.blk.n y := mem_pvL.2 ⟨OD.out.lt z hzL, hyz⟩
                    obtain ⟨q, hq, e'⟩ := List.getElem_of_mem hzp
                    exact HN.out q (by have := RI.out.2; omega) (by simp only [List.getD, List.getElem?_eq_getElem hq, e']; exact hzL)
        | true =>
          clear hyy
          refine wp_region_noPanic ?_
          refine wp_region_held_drew (S := fun wx => Below wb.heap.size wb wx) (by kernel_rfl) st0 (fun hS => ?_)
          refine takeAt (i := 0) (d := some 39) (v := ?vft0) rfl (by rfl) (by kernel_rfl) (by kernel_rfl) (by kernel_rfl) (fun _ _ _ h => h) (Or.inl ⟨by rfl, ?yft0⟩) hS ?_
          case yft0 => intro wx hSw; (go_simp) <;> with_reducible rfl
          simp only [Act.put, List.setIfInBounds_toArray, List.set_cons_zero, List.set_cons_succ]
          refine takeAt (i := 1) (d := some 40) (v := ?vft1) rfl (by rfl) (by kernel_rfl) (by kernel_rfl) (by kernel_rfl) (fun _ _ _ h => h) (Or.inl ⟨by rfl, ?yft1⟩) hS ?_
          case yft1 => intro wx hSw; (go_simp) <;> with_reducible rfl
          simp only [Act.put, List.setIfInBounds_toArray, List.set_cons_zero, List.set_cons_succ]
          refine takeAt (i := 2) (d := some 41) (v := ?vft2) rfl (by rfl) (by kernel_rfl) (by kernel_rfl) (by kernel_rfl) (fun _ _ _ h => h) (Or.inl ⟨by rfl, ?yft2⟩) hS ?_
          case yft2 => intro wx hSw; (go_simp) <;> with_reducible rfl
          simp only [Act.put, List.setIfInBounds_toArray, List.set_cons_zero, List.set_cons_succ]
          refine takeAt (i := 3) (d := some 42) (v := ?vft3) rfl (by rfl) (by kernel_rfl) (by kernel_rfl) (by kernel_rfl) (fun _ _ _ h => h) (Or.inl ⟨by rfl, ?yft3⟩) hS ?_
          case yft3 => intro wx hSw; (go_simp) <;> with_reducible rfl
          simp only [Act.put, List.setIfInBounds_toArray, List.set_cons_zero, List.set_cons_succ]
          refine takeAt (i := 4) (d := some 43) (v := ?vft4) rfl (by rfl) (by kernel_rfl) (by kernel_rfl) (by kernel_rfl) (fun _ _ _ h => h) (Or.inl ⟨by rfl, ?yft4⟩) hS ?_
          case yft4 => intro wx hSw; (go_simp) <;> with_reducible rfl
          simp only [Act.put, List.setIfInBounds_toArray, List.set_cons_zero, List.set_cons_succ]
          refine takeAt (i := 5) (d := some 44) (v := ?vft5) rfl (by rfl) (by kernel_rfl) (by kernel_rfl) (by kernel_rfl) (fun _ _ _ h => h) (Or.inl ⟨by rfl, ?yft5⟩) hS ?_
          case yft5 => intro wx hSw; (go_simp) <;> with_reducible rfl
          simp only [Act.put, List.setIfInBounds_toArray, List.set_cons_zero, List.set_cons_succ]
          refine takeAt (i := 6) (d := some 45) (v := ?vft6) rfl (by rfl) (by kernel_rfl) (by kernel_rfl) (by kernel_rfl) (fun _ _ _ h => h) (Or.inl ⟨by rfl, ?yft6⟩) hS ?_
          case yft6 => intro wx hSw; (go_simp) <;> with_reducible rfl
          simp only [Act.put, List.setIfInBounds_toArray, List.set_cons_zero, List.set_cons_succ]
          refine takeAt (i := 7) (d := some 46) (v := ?vft7) rfl (by rfl) (by kernel_rfl) (by kernel_rfl) (by kernel_rfl) (fun _ _ _ h => h) (Or.inl ⟨by rfl, ?yft7⟩) hS ?_
          case yft7 => intro wx hSw; (go_simp) <;> with_reducible rfl
          simp only [Act.put, List.setIfInBounds_toArray, List.set_cons_zero, List.set_cons_succ]
          refine takeAt (i := 8) (d := some 47) (v := ?vft8) rfl (by rfl) (by kernel_rfl) (by kernel_rfl) (by kernel_rfl) (fun _ _ _ h => h) (Or.inl ⟨by rfl, ?yft8⟩) hS ?_
          case yft8 => intro wx hSw; (go_simp) <;> with_reducible rfl
          simp only [Act.put, List.setIfInBounds_toArray, List.set_cons_zero, List.set_cons_succ]
          refine takeAt (i := 9) (d := some 48) (v := ?vft9) rfl (by rfl) (by kernel_rfl) (by kernel_rfl) (by kernel_rfl) (fun _ _ _ h => h) (Or.inl ⟨by rfl, ?yft9⟩) hS ?_
          case yft9 => intro wx hSw; (go_simp) <;> with_reducible rfl
          simp only [Act.put, List.setIfInBounds_toArray, List.set_cons_zero, List.set_cons_succ]
          refine takeAt (i := 10) (d := some 49) (v := ?vft10) rfl (by rfl) (by kernel_rfl) (by kernel_rfl) (by kernel_rfl) (fun _ _ _ h => h) (Or.inl ⟨by rfl, ?yft10⟩) hS ?_
          case yft10 => intro wx hSw; (go_simp) <;> with_reducible rfl
          simp only [Act.put, List.setIfInBounds_toArray, List.set_cons_zero, List.set_cons_succ]
          refine takeAt (i := 11) (d := some 50) (v := ?vft11) rfl (by rfl) (by kernel_rfl) (by kernel_rfl) (by kernel_rfl) (fun _ _ _ h => h) (Or.inl ⟨by rfl, ?yft11⟩) hS ?_
          case yft11 => intro wx hSw; (go_simp) <;> with_reducible rfl
          simp only [Act.put, List.setIfInBounds_toArray, List.set_cons_zero, List.set_cons_succ]
          refine takeAt (i := 12) (d := some 51) (v := ?vft12) rfl (by rfl) (by kernel_rfl) (by kernel_rfl) (by kernel_rfl) (fun _ _ _ h => h) (Or.inl ⟨by rfl, ?yft12⟩) hS ?_
          case yft12 => intro wx hSw; (go_simp) <;> with_reducible rfl
          simp only [Act.put, List.setIfInBounds_toArray, List.set_cons_zero, List.set_cons_succ]
          refine takeAt (i := 13) (d := some 52) (v := ?vft13) rfl (by rfl) (by kernel_rfl) (by kernel_rfl) (by kernel_rfl) (fun _ _ _ h => h) (Or.inl ⟨by rfl, ?yft13⟩) hS ?_
          case yft13 => intro wx hSw; (go_simp) <;> with_reducible rfl
          simp only [Act.put, List.setIfInBounds_toArray, List.set_cons_zero, List.set_cons_succ]
          refine takeAt (i := 14) (d := some 53) (v := ?vft14) rfl (by rfl) (by kernel_rfl) (by kernel_rfl) (by kernel_rfl) (fun _ _ _ h => h) (Or.inl ⟨by rfl, ?yft14⟩) hS ?_
          case yft14 => intro wx hSw; (go_simp) <;> with_reducible rfl
          simp only [Act.put, List.setIfInBounds_toArray, List.set_cons_zero, List.set_cons_succ]
          refine takeAt (i := 15) (d := some 54) (v := ?vft15) rfl (by rfl) (by kernel_rfl) (by kernel_rfl) (by kernel_rfl) (fun _ _ _ h => h) (Or.inl ⟨by rfl, ?yft15⟩) hS ?_
          case yft15 => intro wx hSw; (go_simp) <;> with_reducible rfl
          simp only [Act.put, List.setIfInBounds_toArray, List.set_cons_zero, List.set_cons_succ]
          refine takeAt (i := 17) (d := some 56) (v := ?vft17) rfl (by rfl) (by kernel_rfl) (by kernel_rfl) (by kernel_rfl) (fun _ _ _ h => h) (Or.inl ⟨by rfl, ?yft17⟩) hS ?_
          case yft17 => intro wx hSw; (go_simp) <;> with_reducible rfl
          simp only [Act.put, List.setIfInBounds_toArray, List.set_cons_zero, List.set_cons_succ]
          refine takeAt (i := 18) (d := some 57) (v := ?vft18) rfl (by rfl) (by kernel_rfl) (by kernel_rfl) (by kernel_rfl) (fun _ _ _ h => h) (Or.inl ⟨by rfl, ?yft18⟩) hS ?_
          case yft18 => intro wx hSw; (go_simp) <;> with_reducible rfl
          simp only [Act.put, List.setIfInBounds_toArray, List.set_cons_zero, List.set_cons_succ]
          refine takeAt (i := 20) (d := some 59) (v := ?vft20) rfl (by rfl) (by kernel_rfl) (by kernel_rfl) (by kernel_rfl) (fun _ _ _ h => h) (Or.inl ⟨by rfl, ?yft20⟩) hS ?_
          case yft20 => intro wx hSw; (go_simp) <;> with_reducible rfl
          simp only [Act.put, List.setIfInBounds_toArray, List.set_cons_zero, List.set_cons_succ]
          refine wpAnyH_ready (rs := [16]) (by kernel_rfl) (by simp) ?_
          refine AllReadyH.cons rfl (fun K hK => ?_) AllReadyH.nil
          go_simp
          refine (in_any (R y) _ x _ (RI.out.1.on st0) (by omega)).mono ?_
          rintro e wc ⟨r1, rfl, hr1, hbc⟩
          obtain rfl := (bool_of (hr1.trans ((ex_mem RI.out.2 x).trans PM.out))).trans PP.out.1
          have st1 : Below wb.heap.size wb wc := View.more st0 hbc
          clear hr1 hbc
          go_wp2_with fail
          refine hK.out _ _ st1 (fun _ => ?_)
          clear hK K
          replace hS := st1
          try simp only [Act.put, List.setIfInBounds_toArray, List.set_cons_zero, List.set_cons_succ]
          refine wpAnyH_ready (rs := [19]) (by kernel_rfl) (by simp) ?_
          refine AllReadyH.cons rfl (fun K hK => ?_) AllReadyH.nil
          go_simp
          refine (next_flow F x _ (IB.out.on st1) HL.out HJ.out).mono ?_
          rintro e wd ⟨s3, rfl, hsn3, hsi3, hsm3, hbd⟩
          rw [suI_nat] at hsn3 hsi3
          have st2 : Below wb.heap.size wb wd := View.more st1 hbd
          have SI3 := hid hsi3
          have SN3 := hid hsn3
          clear hsm3 hbd hsi3 hsn3
          go_wp2_with fail
          refine hK.out _ _ st2 (fun _ => ?_)
          clear hK K
          replace hS := st2
          try simp only [Act.put, List.setIfInBounds_toArray, List.set_cons_zero, List.set_cons_succ]
          refine wpAnyH_ready (rs := [21]) (by kernel_rfl) (by simp) ?_
          refine AllReadyH.cons rfl (fun K hK => ?_) AllReadyH.nil
          go_simp
          refine (in_any s3 _ y _ SI3.out (by have := su_le HL.out x; have := SN3.out; omega)).mono ?_
          rintro e we ⟨r2, rfl, hr2, hbe⟩
          obtain rfl := (bool_of (hr2.trans (ex_mem SN3.out y))).trans PP.out.1
          have st3 : Below wb.heap.size wb we := View.more st2 hbe
          clear hr2 hbe
          go_wp2_with fail
          refine hK.out _ _ st3 (fun _ => ?_)
          clear hK K
          replace hS := st3
          try simp only [Act.put, List.setIfInBounds_toArray, List.set_cons_zero, List.set_cons_succ]
          refine takeAt (i := 22) (d := some 61) (v := ?vft22) rfl (by rfl) (by kernel_rfl) (by kernel_rfl) (by kernel_rfl) (fun _ _ _ h => h) (Or.inl ⟨by rfl, ?yft22⟩) hS ?_
          case yft22 => intro wx hSw; (go_simp) <;> with_reducible rfl
          simp only [Act.put, List.setIfInBounds_toArray, List.set_cons_zero, List.set_cons_succ]
          refine takeAt (i := 23) (d := some 62) (v := ?vft23) rfl (by rfl) (by kernel_rfl) (by kernel_rfl) (by kernel_rfl) (fun _ _ _ h => h) (Or.inl ⟨by rfl, ?yft23⟩) hS ?_
          case yft23 => intro wx hSw; (go_simp) <;> with_reducible rfl
          simp only [Act.put, List.setIfInBounds_toArray, List.set_cons_zero, List.set_cons_succ]
          refine takeAt (i := 24) (d := some 63) (v := ?vft24) rfl (by rfl) (by kernel_rfl) (by kernel_rfl) (by kernel_rfl) (fun _ _ _ h => h) (Or.inl ⟨by rfl, ?yft24⟩) hS ?_
          case yft24 => intro wx hSw; (go_simp) <;> with_reducible rfl
          simp only [Act.put, List.setIfInBounds_toArray, List.set_cons_zero, List.set_cons_succ]
          refine takeAt (i := 25) (d := some 64) (v := ?vft25) rfl (by rfl) (by kernel_rfl) (by kernel_rfl) (by kernel_rfl) (fun _ _ _ h => h) (Or.inl ⟨by rfl, ?yft25⟩) hS ?_
          case yft25 => intro wx hSw; (go_simp) <;> with_reducible rfl
          simp only [Act.put, List.setIfInBounds_toArray, List.set_cons_zero, List.set_cons_succ]
          refine takeAt (i := 26) (d := some 65) (v := ?vft26) rfl (by rfl) (by kernel_rfl) (by kernel_rfl) (by kernel_rfl) (fun _ _ _ h => h) (Or.inl ⟨by rfl, ?yft26⟩) hS ?_
          case yft26 => intro wx hSw; (go_simp) <;> with_reducible rfl
          simp only [Act.put, List.setIfInBounds_toArray, List.set_cons_zero, List.set_cons_succ]
          refine takeAt (i := 27) (d := some 66) (v := ?vft27) rfl (by rfl) (by kernel_rfl) (by kernel_rfl) (by kernel_rfl) (fun _ _ _ h => h) (Or.inl ⟨by rfl, ?yft27⟩) hS ?_
          case yft27 => intro wx hSw; (go_simp) <;> with_reducible rfl
          simp only [Act.put, List.setIfInBounds_toArray, List.set_cons_zero, List.set_cons_succ]
          refine takeAt (i := 28) (d := some 67) (v := ?vft28) rfl (by rfl) (by kernel_rfl) (by kernel_rfl) (by kernel_rfl) (fun _ _ _ h => h) (Or.inl ⟨by rfl, ?yft28⟩) hS ?_
          case yft28 => intro wx hSw; (go_simp) <;> with_reducible rfl
          simp only [Act.put, List.setIfInBounds_toArray, List.set_cons_zero, List.set_cons_succ]
          refine takeAt (i := 29) (d := some 68) (v := ?vft29) rfl (by rfl) (by kernel_rfl) (by kernel_rfl) (by kernel_rfl) (fun _ _ _ h => h) (Or.inl ⟨by rfl, ?yft29⟩) hS ?_
          case yft29 => intro wx hSw; (go_simp) <;> with_reducible rfl
          simp only [Act.put, List.setIfInBounds_toArray, List.set_cons_zero, List.set_cons_succ]
          refine takeAt (i := 30) (d := some 69) (v := ?vft30) rfl (by rfl) (by kernel_rfl) (by kernel_rfl) (by kernel_rfl) (fun _ _ _ h => h) (Or.inl ⟨by rfl, ?yft30⟩) hS ?_
          case yft30 => intro wx hSw; (go_simp) <;> with_reducible rfl
          simp only [Act.put, List.setIfInBounds_toArray, List.set_cons_zero, List.set_cons_succ]
          refine takeAt (i := 31) (d := some 70) (v := ?vft31) rfl (by rfl) (by kernel_rfl) (by kernel_rfl) (by kernel_rfl) (fun _ _ _ h => h) (Or.inl ⟨by rfl, ?yft31⟩) hS ?_
          case yft31 => intro wx hSw; (go_simp) <;> with_reducible rfl
          simp only [Act.put, List.setIfInBounds_toArray, List.set_cons_zero, List.set_cons_succ]
          refine takeAt (i := 32) (d := some 71) (v := ?vft32) rfl (by rfl) (by kernel_rfl) (by kernel_rfl) (by kernel_rfl) (fun _ _ _ h => h) (Or.inl ⟨by rfl, ?yft32⟩) hS ?_
          case yft32 => intro wx hSw; (go_simp) <;> with_reducible rfl
          simp only [Act.put, List.setIfInBounds_toArray, List.set_cons_zero, List.set_cons_succ]
          refine takeAt (i := 33) (d := some 72) (v := ?vft33) rfl (by rfl) (by kernel_rfl) (by kernel_rfl) (by kernel_rfl) (fun _ _ _ h => h) (Or.inl ⟨by rfl, ?yft33⟩) hS ?_
          case yft33 => intro wx hSw; (go_simp) <;> with_reducible rfl
          simp only [Act.put, List.setIfInBounds_toArray, List.set_cons_zero, List.set_cons_succ]
          refine takeAt (i := 34) (d := some 73) (v := ?vft34) rfl (by rfl) (by kernel_rfl) (by kernel_rfl) (by kernel_rfl) (fun _ _ _ h => h) (Or.inl ⟨by rfl, ?yft34⟩) hS ?_
          case yft34 => intro wx hSw; (go_simp) <;> with_reducible rfl
          simp only [Act.put, List.setIfInBounds_toArray, List.set_cons_zero, List.set_cons_succ]
          refine takeAt (i := 35) (d := some 74) (v := ?vft35) rfl (by rfl) (by kernel_rfl) (by kernel_rfl) (by kernel_rfl) (fun _ _ _ h => h) (Or.inl ⟨by rfl, ?yft35⟩) hS ?_
          case yft35 => intro wx hSw; (go_simp) <;> with_reducible rfl
          simp only [Act.put, List.setIfInBounds_toArray, List.set_cons_zero, List.set_cons_succ]
          refine takeAt (i := 36) (d := some 75) (v := undef) rfl (by rfl) (by kernel_rfl) (by kernel_rfl) (by kernel_rfl) (fun _ _ _ h => h) (Or.inr ⟨by rfl, rfl⟩) hS ?_
          simp only [Act.put, List.setIfInBounds_toArray, List.set_cons_zero, List.set_cons_succ]
          refine takeAt (i := 37) (d := some 76) (v := undef) rfl (by rfl) (by kernel_rfl) (by kernel_rfl) (by kernel_rfl) (fun _ _ _ h => h) (Or.inr ⟨by rfl, rfl⟩) hS ?_
          simp only [Act.put, List.setIfInBounds_toArray, List.set_cons_zero, List.set_cons_succ]
          refine takeAt (i := 38) (d := some 77) (v := undef) rfl (by rfl) (by kernel_rfl) (by kernel_rfl) (by kernel_rfl) (fun _ _ _ h => h) (Or.inr ⟨by rfl, rfl⟩) hS ?_
          simp only [Act.put, List.setIfInBounds_toArray, List.set_cons_zero, List.set_cons_succ]
          refine takeAt (i := 39) (d := some 78) (v := undef) rfl (by rfl) (by kernel_rfl) (by kernel_rfl) (by kernel_rfl) (fun _ _ _ h => h) (Or.inr ⟨by rfl, rfl⟩) hS ?_
          simp only [Act.put, List.setIfInBounds_toArray, List.set_cons_zero, List.set_cons_succ]
          refine takeAt (i := 40) (d := some 79) (v := undef) rfl (by rfl) (by kernel_rfl) (by kernel_rfl) (by kernel_rfl) (fun _ _ _ h => h) (Or.inr ⟨by rfl, rfl⟩) hS ?_
          simp only [Act.put, List.setIfInBounds_toArray, List.set_cons_zero, List.set_cons_succ]
          refine takeAt (i := 41) (d := some 80) (v := undef) rfl (by rfl) (by kernel_rfl) (by kernel_rfl) (by kernel_rfl) (fun _ _ _ h => h) (Or.inr ⟨by rfl, rfl⟩) hS ?_
          simp only [Act.put, List.setIfInBounds_toArray, List.set_cons_zero, List.set_cons_succ]
          refine takeAt (i := 42) (d := some 81) (v := ?vft42) rfl (by rfl) (by kernel_rfl) (by kernel_rfl) (by kernel_rfl) (fun _ _ _ h => h) (Or.inl ⟨by rfl, ?yft42⟩) hS ?_
          case yft42 => intro wx hSw; (go_simp) <;> with_reducible rfl
          simp only [Act.put, List.setIfInBounds_toArray, List.set_cons_zero, List.set_cons_succ]
          refine takeAt (i := 43) (d := some 82) (v := ?vft43) rfl (by rfl) (by kernel_rfl) (by kernel_rfl) (by kernel_rfl) (fun _ _ _ h => h) (Or.inl ⟨by rfl, ?yft43⟩) hS ?_
          case yft43 => intro wx hSw; (go_simp) <;> with_reducible rfl
          simp only [Act.put, List.setIfInBounds_toArray, List.set_cons_zero, List.set_cons_succ]
          refine takeAt (i := 44) (d := some 83) (v := undef) rfl (by rfl) (by kernel_rfl) (by kernel_rfl) (by kernel_rfl) (fun _ _ _ h => h) (Or.inr ⟨by rfl, rfl⟩) hS ?_
          simp only [Act.put, List.setIfInBounds_toArray, List.set_cons_zero, List.set_cons_succ]
          refine takeAt (i := 45) (d := some 84) (v := undef) rfl (by rfl) (by kernel_rfl) (by kernel_rfl) (by kernel_rfl) (fun _ _ _ h => h) (Or.inr ⟨by rfl, rfl⟩) hS ?_
          simp only [Act.put, List.setIfInBounds_toArray, List.set_cons_zero, List.set_cons_succ]
          refine takeAt (i := 46) (d := some 85) (v := undef) rfl (by rfl) (by kernel_rfl) (by kernel_rfl) (by kernel_rfl) (fun _ _ _ h => h) (Or.inr ⟨by rfl, rfl⟩) hS ?_
          simp only [Act.put, List.setIfInBounds_toArray, List.set_cons_zero, List.set_cons_succ]
          refine takeAt (i := 47) (d := some 86) (v := undef) rfl (by rfl) (by kernel_rfl) (by kernel_rfl) (by kernel_rfl) (fun _ _ _ h => h) (Or.inr ⟨by rfl, rfl⟩) hS ?_
          simp only [Act.put, List.setIfInBounds_toArray, List.set_cons_zero, List.set_cons_succ]
          refine takeAt (i := 48) (d := some 87) (v := undef) rfl (by rfl) (by kernel_rfl) (by kernel_rfl) (by kernel_rfl) (fun _ _ _ h => h) (Or.inr ⟨by rfl, rfl⟩) hS ?_
          simp only [Act.put, List.setIfInBounds_toArray, List.set_cons_zero, List.set_cons_succ]
          refine takeAt (i := 49) (d := some 88) (v := ?vft49) rfl (by rfl) (by kernel_rfl) (by kernel_rfl) (by kernel_rfl) (fun _ _ _ h => h) (Or.inl ⟨by rfl, ?yft49⟩) hS ?_
          case yft49 => intro wx hSw; (go_simp) <;> with_reducible rfl
          simp only [Act.put, List.setIfInBounds_toArray, List.set_cons_zero, List.set_cons_succ]
          refine takeAt (i := 50) (d := some 89) (v := ?vft50) rfl (by rfl) (by kernel_rfl) (by kernel_rfl) (by kernel_rfl) (fun _ _ _ h => h) (Or.inl ⟨by rfl, ?yft50⟩) hS ?_
          case yft50 => intro wx hSw; (go_simp) <;> with_reducible rfl
          simp only [Act.put, List.setIfInBounds_toArray, List.set_cons_zero, List.set_cons_succ]
          refine wpAnyH_done (by kernel_rfl) ?_ _
          refine NoPanic.normal ?_
          have ST := hid st3
          obtain ⟨WX, hWX⟩ : ∃ WX, we = WX := ⟨_, rfl⟩
          rw [hWX] at ST
          rw [hWX]
          clear hWX st0 st1 st2 st3  hS A0 A1 A2 A3 A4 D0 D1 SI3 SN3
          cases py with
          | false =>
            have e0 := D2 WX ST.out
            have e1 := D3 WX ST.out
            go_wp2_with fail
            go_ret
            exact ⟨rfl, View.more B3.out ST.out⟩
          | true =>
            have e0 := D2 WX ST.out
            have e1 := D3 WX ST.out
            by_cases hy0 : y = 0
            · have t1 : ((y : Int) == 0) = true := by simp [hy0]
              have Y0 := hid hy0
              clear hy0
              go_wp2_with fail
              go_ret
              exact ⟨rfl, View.more B3.out ST.out⟩
            · have t1 : ((y : Int) == 0) = false := by simp; omega
              have Y0 := hid hy0
              clear hy0
              go_wp2_with fail
              clear e0 e1 D2
              go_loopw [10] (fun i wr => ∃ k : Nat, k ≤ (R y).n ∧ i = .int .i64 k ∧ (∀ i, i < k → (pvL F F.blk.n y).getD i 0 ∉ L) ∧ Below wb.heap.size wb wr) (fun i _ => (R y).n - (intOf i).toNat)
              case atStart => exact ⟨0, Nat.zero_le _, rfl, fun i hi => by omega, ST.out⟩
              case round =>
                obtain ⟨k, hk, rfl, hno, hbw⟩ := hrel
                have HN := hid hno
                clear hno
                have e1 := D3 wr hbw
                by_cases hlt : k < (R y).n
                · obtain ⟨ib, io, hiy, hcell⟩ := (RI.out.1.on hbw).at hlt
                  have hkl : k < (pvL F F.blk.n y).length := by have := RI.out.2; omega
                  have hz := pvL_lt _ (getD_mem hkl)
                  obtain ⟨z, hze⟩ : ∃ z, (pvL F F.blk.n y).getD k 0 = z := ⟨_, rfl⟩
                  simp only [hze] at hcell hz
                  have e2 := cell_on hbw (HR.out.cell hz)
                  have hbzz := bool_at (g := M2) hz
                  have ZE := hid hze
                  clear hze
                  by_cases hzL : z ∈ L
                  · rw [decide_eq_true hzL] at e2
                    have ZL := hid hzL
                    clear hzL
                    go_wp2_with fail
                    go_ret
                    exact ⟨rfl, View.more B3.out hbw⟩
                  · rw [decide_eq_false hzL] at e2
                    have ZL := hid hzL
                    clear hzL
                    go_wp2_with fail
                    go_round
                    case rel => exact ⟨k + 1, by omega, by go_num, fun i hi => by
                      by_cases e : i = k
                      · rw [e, ZE.out]; exact ZL.out
                      · exact HN.out i (by omega), hbw⟩
                    case measure => simp [intOf]; omega
                · exfalso
                  have hyL : y ∈ L := of_decide_eq_true PP.out.2.2
                  obtain ⟨i, hi, e⟩ := List.getElem_of_mem hyL
                  rcases OD.out.par i y (by rw [List.getElem?_eq_getElem hi, e]) with h | ⟨j, z, _, hj, hyz⟩
                  · exact Y0.out h
                  · have hzL := List.mem_of_getElem? hj
                    have hzp : z ∈ pvL F F.blk.n y := mem_pvL.2 ⟨OD.out.lt z hzL, hyz⟩
                    obtain ⟨q, hq, e'⟩ := List.getElem_of_mem hzp
                    exact HN.out q (by have := RI.out.2; omega) (by simp only [List.getD, List.getElem?_eq_getElem hq, e']; exact hzL)
      | true =>
        cases p with
        | false =>
          clear hyy
          refine wp_region_noPanic ?_
          refine wp_region_held_drew (S := fun wx => Below wb.heap.size wb wx) (by kernel_rfl) st0 (fun hS => ?_)
          refine takeAt (i := 0) (d := some 39) (v := ?vtf0) rfl (by rfl) (by kernel_rfl) (by kernel_rfl) (by kernel_rfl) (fun _ _ _ h => h) (Or.inl ⟨by rfl, ?ytf0⟩) hS ?_
          case ytf0 => intro wx hSw; (go_simp) <;> with_reducible rfl
          simp only [Act.put, List.setIfInBounds_toArray, List.set_cons_zero, List.set_cons_succ]
          refine takeAt (i := 1) (d := some 40) (v := ?vtf1) rfl (by rfl) (by kernel_rfl) (by kernel_rfl) (by kernel_rfl) (fun _ _ _ h => h) (Or.inl ⟨by rfl, ?ytf1⟩) hS ?_
          case ytf1 => intro wx hSw; (go_simp) <;> with_reducible rfl
          simp only [Act.put, List.setIfInBounds_toArray, List.set_cons_zero, List.set_cons_succ]
          refine takeAt (i := 2) (d := some 41) (v := ?vtf2) rfl (by rfl) (by kernel_rfl) (by kernel_rfl) (by kernel_rfl) (fun _ _ _ h => h) (Or.inl ⟨by rfl, ?ytf2⟩) hS ?_
          case ytf2 => intro wx hSw; (go_simp) <;> with_reducible rfl
          simp only [Act.put, List.setIfInBounds_toArray, List.set_cons_zero, List.set_cons_succ]
          refine takeAt (i := 3) (d := some 42) (v := ?vtf3) rfl (by rfl) (by kernel_rfl) (by kernel_rfl) (by kernel_rfl) (fun _ _ _ h => h) (Or.inl ⟨by rfl, ?ytf3⟩) hS ?_
          case ytf3 => intro wx hSw; (go_simp) <;> with_reducible rfl
          simp only [Act.put, List.setIfInBounds_toArray, List.set_cons_zero, List.set_cons_succ]
          refine takeAt (i := 4) (d := some 43) (v := ?vtf4) rfl (by rfl) (by kernel_rfl) (by kernel_rfl) (by kernel_rfl) (fun _ _ _ h => h) (Or.inl ⟨by rfl, ?ytf4⟩) hS ?_
          case ytf4 => intro wx hSw; (go_simp) <;> with_reducible rfl
          simp only [Act.put, List.setIfInBounds_toArray, List.set_cons_zero, List.set_cons_succ]
          refine takeAt (i := 5) (d := some 44) (v := ?vtf5) rfl (by rfl) (by kernel_rfl) (by kernel_rfl) (by kernel_rfl) (fun _ _ _ h => h) (Or.inl ⟨by rfl, ?ytf5⟩) hS ?_
          case ytf5 => intro wx hSw; (go_simp) <;> with_reducible rfl
          simp only [Act.put, List.setIfInBounds_toArray, List.set_cons_zero, List.set_cons_succ]
          refine takeAt (i := 6) (d := some 45) (v := ?vtf6) rfl (by rfl) (by kernel_rfl) (by kernel_rfl) (by kernel_rfl) (fun _ _ _ h => h) (Or.inl ⟨by rfl, ?ytf6⟩) hS ?_
          case ytf6 => intro wx hSw; (go_simp) <;> with_reducible rfl
          simp only [Act.put, List.setIfInBounds_toArray, List.set_cons_zero, List.set_cons_succ]
          refine takeAt (i := 7) (d := some 46) (v := ?vtf7) rfl (by rfl) (by kernel_rfl) (by kernel_rfl) (by kernel_rfl) (fun _ _ _ h => h) (Or.inl ⟨by rfl, ?ytf7⟩) hS ?_
          case ytf7 => intro wx hSw; (go_simp) <;> with_reducible rfl
          simp only [Act.put, List.setIfInBounds_toArray, List.set_cons_zero, List.set_cons_succ]
          refine takeAt (i := 8) (d := some 47) (v := ?vtf8) rfl (by rfl) (by kernel_rfl) (by kernel_rfl) (by kernel_rfl) (fun _ _ _ h => h) (Or.inl ⟨by rfl, ?ytf8⟩) hS ?_
          case ytf8 => intro wx hSw; (go_simp) <;> with_reducible rfl
          simp only [Act.put, List.setIfInBounds_toArray, List.set_cons_zero, List.set_cons_succ]
          refine takeAt (i := 9) (d := some 48) (v := ?vtf9) rfl (by rfl) (by kernel_rfl) (by kernel_rfl) (by kernel_rfl) (fun _ _ _ h => h) (Or.inl ⟨by rfl, ?ytf9⟩) hS ?_
          case ytf9 => intro wx hSw; (go_simp) <;> with_reducible rfl
          simp only [Act.put, List.setIfInBounds_toArray, List.set_cons_zero, List.set_cons_succ]
          refine takeAt (i := 10) (d := some 49) (v := ?vtf10) rfl (by rfl) (by kernel_rfl) (by kernel_rfl) (by kernel_rfl) (fun _ _ _ h => h) (Or.inl ⟨by rfl, ?ytf10⟩) hS ?_
          case ytf10 => intro wx hSw; (go_simp) <;> with_reducible rfl
          simp only [Act.put, List.setIfInBounds_toArray, List.set_cons_zero, List.set_cons_succ]
          refine takeAt (i := 11) (d := some 50) (v := ?vtf11) rfl (by rfl) (by kernel_rfl) (by kernel_rfl) (by kernel_rfl) (fun _ _ _ h => h) (Or.inl ⟨by rfl, ?ytf11⟩) hS ?_
          case ytf11 => intro wx hSw; (go_simp) <;> with_reducible rfl
          simp only [Act.put, List.setIfInBounds_toArray, List.set_cons_zero, List.set_cons_succ]
          refine takeAt (i := 12) (d := some 51) (v := ?vtf12) rfl (by rfl) (by kernel_rfl) (by kernel_rfl) (by kernel_rfl) (fun _ _ _ h => h) (Or.inl ⟨by rfl, ?ytf12⟩) hS ?_
          case ytf12 => intro wx hSw; (go_simp) <;> with_reducible rfl
          simp only [Act.put, List.setIfInBounds_toArray, List.set_cons_zero, List.set_cons_succ]
          refine takeAt (i := 13) (d := some 52) (v := ?vtf13) rfl (by rfl) (by kernel_rfl) (by kernel_rfl) (by kernel_rfl) (fun _ _ _ h => h) (Or.inl ⟨by rfl, ?ytf13⟩) hS ?_
          case ytf13 => intro wx hSw; (go_simp) <;> with_reducible rfl
          simp only [Act.put, List.setIfInBounds_toArray, List.set_cons_zero, List.set_cons_succ]
          refine takeAt (i := 14) (d := some 53) (v := ?vtf14) rfl (by rfl) (by kernel_rfl) (by kernel_rfl) (by kernel_rfl) (fun _ _ _ h => h) (Or.inl ⟨by rfl, ?ytf14⟩) hS ?_
          case ytf14 => intro wx hSw; (go_simp) <;> with_reducible rfl
          simp only [Act.put, List.setIfInBounds_toArray, List.set_cons_zero, List.set_cons_succ]
          refine takeAt (i := 15) (d := some 54) (v := ?vtf15) rfl (by rfl) (by kernel_rfl) (by kernel_rfl) (by kernel_rfl) (fun _ _ _ h => h) (Or.inl ⟨by rfl, ?ytf15⟩) hS ?_
          case ytf15 => intro wx hSw; (go_simp) <;> with_reducible rfl
          simp only [Act.put, List.setIfInBounds_toArray, List.set_cons_zero, List.set_cons_succ]
          refine takeAt (i := 17) (d := some 56) (v := ?vtf17) rfl (by rfl) (by kernel_rfl) (by kernel_rfl) (by kernel_rfl) (fun _ _ _ h => h) (Or.inl ⟨by rfl, ?ytf17⟩) hS ?_
          case ytf17 => intro wx hSw; (go_simp) <;> with_reducible rfl
          simp only [Act.put, List.setIfInBounds_toArray, List.set_cons_zero, List.set_cons_succ]
          refine takeAt (i := 18) (d := some 57) (v := ?vtf18) rfl (by rfl) (by kernel_rfl) (by kernel_rfl) (by kernel_rfl) (fun _ _ _ h => h) (Or.inl ⟨by rfl, ?ytf18⟩) hS ?_
          case ytf18 => intro wx hSw; (go_simp) <;> with_reducible rfl
          simp only [Act.put, List.setIfInBounds_toArray, List.set_cons_zero, List.set_cons_succ]
          refine takeAt (i := 20) (d := some 59) (v := ?vtf20) rfl (by rfl) (by kernel_rfl) (by kernel_rfl) (by kernel_rfl) (fun _ _ _ h => h) (Or.inl ⟨by rfl, ?ytf20⟩) hS ?_
          case ytf20 => intro wx hSw; (go_simp) <;> with_reducible rfl
          simp only [Act.put, List.setIfInBounds_toArray, List.set_cons_zero, List.set_cons_succ]
          refine wpAnyH_ready (rs := [16]) (by kernel_rfl) (by simp) ?_
          refine AllReadyH.cons rfl (fun K hK => ?_) AllReadyH.nil
          go_simp
          refine (in_any (R y) _ x _ (RI.out.1.on st0) (by omega)).mono ?_
          rintro e wc ⟨r1, rfl, hr1, hbc⟩
          obtain rfl := (bool_of (hr1.trans ((ex_mem RI.out.2 x).trans PM.out))).trans PP.out.1
          have st1 : Below wb.heap.size wb wc := View.more st0 hbc
          clear hr1 hbc
          go_wp2_with fail
          refine hK.out _ _ st1 (fun _ => ?_)
          clear hK K
          replace hS := st1
          try simp only [Act.put, List.setIfInBounds_toArray, List.set_cons_zero, List.set_cons_succ]
          refine wpAnyH_ready (rs := [19]) (by kernel_rfl) (by simp) ?_
          refine AllReadyH.cons rfl (fun K hK => ?_) AllReadyH.nil
          go_simp
          refine (next_flow F x _ (IB.out.on st1) HL.out HJ.out).mono ?_
          rintro e wd ⟨s3, rfl, hsn3, hsi3, hsm3, hbd⟩
          rw [suI_nat] at hsn3 hsi3
          have st2 : Below wb.heap.size wb wd := View.more st1 hbd
          have SI3 := hid hsi3
          have SN3 := hid hsn3
          clear hsm3 hbd hsi3 hsn3
          go_wp2_with fail
          refine hK.out _ _ st2 (fun _ => ?_)
          clear hK K
          replace hS := st2
          try simp only [Act.put, List.setIfInBounds_toArray, List.set_cons_zero, List.set_cons_succ]
          refine wpAnyH_ready (rs := [21]) (by kernel_rfl) (by simp) ?_
          refine AllReadyH.cons rfl (fun K hK => ?_) AllReadyH.nil
          go_simp
          refine (in_any s3 _ y _ SI3.out (by have := su_le HL.out x; have := SN3.out; omega)).mono ?_
          rintro e we ⟨r2, rfl, hr2, hbe⟩
          obtain rfl := (bool_of (hr2.trans (ex_mem SN3.out y))).trans PP.out.1
          have st3 : Below wb.heap.size wb we := View.more st2 hbe
          clear hr2 hbe
          go_wp2_with fail
          refine hK.out _ _ st3 (fun _ => ?_)
          clear hK K
          replace hS := st3
          try simp only [Act.put, List.setIfInBounds_toArray, List.set_cons_zero, List.set_cons_succ]
          refine takeAt (i := 22) (d := some 61) (v := ?vtf22) rfl (by rfl) (by kernel_rfl) (by kernel_rfl) (by kernel_rfl) (fun _ _ _ h => h) (Or.inl ⟨by rfl, ?ytf22⟩) hS ?_
          case ytf22 => intro wx hSw; (go_simp) <;> with_reducible rfl
          simp only [Act.put, List.setIfInBounds_toArray, List.set_cons_zero, List.set_cons_succ]
          refine takeAt (i := 23) (d := some 62) (v := ?vtf23) rfl (by rfl) (by kernel_rfl) (by kernel_rfl) (by kernel_rfl) (fun _ _ _ h => h) (Or.inl ⟨by rfl, ?ytf23⟩) hS ?_
          case ytf23 => intro wx hSw; (go_simp) <;> with_reducible rfl
          simp only [Act.put, List.setIfInBounds_toArray, List.set_cons_zero, List.set_cons_succ]
          refine takeAt (i := 24) (d := some 63) (v := ?vtf24) rfl (by rfl) (by kernel_rfl) (by kernel_rfl) (by kernel_rfl) (fun _ _ _ h => h) (Or.inl ⟨by rfl, ?ytf24⟩) hS ?_
          case ytf24 => intro wx hSw; (go_simp) <;> with_reducible rfl
          simp only [Act.put, List.setIfInBounds_toArray, List.set_cons_zero, List.set_cons_succ]
          refine takeAt (i := 25) (d := some 64) (v := ?vtf25) rfl (by rfl) (by kernel_rfl) (by kernel_rfl) (by kernel_rfl) (fun _ _ _ h => h) (Or.inl ⟨by rfl, ?ytf25⟩) hS ?_
          case ytf25 => intro wx hSw; (go_simp) <;> with_reducible rfl
          simp only [Act.put, List.setIfInBounds_toArray, List.set_cons_zero, List.set_cons_succ]
          refine takeAt (i := 26) (d := some 65) (v := ?vtf26) rfl (by rfl) (by kernel_rfl) (by kernel_rfl) (by kernel_rfl) (fun _ _ _ h => h) (Or.inl ⟨by rfl, ?ytf26⟩) hS ?_
          case ytf26 => intro wx hSw; (go_simp) <;> with_reducible rfl
          simp only [Act.put, List.setIfInBounds_toArray, List.set_cons_zero, List.set_cons_succ]
          refine takeAt (i := 27) (d := some 66) (v := ?vtf27) rfl (by rfl) (by kernel_rfl) (by kernel_rfl) (by kernel_rfl) (fun _ _ _ h => h) (Or.inl ⟨by rfl, ?ytf27⟩) hS ?_
          case ytf27 => intro wx hSw; (go_simp) <;> with_reducible rfl
          simp only [Act.put, List.setIfInBounds_toArray, List.set_cons_zero, List.set_cons_succ]
          refine takeAt (i := 28) (d := some 67) (v := ?vtf28) rfl (by rfl) (by kernel_rfl) (by kernel_rfl) (by kernel_rfl) (fun _ _ _ h => h) (Or.inl ⟨by rfl, ?ytf28⟩) hS ?_
          case ytf28 => intro wx hSw; (go_simp) <;> with_reducible rfl
          simp only [Act.put, List.setIfInBounds_toArray, List.set_cons_zero, List.set_cons_succ]
          refine takeAt (i := 29) (d := some 68) (v := ?vtf29) rfl (by rfl) (by kernel_rfl) (by kernel_rfl) (by kernel_rfl) (fun _ _ _ h => h) (Or.inl ⟨by rfl, ?ytf29⟩) hS ?_
          case ytf29 => intro wx hSw; (go_simp) <;> with_reducible rfl
          simp only [Act.put, List.setIfInBounds_toArray, List.set_cons_zero, List.set_cons_succ]
          refine takeAt (i := 30) (d := some 69) (v := ?vtf30) rfl (by rfl) (by kernel_rfl) (by kernel_rfl) (by kernel_rfl) (fun _ _ _ h => h) (Or.inl ⟨by rfl, ?ytf30⟩) hS ?_
          case ytf30 => intro wx hSw; (go_simp) <;> with_reducible rfl
          simp only [Act.put, List.setIfInBounds_toArray, List.set_cons_zero, List.set_cons_succ]
          refine takeAt (i := 31) (d := some 70) (v := ?vtf31) rfl (by rfl) (by kernel_rfl) (by kernel_rfl) (by kernel_rfl) (fun _ _ _ h => h) (Or.inl ⟨by rfl, ?ytf31⟩) hS ?_
          case ytf31 => intro wx hSw; (go_simp) <;> with_reducible rfl
          simp only [Act.put, List.setIfInBounds_toArray, List.set_cons_zero, List.set_cons_succ]
          refine takeAt (i := 32) (d := some 71) (v := ?vtf32) rfl (by rfl) (by kernel_rfl) (by kernel_rfl) (by kernel_rfl) (fun _ _ _ h => h) (Or.inl ⟨by rfl, ?ytf32⟩) hS ?_
          case ytf32 => intro wx hSw; (go_simp) <;> with_reducible rfl
          simp only [Act.put, List.setIfInBounds_toArray, List.set_cons_zero, List.set_cons_succ]
          refine takeAt (i := 33) (d := some 72) (v := ?vtf33) rfl (by rfl) (by kernel_rfl) (by kernel_rfl) (by kernel_rfl) (fun _ _ _ h => h) (Or.inl ⟨by rfl, ?ytf33⟩) hS ?_
          case ytf33 => intro wx hSw; (go_simp) <;> with_reducible rfl
          simp only [Act.put, List.setIfInBounds_toArray, List.set_cons_zero, List.set_cons_succ]
          refine takeAt (i := 34) (d := some 73) (v := ?vtf34) rfl (by rfl) (by kernel_rfl) (by kernel_rfl) (by kernel_rfl) (fun _ _ _ h => h) (Or.inl ⟨by rfl, ?ytf34⟩) hS ?_
          case ytf34 => intro wx hSw; (go_simp) <;> with_reducible rfl
          simp only [Act.put, List.setIfInBounds_toArray, List.set_cons_zero, List.set_cons_succ]
          refine takeAt (i := 35) (d := some 74) (v := ?vtf35) rfl (by rfl) (by kernel_rfl) (by kernel_rfl) (by kernel_rfl) (fun _ _ _ h => h) (Or.inl ⟨by rfl, ?ytf35⟩) hS ?_
          case ytf35 => intro wx hSw; (go_simp) <;> with_reducible rfl
          simp only [Act.put, List.setIfInBounds_toArray, List.set_cons_zero, List.set_cons_succ]
          refine takeAt (i := 36) (d := some 75) (v := ?vtf36) rfl (by rfl) (by kernel_rfl) (by kernel_rfl) (by kernel_rfl) (fun _ _ _ h => h) (Or.inl ⟨by rfl, ?ytf36⟩) hS ?_
          case ytf36 => intro wx hSw; (go_simp) <;> with_reducible rfl
          simp only [Act.put, List.setIfInBounds_toArray, List.set_cons_zero, List.set_cons_succ]
          refine takeAt (i := 37) (d := some 76) (v := ?vtf37) rfl (by rfl) (by kernel_rfl) (by kernel_rfl) (by kernel_rfl) (fun _ _ _ h => h) (Or.inl ⟨by rfl, ?ytf37⟩) hS ?_
          case ytf37 => intro wx hSw; (go_simp) <;> with_reducible rfl
          simp only [Act.put, List.setIfInBounds_toArray, List.set_cons_zero, List.set_cons_succ]
          refine takeAt (i := 38) (d := some 77) (v := ?vtf38) rfl (by rfl) (by kernel_rfl) (by kernel_rfl) (by kernel_rfl) (fun _ _ _ h => h) (Or.inl ⟨by rfl, ?ytf38⟩) hS ?_
          case ytf38 => intro wx hSw; (go_simp) <;> with_reducible rfl
          simp only [Act.put, List.setIfInBounds_toArray, List.set_cons_zero, List.set_cons_succ]
          refine takeAt (i := 39) (d := some 78) (v := ?vtf39) rfl (by rfl) (by kernel_rfl) (by kernel_rfl) (by kernel_rfl) (fun _ _ _ h => h) (Or.inl ⟨by rfl, ?ytf39⟩) hS ?_
          case ytf39 => intro wx hSw; (go_simp) <;> with_reducible rfl
          simp only [Act.put, List.setIfInBounds_toArray, List.set_cons_zero, List.set_cons_succ]
          refine takeAt (i := 40) (d := some 79) (v := ?vtf40) rfl (by rfl) (by kernel_rfl) (by kernel_rfl) (by kernel_rfl) (fun _ _ _ h => h) (Or.inl ⟨by rfl, ?ytf40⟩) hS ?_
          case ytf40 => intro wx hSw; (go_simp) <;> with_reducible rfl
          simp only [Act.put, List.setIfInBounds_toArray, List.set_cons_zero, List.set_cons_succ]
          refine wpAnyH_ready (rs := [41]) (by kernel_rfl) (by simp) ?_
          refine AllReadyH.cons rfl (fun K hK => ?_) AllReadyH.nil
          go_simp
          refine (in_any (R y) _ x _ (RI.out.1.on st3) (by omega)).mono ?_
          rintro e wf ⟨r3, rfl, hr3, hbf⟩
          obtain rfl := (bool_of (hr3.trans ((ex_mem RI.out.2 x).trans PM.out))).trans PP.out.1
          have st4 : Below wb.heap.size wb wf := View.more st3 hbf
          clear hr3 hbf
          go_wp2_with fail
          refine hK.out _ _ st4 (fun _ => ?_)
          clear hK K
          replace hS := st4
          try simp only [Act.put, List.setIfInBounds_toArray, List.set_cons_zero, List.set_cons_succ]
          refine takeAt (i := 42) (d := some 81) (v := ?vtf42) rfl (by rfl) (by kernel_rfl) (by kernel_rfl) (by kernel_rfl) (fun _ _ _ h => h) (Or.inl ⟨by rfl, ?ytf42⟩) hS ?_
          case ytf42 => intro wx hSw; (go_simp) <;> with_reducible rfl
          simp only [Act.put, List.setIfInBounds_toArray, List.set_cons_zero, List.set_cons_succ]
          refine takeAt (i := 43) (d := some 82) (v := ?vtf43) rfl (by rfl) (by kernel_rfl) (by kernel_rfl) (by kernel_rfl) (fun _ _ _ h => h) (Or.inl ⟨by rfl, ?ytf43⟩) hS ?_
          case ytf43 => intro wx hSw; (go_simp) <;> with_reducible rfl
          simp only [Act.put, List.setIfInBounds_toArray, List.set_cons_zero, List.set_cons_succ]
          refine takeAt (i := 44) (d := some 83) (v := undef) rfl (by rfl) (by kernel_rfl) (by kernel_rfl) (by kernel_rfl) (fun _ _ _ h => h) (Or.inr ⟨by rfl, rfl⟩) hS ?_
          simp only [Act.put, List.setIfInBounds_toArray, List.set_cons_zero, List.set_cons_succ]
          refine takeAt (i := 45) (d := some 84) (v := undef) rfl (by rfl) (by kernel_rfl) (by kernel_rfl) (by kernel_rfl) (fun _ _ _ h => h) (Or.inr ⟨by rfl, rfl⟩) hS ?_
          simp only [Act.put, List.setIfInBounds_toArray, List.set_cons_zero, List.set_cons_succ]
          refine takeAt (i := 46) (d := some 85) (v := undef) rfl (by rfl) (by kernel_rfl) (by kernel_rfl) (by kernel_rfl) (fun _ _ _ h => h) (Or.inr ⟨by rfl, rfl⟩) hS ?_
          simp only [Act.put, List.setIfInBounds_toArray, List.set_cons_zero, List.set_cons_succ]
          refine takeAt (i := 47) (d := some 86) (v := undef) rfl (by rfl) (by kernel_rfl) (by kernel_rfl) (by kernel_rfl) (fun _ _ _ h => h) (Or.inr ⟨by rfl, rfl⟩) hS ?_
          simp only [Act.put, List.setIfInBounds_toArray, List.set_cons_zero, List.set_cons_succ]
          refine takeAt (i := 48) (d := some 87) (v := undef) rfl (by rfl) (by kernel_rfl) (by kernel_rfl) (by kernel_rfl) (fun _ _ _ h => h) (Or.inr ⟨by rfl, rfl⟩) hS ?_
          simp only [Act.put, List.setIfInBounds_toArray, List.set_cons_zero, List.set_cons_succ]
          refine takeAt (i := 49) (d := some 88) (v := ?vtf49) rfl (by rfl) (by kernel_rfl) (by kernel_rfl) (by kernel_rfl) (fun _ _ _ h => h) (Or.inl ⟨by rfl, ?ytf49⟩) hS ?_
          case ytf49 => intro wx hSw; (go_simp) <;> with_reducible rfl
          simp only [Act.put, List.setIfInBounds_toArray, List.set_cons_zero, List.set_cons_succ]
          refine takeAt (i := 50) (d := some 89) (v := ?vtf50) rfl (by rfl) (by kernel_rfl) (by kernel_rfl) (by kernel_rfl) (fun _ _ _ h => h) (Or.inl ⟨by rfl, ?ytf50⟩) hS ?_
          case ytf50 => intro wx hSw; (go_simp) <;> with_reducible rfl
          simp only [Act.put, List.setIfInBounds_toArray, List.set_cons_zero, List.set_cons_succ]
          refine wpAnyH_done (by kernel_rfl) ?_ _
          refine NoPanic.normal ?_
          have ST := hid st4
          obtain ⟨WX, hWX⟩ : ∃ WX, wf = WX := ⟨_, rfl⟩
          rw [hWX] at ST
          rw [hWX]
          clear hWX st0 st1 st2 st3 st4 hS A0 A1 A2 A3 A4 D0 D1 SI3 SN3
          cases py with
          | false =>
            have e0 := D2 WX ST.out
            have e1 := D3 WX ST.out
            go_wp2_with fail
            go_ret
            exact ⟨rfl, View.more B3.out ST.out⟩
          | true =>
            have e0 := D2 WX ST.out
            have e1 := D3 WX ST.out
            by_cases hy0 : y = 0
            · have t1 : ((y : Int) == 0) = true := by simp [hy0]
              have Y0 := hid hy0
              clear hy0
              go_wp2_with fail
              go_ret
              exact ⟨rfl, View.more B3.out ST.out⟩
            · have t1 : ((y : Int) == 0) = false := by simp; omega
              have Y0 := hid hy0
              clear hy0
              go_wp2_with fail
              clear e0 e1 D2
              go_loopw [10] (fun i wr => ∃ k : Nat, k ≤ (R y).n ∧ i = .int .i64 k ∧ (∀ i, i < k → (pvL F F.blk.n y).getD i 0 ∉ L) ∧ Below wb.heap.size wb wr) (fun i _ => (R y).n - (intOf i).toNat)
              case atStart => exact ⟨0, Nat.zero_le _, rfl, fun i hi => by omega, ST.out⟩
              case round =>
                obtain ⟨k, hk, rfl, hno, hbw⟩ := hrel
                have HN := hid hno
                clear hno
                have e1 := D3 wr hbw
                by_cases hlt : k < (R y).n
                · obtain ⟨ib, io, hiy, hcell⟩ := (RI.out.1.on hbw).at hlt
                  have hkl : k < (pvL F F.blk.n y).length := by have := RI.out.2; omega
                  have hz := pvL_lt _ (getD_mem hkl)
                  obtain ⟨z, hze⟩ : ∃ z, (pvL F F.blk.n y).getD k 0 = z := ⟨_, rfl⟩
                  simp only [hze] at hcell hz
                  have e2 := cell_on hbw (HR.out.cell hz)
                  have hbzz := bool_at (g := M2) hz
                  have ZE := hid hze
                  clear hze
                  by_cases hzL : z ∈ L
                  · rw [decide_eq_true hzL] at e2
                    have ZL := hid hzL
                    clear hzL
                    go_wp2_with fail
                    go_ret
                    exact ⟨rfl, View.more B3.out hbw⟩
                  · rw [decide_eq_false hzL] at e2
                    have ZL := hid hzL
                    clear hzL
                    go_wp2_with fail
                    go_round
                    case rel => exact ⟨k + 1, by omega, by go_num, fun i hi => by
                      by_cases e : i = k
                      · rw [e, ZE.out]; exact ZL.out
                      · exact HN.out i (by omega), hbw⟩
                    case measure => simp [intOf]; omega
                · exfalso
                  have hyL : y ∈ L := of_decide_eq_true PP.out.2.2
                  obtain ⟨i, hi, e⟩ := List.getElem_of_mem hyL
                  rcases OD.out.par i y (by rw [List.getElem?_eq_getElem hi, e]) with h | ⟨j, z, _, hj, hyz⟩
                  · exact Y0.out h
                  · have hzL := List.mem_of_getElem? hj
                    have hzp : z ∈ pvL F F.blk.n y := mem_pvL.2 ⟨OD.out.lt z hzL, hyz⟩
                    obtain ⟨q, hq, e'⟩ := List.getElem_of_mem hzp
                    exact HN.out q (by have := RI.out.2; omega) (by simp only [List.getD, List.getElem?_eq_getElem hq, e']; exact hzL)
        | true =>
          obtain rfl := hyy rfl rfl
          clear hyy
          refine wp_region_noPanic ?_
          refine wp_region_held_drew (S := fun wx => Below wb.heap.size wb wx) (by kernel_rfl) st0 (fun hS => ?_)
          refine takeAt (i := 0) (d := some 39) (v := ?vtt0) rfl (by rfl) (by kernel_rfl) (by kernel_rfl) (by kernel_rfl) (fun _ _ _ h => h) (Or.inl ⟨by rfl, ?ytt0⟩) hS ?_
          case ytt0 => intro wx hSw; (go_simp) <;> with_reducible rfl
          simp only [Act.put, List.setIfInBounds_toArray, List.set_cons_zero, List.set_cons_succ]
          refine takeAt (i := 1) (d := some 40) (v := ?vtt1) rfl (by rfl) (by kernel_rfl) (by kernel_rfl) (by kernel_rfl) (fun _ _ _ h => h) (Or.inl ⟨by rfl, ?ytt1⟩) hS ?_
          case ytt1 => intro wx hSw; (go_simp) <;> with_reducible rfl
          simp only [Act.put, List.setIfInBounds_toArray, List.set_cons_zero, List.set_cons_succ]
          refine takeAt (i := 2) (d := some 41) (v := ?vtt2) rfl (by rfl) (by kernel_rfl) (by kernel_rfl) (by kernel_rfl) (fun _ _ _ h => h) (Or.inl ⟨by rfl, ?ytt2⟩) hS ?_
          case ytt2 => intro wx hSw; (go_simp) <;> with_reducible rfl
          simp only [Act.put, List.setIfInBounds_toArray, List.set_cons_zero, List.set_cons_succ]
          refine takeAt (i := 3) (d := some 42) (v := ?vtt3) rfl (by rfl) (by kernel_rfl) (by kernel_rfl) (by kernel_rfl) (fun _ _ _ h => h) (Or.inl ⟨by rfl, ?ytt3⟩) hS ?_
          case ytt3 => intro wx hSw; (go_simp) <;> with_reducible rfl
          simp only [Act.put, List.setIfInBounds_toArray, List.set_cons_zero, List.set_cons_succ]
          refine takeAt (i := 4) (d := some 43) (v := ?vtt4) rfl (by rfl) (by kernel_rfl) (by kernel_rfl) (by kernel_rfl) (fun _ _ _ h => h) (Or.inl ⟨by rfl, ?ytt4⟩) hS ?_
          case ytt4 => intro wx hSw; (go_simp) <;> with_reducible rfl
          simp only [Act.put, List.setIfInBounds_toArray, List.set_cons_zero, List.set_cons_succ]
          refine takeAt (i := 5) (d := some 44) (v := ?vtt5) rfl (by rfl) (by kernel_rfl) (by kernel_rfl) (by kernel_rfl) (fun _ _ _ h => h) (Or.inl ⟨by rfl, ?ytt5⟩) hS ?_
          case ytt5 => intro wx hSw; (go_simp) <;> with_reducible rfl
          simp only [Act.put, List.setIfInBounds_toArray, List.set_cons_zero, List.set_cons_succ]
          refine takeAt (i := 6) (d := some 45) (v := ?vtt6) rfl (by rfl) (by kernel_rfl) (by kernel_rfl) (by kernel_rfl) (fun _ _ _ h => h) (Or.inl ⟨by rfl, ?ytt6⟩) hS ?_
          case ytt6 => intro wx hSw; (go_simp) <;> with_reducible rfl
          simp only [Act.put, List.setIfInBounds_toArray, List.set_cons_zero, List.set_cons_succ]
          refine takeAt (i := 7) (d := some 46) (v := ?vtt7) rfl (by rfl) (by kernel_rfl) (by kernel_rfl) (by kernel_rfl) (fun _ _ _ h => h) (Or.inl ⟨by rfl, ?ytt7⟩) hS ?_
          case ytt7 => intro wx hSw; (go_simp) <;> with_reducible rfl
          simp only [Act.put, List.setIfInBounds_toArray, List.set_cons_zero, List.set_cons_succ]
          refine takeAt (i := 8) (d := some 47) (v := ?vtt8) rfl (by rfl) (by kernel_rfl) (by kernel_rfl) (by kernel_rfl) (fun _ _ _ h => h) (Or.inl ⟨by rfl, ?ytt8⟩) hS ?_
          case ytt8 => intro wx hSw; (go_simp) <;> with_reducible rfl
          simp only [Act.put, List.setIfInBounds_toArray, List.set_cons_zero, List.set_cons_succ]
          refine takeAt (i := 9) (d := some 48) (v := ?vtt9) rfl (by rfl) (by kernel_rfl) (by kernel_rfl) (by kernel_rfl) (fun _ _ _ h => h) (Or.inl ⟨by rfl, ?ytt9⟩) hS ?_
          case ytt9 => intro wx hSw; (go_simp) <;> with_reducible rfl
          simp only [Act.put, List.setIfInBounds_toArray, List.set_cons_zero, List.set_cons_succ]
          refine takeAt (i := 10) (d := some 49) (v := ?vtt10) rfl (by rfl) (by kernel_rfl) (by kernel_rfl) (by kernel_rfl) (fun _ _ _ h => h) (Or.inl ⟨by rfl, ?ytt10⟩) hS ?_
          case ytt10 => intro wx hSw; (go_simp) <;> with_reducible rfl
          simp only [Act.put, List.setIfInBounds_toArray, List.set_cons_zero, List.set_cons_succ]
          refine takeAt (i := 11) (d := some 50) (v := ?vtt11) rfl (by rfl) (by kernel_rfl) (by kernel_rfl) (by kernel_rfl) (fun _ _ _ h => h) (Or.inl ⟨by rfl, ?ytt11⟩) hS ?_
          case ytt11 => intro wx hSw; (go_simp) <;> with_reducible rfl
          simp only [Act.put, List.setIfInBounds_toArray, List.set_cons_zero, List.set_cons_succ]
          refine takeAt (i := 12) (d := some 51) (v := ?vtt12) rfl (by rfl) (by kernel_rfl) (by kernel_rfl) (by kernel_rfl) (fun _ _ _ h => h) (Or.inl ⟨by rfl, ?ytt12⟩) hS ?_
          case ytt12 => intro wx hSw; (go_simp) <;> with_reducible rfl
          simp only [Act.put, List.setIfInBounds_toArray, List.set_cons_zero, List.set_cons_succ]
          refine takeAt (i := 13) (d := some 52) (v := ?vtt13) rfl (by rfl) (by kernel_rfl) (by kernel_rfl) (by kernel_rfl) (fun _ _ _ h => h) (Or.inl ⟨by rfl, ?ytt13⟩) hS ?_
          case ytt13 => intro wx hSw; (go_simp) <;> with_reducible rfl
          simp only [Act.put, List.setIfInBounds_toArray, List.set_cons_zero, List.set_cons_succ]
          refine takeAt (i := 14) (d := some 53) (v := ?vtt14) rfl (by rfl) (by kernel_rfl) (by kernel_rfl) (by kernel_rfl) (fun _ _ _ h => h) (Or.inl ⟨by rfl, ?ytt14⟩) hS ?_
          case ytt14 => intro wx hSw; (go_simp) <;> with_reducible rfl
          simp only [Act.put, List.setIfInBounds_toArray, List.set_cons_zero, List.set_cons_succ]
          refine takeAt (i := 15) (d := some 54) (v := ?vtt15) rfl (by rfl) (by kernel_rfl) (by kernel_rfl) (by kernel_rfl) (fun _ _ _ h => h) (Or.inl ⟨by rfl, ?ytt15⟩) hS ?_
          case ytt15 => intro wx hSw; (go_simp) <;> with_reducible rfl
          simp only [Act.put, List.setIfInBounds_toArray, List.set_cons_zero, List.set_cons_succ]
          refine takeAt (i := 17) (d := some 56) (v := ?vtt17) rfl (by rfl) (by kernel_rfl) (by kernel_rfl) (by kernel_rfl) (fun _ _ _ h => h) (Or.inl ⟨by rfl, ?ytt17⟩) hS ?_
          case ytt17 => intro wx hSw; (go_simp) <;> with_reducible rfl
          simp only [Act.put, List.setIfInBounds_toArray, List.set_cons_zero, List.set_cons_succ]
          refine takeAt (i := 18) (d := some 57) (v := ?vtt18) rfl (by rfl) (by kernel_rfl) (by kernel_rfl) (by kernel_rfl) (fun _ _ _ h => h) (Or.inl ⟨by rfl, ?ytt18⟩) hS ?_
          case ytt18 => intro wx hSw; (go_simp) <;> with_reducible rfl
          simp only [Act.put, List.setIfInBounds_toArray, List.set_cons_zero, List.set_cons_succ]
          refine takeAt (i := 20) (d := some 59) (v := ?vtt20) rfl (by rfl) (by kernel_rfl) (by kernel_rfl) (by kernel_rfl) (fun _ _ _ h => h) (Or.inl ⟨by rfl, ?ytt20⟩) hS ?_
          case ytt20 => intro wx hSw; (go_simp) <;> with_reducible rfl
          simp only [Act.put, List.setIfInBounds_toArray, List.set_cons_zero, List.set_cons_succ]
          refine wpAnyH_ready (rs := [16]) (by kernel_rfl) (by simp) ?_
          refine AllReadyH.cons rfl (fun K hK => ?_) AllReadyH.nil
          go_simp
          refine (in_any (R y) _ x _ (RI.out.1.on st0) (by omega)).mono ?_
          rintro e wc ⟨r1, rfl, hr1, hbc⟩
          obtain rfl := (bool_of (hr1.trans ((ex_mem RI.out.2 x).trans PM.out))).trans PP.out.1
          have st1 : Below wb.heap.size wb wc := View.more st0 hbc
          clear hr1 hbc
          go_wp2_with fail
          refine hK.out _ _ st1 (fun _ => ?_)
          clear hK K
          replace hS := st1
          try simp only [Act.put, List.setIfInBounds_toArray, List.set_cons_zero, List.set_cons_succ]
          refine wpAnyH_ready (rs := [19]) (by kernel_rfl) (by simp) ?_
          refine AllReadyH.cons rfl (fun K hK => ?_) AllReadyH.nil
          go_simp
          refine (next_flow F x _ (IB.out.on st1) HL.out HJ.out).mono ?_
          rintro e wd ⟨s3, rfl, hsn3, hsi3, hsm3, hbd⟩
          rw [suI_nat] at hsn3 hsi3
          have st2 : Below wb.heap.size wb wd := View.more st1 hbd
          have SI3 := hid hsi3
          have SN3 := hid hsn3
          clear hsm3 hbd hsi3 hsn3
          go_wp2_with fail
          refine hK.out _ _ st2 (fun _ => ?_)
          clear hK K
          replace hS := st2
          try simp only [Act.put, List.setIfInBounds_toArray, List.set_cons_zero, List.set_cons_succ]
          refine wpAnyH_ready (rs := [21]) (by kernel_rfl) (by simp) ?_
          refine AllReadyH.cons rfl (fun K hK => ?_) AllReadyH.nil
          go_simp
          refine (in_any s3 _ y _ SI3.out (by have := su_le HL.out x; have := SN3.out; omega)).mono ?_
          rintro e we ⟨r2, rfl, hr2, hbe⟩
          obtain rfl := (bool_of (hr2.trans (ex_mem SN3.out y))).trans PP.out.1
          have st3 : Below wb.heap.size wb we := View.more st2 hbe
          clear hr2 hbe
          go_wp2_with fail
          refine hK.out _ _ st3 (fun _ => ?_)
          clear hK K
          replace hS := st3
          try simp only [Act.put, List.setIfInBounds_toArray, List.set_cons_zero, List.set_cons_succ]
          refine takeAt (i := 22) (d := some 61) (v := ?vtt22) rfl (by rfl) (by kernel_rfl) (by kernel_rfl) (by kernel_rfl) (fun _ _ _ h => h) (Or.inl ⟨by rfl, ?ytt22⟩) hS ?_
          case ytt22 => intro wx hSw; (go_simp) <;> with_reducible rfl
          simp only [Act.put, List.setIfInBounds_toArray, List.set_cons_zero, List.set_cons_succ]
          refine takeAt (i := 23) (d := some 62) (v := ?vtt23) rfl (by rfl) (by kernel_rfl) (by kernel_rfl) (by kernel_rfl) (fun _ _ _ h => h) (Or.inl ⟨by rfl, ?ytt23⟩) hS ?_
          case ytt23 => intro wx hSw; (go_simp) <;> with_reducible rfl
          simp only [Act.put, List.setIfInBounds_toArray, List.set_cons_zero, List.set_cons_succ]
          refine takeAt (i := 24) (d := some 63) (v := ?vtt24) rfl (by rfl) (by kernel_rfl) (by kernel_rfl) (by kernel_rfl) (fun _ _ _ h => h) (Or.inl ⟨by rfl, ?ytt24⟩) hS ?_
          case ytt24 => intro wx hSw; (go_simp) <;> with_reducible rfl
          simp only [Act.put, List.setIfInBounds_toArray, List.set_cons_zero, List.set_cons_succ]
          refine takeAt (i := 25) (d := some 64) (v := ?vtt25) rfl (by rfl) (by kernel_rfl) (by kernel_rfl) (by kernel_rfl) (fun _ _ _ h => h) (Or.inl ⟨by rfl, ?ytt25⟩) hS ?_
          case ytt25 => intro wx hSw; (go_simp) <;> with_reducible rfl
          simp only [Act.put, List.setIfInBounds_toArray, List.set_cons_zero, List.set_cons_succ]
          refine takeAt (i := 26) (d := some 65) (v := ?vtt26) rfl (by rfl) (by kernel_rfl) (by kernel_rfl) (by kernel_rfl) (fun _ _ _ h => h) (Or.inl ⟨by rfl, ?ytt26⟩) hS ?_
          case ytt26 => intro wx hSw; (go_simp) <;> with_reducible rfl
          simp only [Act.put, List.setIfInBounds_toArray, List.set_cons_zero, List.set_cons_succ]
          refine takeAt (i := 27) (d := some 66) (v := ?vtt27) rfl (by rfl) (by kernel_rfl) (by kernel_rfl) (by kernel_rfl) (fun _ _ _ h => h) (Or.inl ⟨by rfl, ?ytt27⟩) hS ?_
          case ytt27 => intro wx hSw; (go_simp) <;> with_reducible rfl
          simp only [Act.put, List.setIfInBounds_toArray, List.set_cons_zero, List.set_cons_succ]
          refine takeAt (i := 28) (d := some 67) (v := ?vtt28) rfl (by rfl) (by kernel_rfl) (by kernel_rfl) (by kernel_rfl) (fun _ _ _ h => h) (Or.inl ⟨by rfl, ?ytt28⟩) hS ?_
          case ytt28 => intro wx hSw; (go_simp) <;> with_reducible rfl
          simp only [Act.put, List.setIfInBounds_toArray, List.set_cons_zero, List.set_cons_succ]
          refine takeAt (i := 29) (d := some 68) (v := ?vtt29) rfl (by rfl) (by kernel_rfl) (by kernel_rfl) (by kernel_rfl) (fun _ _ _ h => h) (Or.inl ⟨by rfl, ?ytt29⟩) hS ?_
          case ytt29 => intro wx hSw; (go_simp) <;> with_reducible rfl
          simp only [Act.put, List.setIfInBounds_toArray, List.set_cons_zero, List.set_cons_succ]
          refine takeAt (i := 30) (d := some 69) (v := ?vtt30) rfl (by rfl) (by kernel_rfl) (by kernel_rfl) (by kernel_rfl) (fun _ _ _ h => h) (Or.inl ⟨by rfl, ?ytt30⟩) hS ?_
          case ytt30 => intro wx hSw; (go_simp) <;> with_reducible rfl
          simp only [Act.put, List.setIfInBounds_toArray, List.set_cons_zero, List.set_cons_succ]
          refine takeAt (i := 31) (d := some 70) (v := ?vtt31) rfl (by rfl) (by kernel_rfl) (by kernel_rfl) (by kernel_rfl) (fun _ _ _ h => h) (Or.inl ⟨by rfl, ?ytt31⟩) hS ?_
          case ytt31 => intro wx hSw; (go_simp) <;> with_reducible rfl
          simp only [Act.put, List.setIfInBounds_toArray, List.set_cons_zero, List.set_cons_succ]
          refine takeAt (i := 32) (d := some 71) (v := ?vtt32) rfl (by rfl) (by kernel_rfl) (by kernel_rfl) (by kernel_rfl) (fun _ _ _ h => h) (Or.inl ⟨by rfl, ?ytt32⟩) hS ?_
          case ytt32 => intro wx hSw; (go_simp) <;> with_reducible rfl
          simp only [Act.put, List.setIfInBounds_toArray, List.set_cons_zero, List.set_cons_succ]
          refine takeAt (i := 33) (d := some 72) (v := ?vtt33) rfl (by rfl) (by kernel_rfl) (by kernel_rfl) (by kernel_rfl) (fun _ _ _ h => h) (Or.inl ⟨by rfl, ?ytt33⟩) hS ?_
          case ytt33 => intro wx hSw; (go_simp) <;> with_reducible rfl
          simp only [Act.put, List.setIfInBounds_toArray, List.set_cons_zero, List.set_cons_succ]
          refine takeAt (i := 34) (d := some 73) (v := ?vtt34) rfl (by rfl) (by kernel_rfl) (by kernel_rfl) (by kernel_rfl) (fun _ _ _ h => h) (Or.inl ⟨by rfl, ?ytt34⟩) hS ?_
          case ytt34 => intro wx hSw; (go_simp) <;> with_reducible rfl
          simp only [Act.put, List.setIfInBounds_toArray, List.set_cons_zero, List.set_cons_succ]
          refine takeAt (i := 35) (d := some 74) (v := ?vtt35) rfl (by rfl) (by kernel_rfl) (by kernel_rfl) (by kernel_rfl) (fun _ _ _ h => h) (Or.inl ⟨by rfl, ?ytt35⟩) hS ?_
          case ytt35 => intro wx hSw; (go_simp) <;> with_reducible rfl
          simp only [Act.put, List.setIfInBounds_toArray, List.set_cons_zero, List.set_cons_succ]
          refine takeAt (i := 36) (d := some 75) (v := ?vtt36) rfl (by rfl) (by kernel_rfl) (by kernel_rfl) (by kernel_rfl) (fun _ _ _ h => h) (Or.inl ⟨by rfl, ?ytt36⟩) hS ?_
          case ytt36 => intro wx hSw; (go_simp) <;> with_reducible rfl
          simp only [Act.put, List.setIfInBounds_toArray, List.set_cons_zero, List.set_cons_succ]
          refine takeAt (i := 37) (d := some 76) (v := ?vtt37) rfl (by rfl) (by kernel_rfl) (by kernel_rfl) (by kernel_rfl) (fun _ _ _ h => h) (Or.inl ⟨by rfl, ?ytt37⟩) hS ?_
          case ytt37 => intro wx hSw; (go_simp) <;> with_reducible rfl
          simp only [Act.put, List.setIfInBounds_toArray, List.set_cons_zero, List.set_cons_succ]
          refine takeAt (i := 38) (d := some 77) (v := ?vtt38) rfl (by rfl) (by kernel_rfl) (by kernel_rfl) (by kernel_rfl) (fun _ _ _ h => h) (Or.inl ⟨by rfl, ?ytt38⟩) hS ?_
          case ytt38 => intro wx hSw; (go_simp) <;> with_reducible rfl
          simp only [Act.put, List.setIfInBounds_toArray, List.set_cons_zero, List.set_cons_succ]
          refine takeAt (i := 39) (d := some 78) (v := ?vtt39) rfl (by rfl) (by kernel_rfl) (by kernel_rfl) (by kernel_rfl) (fun _ _ _ h => h) (Or.inl ⟨by rfl, ?ytt39⟩) hS ?_
          case ytt39 => intro wx hSw; (go_simp) <;> with_reducible rfl
          simp only [Act.put, List.setIfInBounds_toArray, List.set_cons_zero, List.set_cons_succ]
          refine takeAt (i := 40) (d := some 79) (v := ?vtt40) rfl (by rfl) (by kernel_rfl) (by kernel_rfl) (by kernel_rfl) (fun _ _ _ h => h) (Or.inl ⟨by rfl, ?ytt40⟩) hS ?_
          case ytt40 => intro wx hSw; (go_simp) <;> with_reducible rfl
          simp only [Act.put, List.setIfInBounds_toArray, List.set_cons_zero, List.set_cons_succ]
          refine wpAnyH_ready (rs := [41]) (by kernel_rfl) (by simp) ?_
          refine AllReadyH.cons rfl (fun K hK => ?_) AllReadyH.nil
          go_simp
          refine (in_any (R y) _ x _ (RI.out.1.on st3) (by omega)).mono ?_
          rintro e wf ⟨r3, rfl, hr3, hbf⟩
          obtain rfl := (bool_of (hr3.trans ((ex_mem RI.out.2 x).trans PM.out))).trans PP.out.1
          have st4 : Below wb.heap.size wb wf := View.more st3 hbf
          clear hr3 hbf
          go_wp2_with fail
          refine hK.out _ _ st4 (fun _ => ?_)
          clear hK K
          replace hS := st4
          try simp only [Act.put, List.setIfInBounds_toArray, List.set_cons_zero, List.set_cons_succ]
          refine takeAt (i := 42) (d := some 81) (v := ?vtt42) rfl (by rfl) (by kernel_rfl) (by kernel_rfl) (by kernel_rfl) (fun _ _ _ h => h) (Or.inl ⟨by rfl, ?ytt42⟩) hS ?_
          case ytt42 => intro wx hSw; (go_simp) <;> with_reducible rfl
          simp only [Act.put, List.setIfInBounds_toArray, List.set_cons_zero, List.set_cons_succ]
          refine takeAt (i := 43) (d := some 82) (v := ?vtt43) rfl (by rfl) (by kernel_rfl) (by kernel_rfl) (by kernel_rfl) (fun _ _ _ h => h) (Or.inl ⟨by rfl, ?ytt43⟩) hS ?_
          case ytt43 => intro wx hSw; (go_simp) <;> with_reducible rfl
          simp only [Act.put, List.setIfInBounds_toArray, List.set_cons_zero, List.set_cons_succ]
          refine takeAt (i := 44) (d := some 83) (v := ?vtt44) rfl (by rfl) (by kernel_rfl) (by kernel_rfl) (by kernel_rfl) (fun _ _ _ h => h) (Or.inl ⟨by rfl, ?ytt44⟩) hS ?_
          case ytt44 => intro wx hSw; (go_simp) <;> with_reducible rfl
          simp only [Act.put, List.setIfInBounds_toArray, List.set_cons_zero, List.set_cons_succ]
          refine takeAt (i := 45) (d := some 84) (v := ?vtt45) rfl (by rfl) (by kernel_rfl) (by kernel_rfl) (by kernel_rfl) (fun _ _ _ h => h) (Or.inl ⟨by rfl, ?ytt45⟩) hS ?_
          case ytt45 => intro wx hSw; (go_simp) <;> with_reducible rfl
          simp only [Act.put, List.setIfInBounds_toArray, List.set_cons_zero, List.set_cons_succ]
          refine takeAt (i := 46) (d := some 85) (v := ?vtt46) rfl (by rfl) (by kernel_rfl) (by kernel_rfl) (by kernel_rfl) (fun _ _ _ h => h) (Or.inl ⟨by rfl, ?ytt46⟩) hS ?_
          case ytt46 => intro wx hSw; (go_simp) <;> with_reducible rfl
          simp only [Act.put, List.setIfInBounds_toArray, List.set_cons_zero, List.set_cons_succ]
          refine takeAt (i := 47) (d := some 86) (v := ?vtt47) rfl (by rfl) (by kernel_rfl) (by kernel_rfl) (by kernel_rfl) (fun _ _ _ h => h) (Or.inl ⟨by rfl, ?ytt47⟩) hS ?_
          case ytt47 => intro wx hSw; (go_simp) <;> with_reducible rfl
          simp only [Act.put, List.setIfInBounds_toArray, List.set_cons_zero, List.set_cons_succ]
          refine takeAt (i := 48) (d := some 87) (v := ?vtt48) rfl (by rfl) (by kernel_rfl) (by kernel_rfl) (by kernel_rfl) (fun _ _ _ h => h) (Or.inl ⟨by rfl, ?ytt48⟩) hS ?_
          case ytt48 => intro wx hSw; (go_simp) <;> with_reducible rfl
          simp only [Act.put, List.setIfInBounds_toArray, List.set_cons_zero, List.set_cons_succ]
          refine takeAt (i := 49) (d := some 88) (v := ?vtt49) rfl (by rfl) (by kernel_rfl) (by kernel_rfl) (by kernel_rfl) (fun _ _ _ h => h) (Or.inl ⟨by rfl, ?ytt49⟩) hS ?_
          case ytt49 => intro wx hSw; (go_simp) <;> with_reducible rfl
          simp only [Act.put, List.setIfInBounds_toArray, List.set_cons_zero, List.set_cons_succ]
          refine takeAt (i := 50) (d := some 89) (v := ?vtt50) rfl (by rfl) (by kernel_rfl) (by kernel_rfl) (by kernel_rfl) (fun _ _ _ h => h) (Or.inl ⟨by rfl, ?ytt50⟩) hS ?_
          case ytt50 => intro wx hSw; (go_simp) <;> with_reducible rfl
          simp only [Act.put, List.setIfInBounds_toArray, List.set_cons_zero, List.set_cons_succ]
          refine wpAnyH_done (by kernel_rfl) ?_ _
          refine NoPanic.normal ?_
          have ST := hid st4
          obtain ⟨WX, hWX⟩ : ∃ WX, wf = WX := ⟨_, rfl⟩
          rw [hWX] at ST
          rw [hWX]
          clear hWX st0 st1 st2 st3 st4 hS A0 A1 A2 A3 A4 D0 D1 SI3 SN3
          have e0 := D2 WX ST.out
          have e1 := D3 WX ST.out
          by_cases hy0 : y = 0
          · have t1 : ((y : Int) == 0) = true := by simp [hy0]
            have Y0 := hid hy0
            clear hy0
            go_wp2_with fail
            go_ret
            exact ⟨rfl, View.more B3.out ST.out⟩
          · have t1 : ((y : Int) == 0) = false := by simp; omega
            have Y0 := hid hy0
            clear hy0
            go_wp2_with fail
            clear e0 e1 D2
            go_loopw [10] (fun i wr => ∃ k : Nat, k ≤ (R y).n ∧ i = .int .i64 k ∧ (∀ i, i < k → (pvL F F.blk.n y).getD i 0 ∉ L) ∧ Below wb.heap.size wb wr) (fun i _ => (R y).n - (intOf i).toNat)
            case atStart => exact ⟨0, Nat.zero_le _, rfl, fun i hi => by omega, ST.out⟩
            case round =>
              obtain ⟨k, hk, rfl, hno, hbw⟩ := hrel
              have HN := hid hno
              clear hno
              have e1 := D3 wr hbw
              by_cases hlt : k < (R y).n
              · obtain ⟨ib, io, hiy, hcell⟩ := (RI.out.1.on hbw).at hlt
                have hkl : k < (pvL F F.blk.n y).length := by have := RI.out.2; omega
                have hz := pvL_lt _ (getD_mem hkl)
                obtain ⟨z, hze⟩ : ∃ z, (pvL F F.blk.n y).getD k 0 = z := ⟨_, rfl⟩
                simp only [hze] at hcell hz
                have e2 := cell_on hbw (HR.out.cell hz)
                have hbzz := bool_at (g := M2) hz
                have ZE := hid hze
                clear hze
                by_cases hzL : z ∈ L
                · rw [decide_eq_true hzL] at e2
                  have ZL := hid hzL
                  clear hzL
                  go_wp2_with fail
                  go_ret
                  exact ⟨rfl, View.more B3.out hbw⟩
                · rw [decide_eq_false hzL] at e2
                  have ZL := hid hzL
                  clear hzL
                  go_wp2_with fail
                  go_round
                  case rel => exact ⟨k + 1, by omega, by go_num, fun i hi => by
                    by_cases e : i = k
                    · rw [e, ZE.out]; exact ZL.out
                    · exact HN.out i (by omega), hbw⟩
                  case measure => simp [intOf]; omega
              · exfalso
                have hyL : y ∈ L := of_decide_eq_true PP.out.2.2
                obtain ⟨i, hi, e⟩ := List.getElem_of_mem hyL
                rcases OD.out.par i y (by rw [List.getElem?_eq_getElem hi, e]) with h | ⟨j, z, _, hj, hyz⟩
                · exact Y0.out h
                · have hzL := List.mem_of_getElem? hj
                  have hzp : z ∈ pvL F F.blk.n y := mem_pvL.2 ⟨OD.out.lt z hzL, hyz⟩
                  obtain ⟨q, hq, e'⟩ := List.getElem_of_mem hzp
                  exact HN.out q (by have := RI.out.2; omega) (by simp only [List.getD, List.getElem?_eq_getElem hq, e']; exact hzL)

end Go.Proofs.Ytipligpabhjniaa.Flo
