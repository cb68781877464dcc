/-
  Light, Mod, Renum: laid together.
-/
import Derived.Test.YtbmfimojhcdnbaaGreatJ0
import Derived.Test.YtbmfimojhcdnbaaGreatJ3
import Derived.Test.YtbmfimojhcdnbaaGreatJ1
/-
  Whether a function is light enough: the contract of plnkeep.Light.
-/
namespace Go.Proofs.YtbmfimojhcdnbaaGreat.Rd
open Go.RowKit View

set_option linter.unusedVariables false

/-- A bool that says so, and memory that has only grown. -/
def Ans (p : Bool → Prop) (w : World) (e : Ending) (w' : World) : Prop := ∃ r : Bool, e = .returned (.bool r) ∧ p r ∧ Below w.heap.size w w'

def Thin (F : FV) (j : Nat) : Prop := ∀ k, k < (F.B j).n → (F.I j k).args.n ≤ 20 ∧ (F.I j k).into.n ≤ 20

theorem light_of {F : FV} (h1 : F.name.size ≤ 40) (h2 : F.par.n ≤ 8) (h3 : F.blk.n ≤ 48) (h4 : cnt (fun j => (F.B j).n) F.blk.n ≤ 400) (h5 : ∀ j, j < F.blk.n → Thin F j) : Light F := by
  have key : ∀ m, cnt (fun j => (F.B j).n) m ≤ 400 → ∀ j, j < m → (F.B j).n ≤ 400 := by
    intro m
    induction m with
    | zero => intro _ j hj; omega
    | succ m ih =>
      intro hm j hj
      rw [cnt] at hm
      rcases Nat.lt_or_eq_of_le (Nat.le_of_lt_succ hj) with h | h
      · exact ih (by omega) j h
      · rw [h]; omega
  exact ⟨h4, h1, h2, h3, key _ h4, fun j hj k hk => (h5 j hj k hk).1, fun j hj k hk => (h5 j hj k hk).2⟩

set_option maxHeartbeats 1000000 in
theorem light_any (F : FV) (w : World) (hF : In w F) :
    Calls Tryz.prog 20 #[F.val] w fun e w' => Ans (fun r => r = true → Light F) w e w' := by
  by_cases g1 : (40 : Int) < F.name.size
  · have d1 : decide ((40 : Int) < F.name.size) = true := by simpa using g1
    go_enter Tryz.func20, Tryz.ntmps20
    go_wp2
    go_ret
    exact ⟨false, rfl, by simp, new (same w) _⟩
  have d1 : decide ((40 : Int) < F.name.size) = false := by simpa using g1
  by_cases g2 : (8 : Int) < F.par.n
  · have d2 : decide ((8 : Int) < F.par.n) = true := by simpa using g2
    go_enter Tryz.func20, Tryz.ntmps20
    go_wp2
    go_ret
    exact ⟨false, rfl, by simp, new (same w) _⟩
  have d2 : decide ((8 : Int) < F.par.n) = false := by simpa using g2
  by_cases g3 : (16 : Int) < F.blk.n
  · have d3 : decide ((16 : Int) < F.blk.n) = true := by simpa using g3
    go_enter Tryz.func20, Tryz.ntmps20
    go_wp2
    go_ret
    exact ⟨false, rfl, by simp, new (same w) _⟩
  have d3 : decide ((16 : Int) < F.blk.n) = false := by simpa using g3
  go_enter Tryz.func20, Tryz.ntmps20
  go_wp2
  go_loop [3, 4] (fun s i => ∃ k : Nat, k ≤ F.blk.n ∧ i = .int .i64 k ∧ s = .int .i64 (cnt (fun j => (F.B j).n) k) ∧ cnt (fun j => (F.B j).n) k ≤ 90 ∧ ∀ j, j < k → Thin F j) (fun _ i => F.blk.n - (intOf i).toNat)
  case atStart => exact ⟨0, Nat.zero_le _, rfl, rfl, by simp [cnt], fun j hj => by omega⟩
  case round =>
    obtain ⟨k, hk, rfl, rfl, hle, hall⟩ := hrel
    have HA := hid hall
    clear hall
    by_cases hlt : k < F.blk.n
    · obtain ⟨b, o, hix, hck⟩ := hF.blk.at hlt
      have hbl := World.block_lt_of_cell? _ _ hck
      have hin := hF.ins k hlt
      have q1 := hin.1
      have q2 := hin.2.1
      by_cases g5 : (90 : Int) < cnt (fun j => (F.B j).n) k + (F.B k).n
      · go_wp2
        go_ret
        exact ⟨false, rfl, by simp, new (same w) _⟩
      go_wp2
      go_loop [5] (fun i => ∃ t : Nat, t ≤ (F.B k).n ∧ i = .int .i64 t ∧ ∀ i, i < t → (F.I k i).args.n ≤ 20 ∧ (F.I k i).into.n ≤ 20) (fun i => (F.B k).n - (intOf i).toNat)
      case atStart => exact ⟨0, Nat.zero_le _, rfl, fun j hj => by omega⟩
      case round =>
        obtain ⟨t, ht, rfl, hall⟩ := hrel
        have HB := hid hall
        clear hall
        by_cases htl : t < (F.B k).n
        · obtain ⟨ib, io, hiy, c0, c1, c2, c3, c4, c5, c6⟩ := hin.at htl
          have hbl' := World.block_lt_of_cell? _ _ c5
          by_cases g6 : (20 : Int) < (F.I k t).args.n
          · have d6 : decide ((20 : Int) < (F.I k t).args.n) = true := by simpa using g6
            go_wp2
            go_ret
            exact ⟨false, rfl, by simp, new (same w) _⟩
          have d6 : decide ((20 : Int) < (F.I k t).args.n) = false := by simpa using g6
          by_cases g7 : (20 : Int) < (F.I k t).into.n
          · have d7 : decide ((20 : Int) < (F.I k t).into.n) = true := by simpa using g7
            go_wp2
            go_ret
            exact ⟨false, rfl, by simp, new (same w) _⟩
          have d7 : decide ((20 : Int) < (F.I k t).into.n) = false := by simpa using g7
          go_wp2
          go_round
          case rel => exact ⟨t + 1, by omega, by go_num, upto HB.out ⟨by omega, by omega⟩⟩
          case measure => simp [intOf]; omega
        · obtain rfl : t = (F.B k).n := by omega
          go_wp2
          go_round
          case rel => exact ⟨k + 1, by omega, by go_num, by simp [cnt], by rw [cnt]; omega, upto HA.out HB.out⟩
          case measure => simp [intOf]; omega
    · obtain rfl : k = F.blk.n := by omega
      go_wp2
      go_ret
      exact ⟨true, rfl, fun _ => light_of (by omega) (by omega) (by omega) (Nat.le_trans hle (by decide)) HA.out, new (same w) _⟩
end Go.Proofs.YtbmfimojhcdnbaaGreat.Rd

/-
  How a module lies in memory: externs, globals, tables, functions.
-/
namespace Go.Proofs.YtbmfimojhcdnbaaGreat.Mod
open Go.RowKit Go.Deep View Rd Num Opn Copy

set_option linter.unusedVariables false

/-- An extern as it lies. -/
structure EV where
  name : ByteArray
  par : Sl
  res : Int

/-- A global, a table as they lie. -/
structure GV where
  name : ByteArray
  cel : Sl

structure MV where
  ext : Sl
  glo : Sl
  tab : Sl
  fns : Sl
  E : Nat → EV
  EP : Nat → Nat → Int
  G : Nat → GV
  GC : Nat → Nat → Int
  T : Nat → GV
  TF : Nat → Nat → Int
  F : Nat → FV

abbrev MV.val (M : MV) : Value := .agg #[.slice M.ext.a M.ext.n M.ext.c, .slice M.glo.a M.glo.n M.glo.c, .slice M.tab.a M.tab.n M.tab.c, .slice M.fns.a M.fns.n M.fns.c]

structure EAt (w : World) (b o : Nat) (v : EV) : Prop where
  c0 : w.cell? ⟨b, o, none⟩ = some (.string v.name)
  c1 : w.cell? ⟨b, o + 1, none⟩ = some (.slice v.par.a v.par.n v.par.c)
  c2 : w.cell? ⟨b, o + 2, none⟩ = some (.int .i64 v.res)

structure GAt (w : World) (b o : Nat) (v : GV) : Prop where
  c0 : w.cell? ⟨b, o, none⟩ = some (.string v.name)
  c1 : w.cell? ⟨b, o + 1, none⟩ = some (.slice v.cel.a v.cel.n v.cel.c)

structure FAt (w : World) (b o : Nat) (F : FV) : Prop where
  c0 : w.cell? ⟨b, o, none⟩ = some (.string F.name)
  c1 : w.cell? ⟨b, o + 1, none⟩ = some (.bool F.out)
  c2 : w.cell? ⟨b, o + 2, none⟩ = some (.slice F.par.a F.par.n F.par.c)
  c3 : w.cell? ⟨b, o + 3, none⟩ = some (.int .i64 F.res)
  c4 : w.cell? ⟨b, o + 4, none⟩ = some (.slice F.blk.a F.blk.n F.blk.c)

theorem EAt.on {w w' : World} {b o : Nat} {v : EV} (hb : Below w.heap.size w w') (h : EAt w b o v) : EAt w' b o v := ⟨cell_on hb h.c0, cell_on hb h.c1, cell_on hb h.c2⟩
theorem GAt.on {w w' : World} {b o : Nat} {v : GV} (hb : Below w.heap.size w w') (h : GAt w b o v) : GAt w' b o v := ⟨cell_on hb h.c0, cell_on hb h.c1⟩
theorem FAt.on {w w' : World} {b o : Nat} {v : FV} (hb : Below w.heap.size w w') (h : FAt w b o v) : FAt w' b o v := ⟨cell_on hb h.c0, cell_on hb h.c1, cell_on hb h.c2, cell_on hb h.c3, cell_on hb h.c4⟩

/-- A row of things of z cells each. -/
def Row {α : Type} (z : Nat) (p : World → Nat → Nat → α → Prop) (w : World) (s : Sl) (f : Nat → α) : Prop :=
  s.n ≤ s.c ∧ s.n ≤ 140737488355328 ∧ (s.a = none → s.c = 0) ∧ (0 < s.n → ∃ b off, s.a = some ⟨b, off, none⟩ ∧ ∀ i, i < s.n → p w b (off + i * z) (f i))

theorem Row.on {α : Type} {z : Nat} {p : World → Nat → Nat → α → Prop} {w w' : World} {s : Sl} {f : Nat → α} (hp : ∀ b o v, p w b o v → p w' b o v) (h : Row z p w s f) : Row z p w' s f :=
  ⟨h.1, h.2.1, h.2.2.1, fun h0 => by
    obtain ⟨b, off, ha, hc⟩ := h.2.2.2 h0
    exact ⟨b, off, ha, fun i hi => hp _ _ _ (hc i hi)⟩⟩

theorem Row.at {α : Type} {z : Nat} {p : World → Nat → Nat → α → Prop} {w : World} {s : Sl} {f : Nat → α} (h : Row z p w s f) {T e : Nat} (hT : Tryz.prog.underlying T = some (.slice e)) (hz : (Tryz.prog.info? e).map (fun i => i.size) = some z) {k : Nat} (hk : k < s.n) :
    ∃ b o, (∀ wx, (Instr.indexAt T (.slice s.a s.n s.c) (.int .i64 k)).run Tryz.prog wx = .ok (.pointer (some ⟨b, o, none⟩)) wx) ∧ p w b o (f k) := by
  obtain ⟨b, off, ha, hc⟩ := h.2.2.2 (by omega)
  exact ⟨b, off + k * z, index_row ha hT hz hk, hc k hk⟩

theorem underlying22 : Tryz.prog.underlying 22 = some (.slice 59) := by kernel_rfl
theorem underlying23 : Tryz.prog.underlying 23 = some (.slice 53) := by kernel_rfl
theorem underlying24 : Tryz.prog.underlying 24 = some (.slice 55) := by kernel_rfl
theorem underlying25 : Tryz.prog.underlying 25 = some (.slice 43) := by kernel_rfl
theorem underlying51 : Tryz.prog.underlying 51 = some (.slice 2) := by kernel_rfl
theorem size59 : (Tryz.prog.info? 59).map (fun i => i.size) = some 3 := by kernel_rfl
theorem size53 : (Tryz.prog.info? 53).map (fun i => i.size) = some 2 := by kernel_rfl
theorem size55 : (Tryz.prog.info? 55).map (fun i => i.size) = some 2 := by kernel_rfl
theorem size43 : (Tryz.prog.info? 43).map (fun i => i.size) = some 5 := by kernel_rfl
theorem size2 : (Tryz.prog.info? 2).map (fun i => i.size) = some 1 := by kernel_rfl

structure InM (w : World) (M : MV) : Prop where
  ext : Row 3 EAt w M.ext M.E
  extP : ∀ i, i < M.ext.n → Ints w (M.E i).par (M.EP i)
  glo : Row 2 GAt w M.glo M.G
  gloC : ∀ i, i < M.glo.n → Ints w (M.G i).cel (M.GC i)
  tab : Row 2 GAt w M.tab M.T
  tabF : ∀ i, i < M.tab.n → Ints w (M.T i).cel (M.TF i)
  fns : Row 5 FAt w M.fns M.F
  fnI : ∀ k, k < M.fns.n → In w (M.F k)

theorem InM.on {w w' : World} {M : MV} (hb : Below w.heap.size w w') (h : InM w M) : InM w' M :=
  ⟨h.ext.on (fun _ _ _ => EAt.on hb), fun i hi => (h.extP i hi).on hb, h.glo.on (fun _ _ _ => GAt.on hb), fun i hi => (h.gloC i hi).on hb, h.tab.on (fun _ _ _ => GAt.on hb), fun i hi => (h.tabF i hi).on hb, h.fns.on (fun _ _ _ => FAt.on hb), fun k hk => (h.fnI k hk).on hb⟩

/-- All numbers of a module fit. -/
structure FitsM (M : MV) : Prop where
  ext : ∀ i, i < M.ext.n → W64 (M.E i).res ∧ ∀ k, k < (M.E i).par.n → W64 (M.EP i k)
  glo : ∀ i, i < M.glo.n → ∀ k, k < (M.G i).cel.n → W64 (M.GC i k)
  tab : ∀ i, i < M.tab.n → ∀ k, k < (M.T i).cel.n → W64 (M.TF i k)
  fns : ∀ k, k < M.fns.n → Fits (M.F k)

variable {H : Type} {enc : TypeId × Value → H} {w : World}

instance : Inhabited EV := ⟨⟨ByteArray.empty, ⟨none, 0, 0⟩, 0⟩⟩
instance : Inhabited GV := ⟨⟨ByteArray.empty, ⟨none, 0, 0⟩⟩⟩
instance : Inhabited FV := ⟨fzero⟩

theorem bytes2 : Tryz.prog.bytesOf 2 = 8 := by kernel_rfl

theorem open_ints64 {fuel : Nat} {cs : List Value} {x : DataW H × List MemPlace} (h : rd enc w fuel 51 cs = some x) (hw : Lgt 51 x.1) :
    ∃ (s : Sl) (f : Nat → Int), cs = [.slice s.a s.n s.c] ∧ Ints w s f ∧ ∀ i, i < s.n → W64 (f i) := by
  obtain ⟨s, n, b, off, D, Pl, rfl, h1, h2, h3, h4, h5⟩ := open_row underlying51 cells2 (by decide) bytes2 (by decide) h hw
  obtain ⟨f, hf⟩ := choose_lt (α := Int) (n := s.n) (p := fun i v => w.cell? ⟨b, off + i, none⟩ = some (.int .i64 v) ∧ W64 v) (fun i hi => by
    obtain ⟨cs', c1, c2, c3, _⟩ := h5 i hi
    obtain ⟨v, rfl, _, hwf⟩ := DataW.trod_int underlying2 c3
    have := c2 0 (by decide)
    exact ⟨v, by simpa using this, w64_of hwf⟩)
  exact ⟨s, f, rfl, ⟨h1, h2, h3, fun h0 => ⟨b, off, h4 h0, fun i hi => (hf i hi).1⟩⟩, fun i hi => (hf i hi).2⟩

theorem len2 {α : Type} {l : List α} (h : l.length = 2) : ∃ a b, l = [a, b] := by
  match l, h with | [a, b], _ => exact ⟨a, b, rfl⟩
theorem len3 {α : Type} {l : List α} (h : l.length = 3) : ∃ a b c, l = [a, b, c] := by
  match l, h with | [a, b, c], _ => exact ⟨a, b, c, rfl⟩
theorem len4 {α : Type} {l : List α} (h : l.length = 4) : ∃ a b c d, l = [a, b, c, d] := by
  match l, h with | [a, b, c, d], _ => exact ⟨a, b, c, d, rfl⟩

theorem cells59 : Tryz.prog.cellsOf 59 = 3 := by kernel_rfl
theorem cells53 : Tryz.prog.cellsOf 53 = 2 := by kernel_rfl
theorem cells55 : Tryz.prog.cellsOf 55 = 2 := by kernel_rfl
theorem cells51 : Tryz.prog.cellsOf 51 = 1 := by kernel_rfl
theorem cells27 : Tryz.prog.cellsOf 27 = 4 := by kernel_rfl
theorem cells22 : Tryz.prog.cellsOf 22 = 1 := by kernel_rfl
theorem cells23 : Tryz.prog.cellsOf 23 = 1 := by kernel_rfl
theorem cells24 : Tryz.prog.cellsOf 24 = 1 := by kernel_rfl
theorem cells25 : Tryz.prog.cellsOf 25 = 1 := by kernel_rfl
theorem bytes59 : Tryz.prog.bytesOf 59 = 48 := by kernel_rfl
theorem bytes53 : Tryz.prog.bytesOf 53 = 40 := by kernel_rfl
theorem bytes55 : Tryz.prog.bytesOf 55 = 40 := by kernel_rfl
theorem bytes43 : Tryz.prog.bytesOf 43 = 80 := by kernel_rfl

theorem open_ext {fuel : Nat} {cs : List Value} {x : DataW H × List MemPlace} (h : rd enc w fuel 59 cs = some x) (hw : Lgt 59 x.1) :
    ∃ (v : EV) (f : Nat → Int), cs = [.string v.name, .slice v.par.a v.par.n v.par.c, .int .i64 v.res] ∧ Ints w v.par f ∧ W64 v.res ∧ ∀ i, i < v.par.n → W64 (f i) := by
  obtain ⟨xs, n, _, rfl, hl, hx, hf⟩ := DataW.trod_struct Tryz.underlying59 h
  rw [cells59] at hl
  obtain ⟨c0, c1, c2, rfl⟩ := len3 hl
  obtain ⟨y0, y1, y2, rfl⟩ := len3 (show xs.length = 3 from hx)
  have f0 := hf 0 _ rfl
  have f1 := hf 1 _ rfl
  have f2 := hf 2 _ rfl
  have w1 : Lgt 40 y1.1 := Lgt.part Tryz.underlying59 hw (i := 1) rfl rfl
  simp [cells3, cells9, cells40] at f0 f1 f2
  obtain ⟨nm, e0, _, b0⟩ := DataW.trod_string Tryz.underlying9 f0
  obtain ⟨sp, P, e1, i1, b1⟩ := open_intsV f1 w1
  obtain ⟨re, e2, _, b2⟩ := DataW.trod_int underlying3 f2
  simp at e0 e1 e2
  subst e0 e1 e2
  exact ⟨⟨nm, sp, re⟩, P, rfl, i1, w64_of b2, b1⟩

theorem open_glo {fuel : Nat} {cs : List Value} {x : DataW H × List MemPlace} (h : rd enc w fuel 53 cs = some x) (hw : Lgt 53 x.1) :
    ∃ (v : GV) (f : Nat → Int), cs = [.string v.name, .slice v.cel.a v.cel.n v.cel.c] ∧ Ints w v.cel f ∧ ∀ i, i < v.cel.n → W64 (f i) := by
  obtain ⟨xs, n, _, rfl, hl, hx, hf⟩ := DataW.trod_struct Tryz.underlying53 h
  rw [cells53] at hl
  obtain ⟨c0, c1, rfl⟩ := len2 hl
  obtain ⟨y0, y1, rfl⟩ := len2 (show xs.length = 2 from hx)
  have f0 := hf 0 _ rfl
  have f1 := hf 1 _ rfl
  have w1 : Lgt 51 y1.1 := Lgt.part Tryz.underlying53 hw (i := 1) rfl rfl
  simp [cells9, cells51] at f0 f1
  obtain ⟨nm, e0, _, b0⟩ := DataW.trod_string Tryz.underlying9 f0
  obtain ⟨sp, P, e1, i1, b1⟩ := open_ints64 f1 w1
  simp at e0 e1
  subst e0 e1
  exact ⟨⟨nm, sp⟩, P, rfl, i1, b1⟩

theorem open_tab {fuel : Nat} {cs : List Value} {x : DataW H × List MemPlace} (h : rd enc w fuel 55 cs = some x) (hw : Lgt 55 x.1) :
    ∃ (v : GV) (f : Nat → Int), cs = [.string v.name, .slice v.cel.a v.cel.n v.cel.c] ∧ Ints w v.cel f ∧ ∀ i, i < v.cel.n → W64 (f i) := by
  obtain ⟨xs, n, _, rfl, hl, hx, hf⟩ := DataW.trod_struct Tryz.underlying55 h
  rw [cells55] at hl
  obtain ⟨c0, c1, rfl⟩ := len2 hl
  obtain ⟨y0, y1, rfl⟩ := len2 (show xs.length = 2 from hx)
  have f0 := hf 0 _ rfl
  have f1 := hf 1 _ rfl
  have w1 : Lgt 40 y1.1 := Lgt.part Tryz.underlying55 hw (i := 1) rfl rfl
  simp [cells9, cells40] at f0 f1
  obtain ⟨nm, e0, _, b0⟩ := DataW.trod_string Tryz.underlying9 f0
  obtain ⟨sp, P, e1, i1, b1⟩ := open_intsV f1 w1
  simp at e0 e1
  subst e0 e1
  exact ⟨⟨nm, sp⟩, P, rfl, i1, b1⟩

/-- A module. -/
theorem open_mod {fuel : Nat} {cs : List Value} {x : DataW H × List MemPlace} (h : rd enc w fuel 27 cs = some x) (hw : Lgt 27 x.1) :
    ∃ M : MV, cs = [.slice M.ext.a M.ext.n M.ext.c, .slice M.glo.a M.glo.n M.glo.c, .slice M.tab.a M.tab.n M.tab.c, .slice M.fns.a M.fns.n M.fns.c] ∧ InM w M ∧ FitsM M := by
  obtain ⟨xs, n, _, rfl, hl, hx, hf⟩ := DataW.trod_struct Tryz.underlying27 h
  rw [cells27] at hl
  obtain ⟨c0, c1, c2, c3, rfl⟩ := len4 hl
  obtain ⟨y0, y1, y2, y3, rfl⟩ := len4 (show xs.length = 4 from hx)
  have f0 := hf 0 _ rfl
  have f1 := hf 1 _ rfl
  have f2 := hf 2 _ rfl
  have f3 := hf 3 _ rfl
  have w0 : Lgt 22 y0.1 := Lgt.part Tryz.underlying27 hw (i := 0) rfl rfl
  have w1 : Lgt 23 y1.1 := Lgt.part Tryz.underlying27 hw (i := 1) rfl rfl
  have w2 : Lgt 24 y2.1 := Lgt.part Tryz.underlying27 hw (i := 2) rfl rfl
  have w3 : Lgt 25 y3.1 := Lgt.part Tryz.underlying27 hw (i := 3) rfl rfl
  simp [cells22, cells23, cells24, cells25] at f0 f1 f2 f3
  obtain ⟨se, ne, be, oe, De, Ple, e0, a1, a2, a3, a4, a5⟩ := open_row underlying22 cells59 (by decide) bytes59 (by decide) f0 w0
  obtain ⟨sg, ng, bg, og, Dg, Plg, e1, g1, g2, g3, g4, g5⟩ := open_row underlying23 cells53 (by decide) bytes53 (by decide) f1 w1
  obtain ⟨st, nt, bt, ot, Dt, Plt, e2, t1, t2, t3, t4, t5⟩ := open_row underlying24 cells55 (by decide) bytes55 (by decide) f2 w2
  obtain ⟨sf, nf, bf, of_, Df, Plf, e3, k1, k2, k3, k4, k5⟩ := open_row underlying25 cells43 (by decide) bytes43 (by decide) f3 w3
  simp at e0 e1 e2 e3
  subst e0 e1 e2 e3
  obtain ⟨fe, he⟩ := choose_lt (α := EV × (Nat → Int)) (n := se.n) (p := fun i v => EAt w be (oe + i * 3) v.1 ∧ Ints w v.1.par v.2 ∧ W64 v.1.res ∧ ∀ k, k < v.1.par.n → W64 (v.2 k)) (fun i hi => by
    obtain ⟨cs', c1, c2, c3, c4⟩ := a5 i hi
    obtain ⟨v, f, rfl, hr⟩ := open_ext c3 c4
    exact ⟨(v, f), ⟨by simpa using c2 0 (by decide), c2 1 (by decide), c2 2 (by decide)⟩, hr⟩)
  obtain ⟨fg, hg⟩ := choose_lt (α := GV × (Nat → Int)) (n := sg.n) (p := fun i v => GAt w bg (og + i * 2) v.1 ∧ Ints w v.1.cel v.2 ∧ ∀ k, k < v.1.cel.n → W64 (v.2 k)) (fun i hi => by
    obtain ⟨cs', c1, c2, c3, c4⟩ := g5 i hi
    obtain ⟨v, f, rfl, hr⟩ := open_glo c3 c4
    exact ⟨(v, f), ⟨by simpa using c2 0 (by decide), c2 1 (by decide)⟩, hr⟩)
  obtain ⟨ft, ht⟩ := choose_lt (α := GV × (Nat → Int)) (n := st.n) (p := fun i v => GAt w bt (ot + i * 2) v.1 ∧ Ints w v.1.cel v.2 ∧ ∀ k, k < v.1.cel.n → W64 (v.2 k)) (fun i hi => by
    obtain ⟨cs', c1, c2, c3, c4⟩ := t5 i hi
    obtain ⟨v, f, rfl, hr⟩ := open_tab c3 c4
    exact ⟨(v, f), ⟨by simpa using c2 0 (by decide), c2 1 (by decide)⟩, hr⟩)
  obtain ⟨ff, hff⟩ := choose_lt (α := FV) (n := sf.n) (p := fun i v => FAt w bf (of_ + i * 5) v ∧ In w v ∧ Fits v) (fun i hi => by
    obtain ⟨cs', c1, c2, c3, c4⟩ := k5 i hi
    obtain ⟨v, rfl, h1, h2, _⟩ := open_func c3 c4
    exact ⟨v, ⟨by simpa using c2 0 (by decide), c2 1 (by decide), c2 2 (by decide), c2 3 (by decide), c2 4 (by decide)⟩, h1, h2⟩)
  exact ⟨⟨se, sg, st, sf, fun i => (fe i).1, fun i => (fe i).2, fun i => (fg i).1, fun i => (fg i).2, fun i => (ft i).1, fun i => (ft i).2, ff⟩, rfl,
    ⟨⟨a1, a2, a3, fun h0 => ⟨be, oe, a4 h0, fun i hi => (he i hi).1⟩⟩, fun i hi => (he i hi).2.1, ⟨g1, g2, g3, fun h0 => ⟨bg, og, g4 h0, fun i hi => (hg i hi).1⟩⟩, fun i hi => (hg i hi).2.1, ⟨t1, t2, t3, fun h0 => ⟨bt, ot, t4 h0, fun i hi => (ht i hi).1⟩⟩, fun i hi => (ht i hi).2.1, ⟨k1, k2, k3, fun h0 => ⟨bf, of_, k4 h0, fun i hi => (hff i hi).1⟩⟩, fun i hi => (hff i hi).2.1⟩,
    ⟨fun i hi => (he i hi).2.2, fun i hi => (hg i hi).2.2, fun i hi => (ht i hi).2.2, fun i hi => (hff i hi).2.2⟩⟩

end Go.Proofs.YtbmfimojhcdnbaaGreat.Mod

/-
  ir.renumber and ir.Neat: what they leave.
-/
namespace Go.Proofs.YtbmfimojhcdnbaaGreat.Own
open Go.RowKit View Rd Copy Srt Num

set_option linter.unusedVariables false

def updTo (I : Nat → Nat → IV) (j k : Nat) (v : Int) : Nat → Nat → IV := fun j' k' => if j' = j ∧ k' = k then { I j' k' with to := v } else I j' k'

theorem updTo_args (I : Nat → Nat → IV) (j k : Nat) (v : Int) (j' k' : Nat) : (updTo I j k v j' k').args = (I j' k').args := by unfold updTo; split <;> rfl
theorem updTo_into (I : Nat → Nat → IV) (j k : Nat) (v : Int) (j' k' : Nat) : (updTo I j k v j' k').into = (I j' k').into := by unfold updTo; split <;> rfl
theorem updTo_same (I : Nat → Nat → IV) (j k : Nat) (v : Int) : updTo I j k v j k = { I j k with to := v } := by simp [updTo]
theorem updTo_other (I : Nat → Nat → IV) {j k j' k' : Nat} (v : Int) (h : ¬ (j' = j ∧ k' = k)) : updTo I j k v j' k' = I j' k' := by simp only [updTo, if_neg h]

theorem sl_updTo (F : FV) (j k : Nat) (v : Int) (x : Id) : sl { F with I := updTo F.I j k v } x = sl F x := by
  cases x with
  | row _ => rfl
  | arg j' k' => exact updTo_args _ _ _ _ _ _
  | int j' k' => exact updTo_into _ _ _ _ _ _

theorem has_updTo (F : FV) (j k : Nat) (v : Int) (x : Id) : has { F with I := updTo F.I j k v } x = has F x := by cases x <;> rfl

theorem InsAt.set2 {w : World} {b o : Nat} {v : IV} (h : InsAt w b o v) (n : Int) : InsAt (w.setCell ⟨b, o + 2, none⟩ (.int .i64 n)) b o { v with to := n } :=
  ⟨cell_other (ne_off (by omega)) h.c0, cell_other (ne_off (by omega)) h.c1, cell_same h.c2, cell_other (ne_off (by omega)) h.c3, cell_other (ne_off (by omega)) h.c4, cell_other (ne_off (by omega)) h.c5, cell_other (ne_off (by omega)) h.c6⟩

theorem InsAt.off {w : World} {b o : Nat} {v : IV} (h : InsAt w b o v) {o' : Nat} (ho : o' < o ∨ o + 6 < o') (u : Value) : InsAt (w.setCell ⟨b, o', none⟩ u) b o v :=
  ⟨cell_other (ne_off (by omega)) h.c0, cell_other (ne_off (by omega)) h.c1, cell_other (ne_off (by omega)) h.c2, cell_other (ne_off (by omega)) h.c3, cell_other (ne_off (by omega)) h.c4, cell_other (ne_off (by omega)) h.c5, cell_other (ne_off (by omega)) h.c6⟩

/-- Where an instruction of one's own lies. -/
theorem Own.insAt {base : Nat} {w : World} {F : FV} {at_ : Id → Nat} (h : Own base w F at_) {j k : Nat} (hj : j < F.blk.n) (hk : k < (F.B j).n) :
    InsAt w (at_ (.row j)) (k * 7) (F.I j k) ∧ (∀ wx, (Instr.indexAt 45 (.slice (F.B j).a (F.B j).n (F.B j).c) (.int .i64 k)).run Tryz.prog wx = .ok (.pointer (some ⟨at_ (.row j), k * 7, none⟩)) wx) := by
  have h0 : 0 < (sl F (.row j)).n := by show 0 < (F.B j).n; omega
  have ha := h.adr (.row j) hj h0
  obtain ⟨b, off, ha', hc⟩ := (h.inn.ins j hj).2.2.2 h0
  have e := ha.symm.trans ha'
  simp at e
  obtain ⟨e1, e2⟩ := e
  subst e2
  have := hc k hk
  rw [Nat.zero_add, ← e1] at this
  exact ⟨this, by have := index_row (s := F.B j) ha underlying45 size50 hk; simpa using this⟩

theorem Own.setTo {base : Nat} {w : World} {F : FV} {at_ : Id → Nat} (h : Own base w F at_) {j k : Nat} (hj : j < F.blk.n) (hk : k < (F.B j).n) (v : Int) :
    Own base (w.setCell ⟨at_ (.row j), k * 7 + 2, none⟩ (.int .i64 v)) { F with I := updTo F.I j k v } at_ := by
  have h0 : 0 < (sl F (.row j)).n := by show 0 < (F.B j).n; omega
  have kp : Kept (fun b => b ≠ at_ (.row j)) w (w.setCell ⟨at_ (.row j), k * 7 + 2, none⟩ (.int .i64 v)) := (Kept.refl _ _).setCell (fun h => h rfl) _
  have off : ∀ x, has F x → 0 < (sl F x).n → x ≠ .row j → at_ x ≠ at_ (.row j) := fun x hx hx0 hne e => hne (h.sep x (.row j) hx hj hx0 h0 e)
  refine ⟨⟨?_, ?_, fun j1 h1 => ?_, fun j1 h1 k1 h2 => ?_, fun j1 h1 k1 h2 => ?_⟩, fun x hx hx0 => ?_, fun x hx hx0 => ?_, fun x hx hx0 => ?_, fun x hx hx0 i => ?_, fun x y hx hy hx0 hy0 e => ?_, fun x hx hx0 b o e e0 => ?_, fun x hx hx0 b o e e0 => ?_, ?_, ?_⟩
  · exact h.inn.par.kept kp fun b o ha h0' => h.par (.row j) hj h0 b o ha h0'
  · exact Sls_kept h.inn.blk kp fun b o ha h0' => h.blk (.row j) hj h0 b o ha h0'
  · by_cases e : j1 = j
    · subst e
      refine ⟨(h.inn.ins j1 h1).1, (h.inn.ins j1 h1).2.1, (h.inn.ins j1 h1).2.2.1, fun h0' => ⟨at_ (.row j1), 0, h.adr (.row j1) h1 h0', fun i hi => ?_⟩⟩
      rw [Nat.zero_add]
      show InsAt _ _ _ (updTo F.I j1 k v j1 i)
      by_cases e2 : i = k
      · subst e2
        rw [updTo_same]
        exact InsAt.set2 (h.insAt h1 hi).1 v
      · rw [updTo_other _ _ (by simp [e2])]
        exact InsAt.off (h.insAt h1 hi).1 (by omega) _
    · have : (fun k' => updTo F.I j k v j1 k') = F.I j1 := by funext k'; exact updTo_other _ _ (by simp [e])
      show Inss _ (F.B j1) (fun k' => updTo F.I j k v j1 k')
      rw [this]
      refine Inss_kept (h.inn.ins j1 h1) kp fun b o ha h0' => ?_
      rw [adr_inj (h.adr (.row j1) h1 h0') ha]
      exact off (.row j1) h1 h0' (by simp [e])
  · show Ints _ (updTo F.I j k v j1 k1).args (F.A j1 k1)
    rw [updTo_args]
    refine (h.inn.args j1 h1 k1 h2).kept kp fun b o ha h0' => ?_
    rw [adr_inj (h.adr (.arg j1 k1) ⟨h1, h2⟩ h0') ha]
    exact off (.arg j1 k1) ⟨h1, h2⟩ h0' (by simp)
  · show Ints _ (updTo F.I j k v j1 k1).into (F.J j1 k1)
    rw [updTo_into]
    refine (h.inn.into j1 h1 k1 h2).kept kp fun b o ha h0' => ?_
    rw [adr_inj (h.adr (.int j1 k1) ⟨h1, h2⟩ h0') ha]
    exact off (.int j1 k1) ⟨h1, h2⟩ h0' (by simp)
  rotate_right 2
  · intro h0'
    obtain ⟨g, a1, a2, a3, a4⟩ := h.pm h0'
    exact ⟨g, a1, a2, by rw [World.size_setCell]; exact a3, fun i => by rw [World.frozen?_setCell]; exact a4 i⟩
  · intro h0'
    obtain ⟨g, a1, a2, a3, a4⟩ := h.bm h0'
    exact ⟨g, a1, a2, by rw [World.size_setCell]; exact a3, fun i => by rw [World.frozen?_setCell]; exact a4 i⟩
  all_goals rw [has_updTo] at hx; rw [sl_updTo] at hx0
  · rw [sl_updTo]; exact h.adr x hx hx0
  · exact h.ge x hx hx0
  · rw [World.size_setCell]; exact h.lt x hx hx0
  · rw [World.frozen?_setCell]; exact h.fz x hx hx0 i
  · rw [has_updTo] at hy; rw [sl_updTo] at hy0; exact h.sep x y hx hy hx0 hy0 e
  · exact h.par x hx hx0 b o e e0
  · exact h.blk x hx hx0 b o e e0

/-- An instruction's new number. -/
def newTo (F : FV) (j k : Nat) : Int := if (F.I j k).ty = 0 then 0 else ((lastOf F j + giv (F.I j) (k + 1) : Nat) : Int)

/-- What a number becomes. -/
def nm (F : FV) (v : Int) : Int := (allMap F F.blk.n v).getD 0

/-- Renumbered up to block b's instruction t, the others as they were. -/
def Ren (F : FV) (b t : Nat) (I : Nat → Nat → IV) (A : Nat → Nat → Nat → Int) : Prop :=
  ∀ j, j < F.blk.n → ∀ k, k < (F.B j).n → if j < b ∨ j = b ∧ k < t then I j k = { F.I j k with to := newTo F j k } ∧ A j k = fun i => nm F (F.A j k i) else I j k = F.I j k ∧ A j k = F.A j k

theorem Ren.start (F : FV) : Ren F 0 0 F.I F.A := fun j hj k hk => by simp

theorem Ren.put {F : FV} {b t : Nat} {I : Nat → Nat → IV} {A : Nat → Nat → Nat → Int} (h : Ren F b t I A) (hb : b < F.blk.n) (ht : t < (F.B b).n) : Ren F b (t + 1) (updTo I b t (newTo F b t)) (upd A b t (fun i => nm F (F.A b t i))) := fun j hj k hk => by
  have := h j hj k hk
  by_cases e : j = b ∧ k = t
  · obtain ⟨rfl, rfl⟩ := e
    rw [if_neg (by omega)] at this
    rw [if_pos (by omega), upd_same, updTo_same, this.1]; exact ⟨rfl, rfl⟩
  · rw [upd_other _ _ e, updTo_other _ _ e]
    by_cases e2 : j < b ∨ j = b ∧ k < t
    · rw [if_pos e2] at this; rw [if_pos (by omega)]; exact this
    · rw [if_neg e2] at this; rw [if_neg (by omega)]; exact this

theorem Ren.next {F : FV} {b : Nat} {I : Nat → Nat → IV} {A : Nat → Nat → Nat → Int} (h : Ren F b (F.B b).n I A) : Ren F (b + 1) 0 I A := fun j hj k hk => by
  have := h j hj k hk
  by_cases e2 : j < b ∨ j = b ∧ k < (F.B b).n
  · rw [if_pos e2] at this; rw [if_pos (by omega)]; exact this
  · rw [if_neg e2] at this
    rw [if_neg (fun h => ?_)]
    · exact this
    · rcases h with h | h
      · rcases Nat.lt_or_eq_of_le (Nat.le_of_lt_succ h) with h' | rfl
        · exact e2 (.inl h')
        · exact e2 (.inr ⟨rfl, hk⟩)
      · omega

theorem upd_self (f : Nat → Nat → Nat → Int) (j k : Nat) : upd f j k (f j k) = f := by
  funext j' k'
  unfold upd
  split
  · next e => rw [e.1, e.2]
  · rfl

theorem updTo_twice (I : Nat → Nat → IV) (j k : Nat) (u v : Int) : updTo (updTo I j k u) j k v = updTo I j k v := by
  funext j' k'
  unfold updTo
  split <;> rfl

theorem map_set {w : World} {B n : Nat} {m : Int → Option Int} (h : MapIs w B n m) {a : Addr} (ha : B ≠ a.block) (v : Value) : MapIs (w.setCell a v) B n m := h.at_block (Below.heap_setCell _ _ _ _ ha)

theorem ne_blk {b b' o o' : Nat} (h : b ≠ b') : (⟨b, o, none⟩ : Addr) ≠ ⟨b', o', none⟩ := fun e => h (congrArg Addr.block e)

theorem InsAt.blk {w : World} {b o : Nat} {v : IV} (h : InsAt w b o v) {a : Addr} (ha : b ≠ a.block) (u : Value) : InsAt (w.setCell a u) b o v :=
  h.kept ((Kept.refl (fun k => k ≠ a.block) w).setCell (fun h => h rfl) u) ha

/-- What renumber leaves. -/
def Renumbered (base : Nat) (F : FV) (at_ : Id → Nat) (w : World) (e : Ending) (w' : World) : Prop :=
  e = .returned (.tuple #[]) ∧ ∃ I A, Own base w' { F with I := I, A := A } at_ ∧ Ren F F.blk.n 0 I A ∧ Turn (rowsOf F at_) w w'

end Go.Proofs.YtbmfimojhcdnbaaGreat.Own
