/-
  Copies in new memory, of blocks and of whole functions: ir.copyBlock, copyEach at Block, copyFunc.
-/
import Derived.Test.YtbmfimojhcdnbaaCopy
namespace Go.Proofs.Ytbmfimojhcdnbaa.Copy
open Go.RowKit View Rd

set_option linter.unusedVariables false

theorem owns_kept {p : Nat → Prop} {w w' : World} {base : Nat} {e : TypeId} {size g n c : Nat} {xs : List Value} (h : w.ownsRow base e size (.slice (some ⟨g, 0, none⟩) n c) n xs) (k : Kept p w w') (hp : p g) : w'.ownsRow base e size (.slice (some ⟨g, 0, none⟩) n c) n xs := by
  refine ⟨h.1, ?_⟩
  rcases h.2 with ⟨h, _⟩ | ⟨g', cap, cur, h1, h2, h3, h4⟩
  · simp at h
  · simp at h1
    obtain ⟨rfl, rfl⟩ := h1
    exact .inr ⟨g, c, cur, rfl, h2, by rw [k.block g hp]; exact h3, h4⟩

theorem Rows.on {g k n : Nat} {w w' : World} {I : Nat → IV} {A J : Nat → Nat → Int} {sa si : Nat → Sl} {h : Nat → Nat} (hb : Below w.heap.size w w') (r : Rows g k n w I A J sa si h) : Rows g k n w' I A J sa si h :=
  ⟨owns_on hb r.own, fun t ht => (r.tw t ht).on hb (Nat.le_trans (mono_le r.up (Nat.le_refl k) (by omega : t + 1 ≤ k)) r.hi), r.up, r.lo, Nat.le_trans r.hi hb.size⟩

theorem Rows.kept {p : Nat → Prop} {g k n : Nat} {w w' : World} {I : Nat → IV} {A J : Nat → Nat → Int} {sa si : Nat → Sl} {h : Nat → Nat} (r : Rows g k n w I A J sa si h) (kp : Kept p w w') (hp : ∀ b, g ≤ b → b < h k → p b) : Rows g k n w' I A J sa si h :=
  ⟨owns_kept r.own kp (hp g (Nat.le_refl _) (by have := r.lo; have := mono_le r.up (Nat.le_refl k) (Nat.zero_le k); omega)), fun t ht => (r.tw t ht).kept kp (fun b h1 h2 => hp b (by have := r.lo; have := mono_le r.up (by omega : t ≤ k) (Nat.zero_le t); omega) (by have := mono_le r.up (Nat.le_refl k) (by omega : t + 1 ≤ k); omega)), r.up, r.lo, Nat.le_trans r.hi kp.size⟩

set_option maxHeartbeats 1000000 in
theorem copyBlock_any (s : Sl) (I : Nat → IV) (A J : Nat → Nat → Int) (w : World) (hs : Inss w s I) (ha : ∀ k, k < s.n → Ints w (I k).args (A k)) (hj : ∀ k, k < s.n → Ints w (I k).into (J k))
    (hn : s.n ≤ 1000) (h1 : ∀ k, k < s.n → (I k).args.n ≤ 1000) (h2 : ∀ k, k < s.n → (I k).into.n ≤ 1000) :
    Calls Try.prog 99 #[.agg #[.slice s.a s.n s.c]] w fun e w' => ∃ (g : Nat) (sa si : Nat → Sl) (h : Nat → Nat), e = .returned (.agg #[.slice (some ⟨g, 0, none⟩) s.n s.n]) ∧ w.heap.size ≤ g ∧ Rows g s.n s.n w' I A J sa si h ∧ Below w.heap.size w w' := by
  have hb0 := hid (new (new (same w) (.cells #[.slice s.a s.n s.c] 37)) (.cells #[.slice none 0 0] 37))
  have HC := hid (copyEachI_any s I A J _ (hs.on hb0.out) (fun k hk => (ha k hk).on hb0.out) (fun k hk => (hj k hk).on hb0.out) hn h1 h2)
  clear ha hj hs h1 h2
  go_enter Try.func99, Try.ntmps99
  go_wp2_with fail
  refine HC.out.mono ?_
  rintro e w1 ⟨sa, si, h, rfl, hr, hb1⟩
  have hz := hb1.size
  simp only [World.size_alloc] at hz hr
  have d0 : w1.cell? ⟨w.heap.size + 1, 0, none⟩ = some (.slice none 0 0) := cell_on hb1 (by simp)
  have f0 : w1.frozen? ⟨w.heap.size + 1, 0, none⟩ = false := by rw [hb1.frozen (by simp)]; simp
  have HR := hid hr
  have HB := hid (more hb0.out hb1)
  clear hr hb1 HC
  go_wp2_with fail
  refine bodyPost_ret (v := .agg #[.slice (some ⟨w.heap.size + 1 + 1, 0, none⟩) s.n s.n]) (by rw [results_cell rfl]; go_simp) rfl ?_
  exact ⟨w.heap.size + 1 + 1, sa, si, h, rfl, by omega, HR.out.kept ((Kept.refl (fun k => w.heap.size + 1 < k) w1).setCell (by simp) _) (fun b h1 _ => by omega), HB.out.setCell (by simp) _⟩

/-- The blocks that a loop has copied: k of n. -/
structure BRows (G k n : Nat) (w : World) (B : Nat → Sl) (I : Nat → Nat → IV) (A J : Nat → Nat → Nat → Int) (gB : Nat → Nat) (sa si : Nat → Nat → Sl) (h : Nat → Nat → Nat) (H : Nat → Nat) : Prop where
  own : w.ownsRow G 37 1 (.slice (some ⟨G, 0, none⟩) k n) k ((List.range k).map fun j => .slice (some ⟨gB j, 0, none⟩) (B j).n (B j).n)
  rows : ∀ j, j < k → Rows (gB j) (B j).n (B j).n w (I j) (A j) (J j) (sa j) (si j) (h j)
  lows : ∀ j, j < k → H j ≤ gB j
  tops : ∀ j, j < k → h j (B j).n ≤ H (j + 1)
  lo : G < H 0
  hi : H k ≤ w.heap.size

theorem Rows.le {g k n : Nat} {w : World} {I : Nat → IV} {A J : Nat → Nat → Int} {sa si : Nat → Sl} {h : Nat → Nat} (r : Rows g k n w I A J sa si h) : g < h k := by
  have := r.lo; have := mono_le r.up (Nat.le_refl k) (Nat.zero_le k); omega

theorem BRows.up {G k n : Nat} {w : World} {B : Nat → Sl} {I : Nat → Nat → IV} {A J : Nat → Nat → Nat → Int} {gB : Nat → Nat} {sa si : Nat → Nat → Sl} {h : Nat → Nat → Nat} {H : Nat → Nat} (r : BRows G k n w B I A J gB sa si h H) : ∀ j, j < k → H j ≤ H (j + 1) := fun j hj => by
  have := r.lows j hj; have := r.tops j hj; have := (r.rows j hj).le; omega

theorem BRows.step {G k n : Nat} {w : World} {B : Nat → Sl} {I : Nat → Nat → IV} {A J : Nat → Nat → Nat → Int} {gB : Nat → Nat} {sa si : Nat → Nat → Sl} {h : Nat → Nat → Nat} {H : Nat → Nat} {g : Nat} {ta ti : Nat → Sl} {t : Nat → Nat} {H1 : Nat}
    (rows : ∀ j, j < k → Rows (gB j) (B j).n (B j).n w (I j) (A j) (J j) (sa j) (si j) (h j)) (lows : ∀ j, j < k → H j ≤ gB j) (tops : ∀ j, j < k → h j (B j).n ≤ H (j + 1)) (lo : G < H 0)
    (hk : H k ≤ g) (hr : Rows g (B k).n (B k).n w (I k) (A k) (J k) ta ti t) (h1 : t (B k).n ≤ H1) (h2 : H1 ≤ w.heap.size)
    (own : w.ownsRow G 37 1 (.slice (some ⟨G, 0, none⟩) (k + 1) n) (k + 1) (((List.range k).map fun j => .slice (some ⟨gB j, 0, none⟩) (B j).n (B j).n) ++ [.slice (some ⟨g, 0, none⟩) (B k).n (B k).n])) :
    ∃ (gB : Nat → Nat) (sa si : Nat → Nat → Sl) (h : Nat → Nat → Nat) (H : Nat → Nat), BRows G (k + 1) n w B I A J gB sa si h H := by
  refine ⟨fun j => if j < k then gB j else g, fun j => if j < k then sa j else ta, fun j => if j < k then si j else ti, fun j => if j < k then h j else t, fun j => if j ≤ k then H j else H1, ?_, ?_, ?_, ?_, ?_, ?_⟩
  · have e : ((List.range (k + 1)).map fun j => Value.slice (some ⟨if j < k then gB j else g, 0, none⟩) (B j).n (B j).n) = ((List.range k).map fun j => Value.slice (some ⟨gB j, 0, none⟩) (B j).n (B j).n) ++ [.slice (some ⟨g, 0, none⟩) (B k).n (B k).n] := by
      rw [List.range_succ, List.map_append]
      congr 1
      · exact List.map_congr_left fun j hj => by simp [List.mem_range.1 hj]
      · simp
    rw [e]; exact own
  · intro j hj
    rcases Nat.lt_or_eq_of_le (Nat.le_of_lt_succ hj) with h' | rfl
    · simp only [h', if_true]; exact rows j h'
    · simp only [Nat.lt_irrefl, if_false]; exact hr
  · intro j hj
    rcases Nat.lt_or_eq_of_le (Nat.le_of_lt_succ hj) with h' | rfl
    · simp only [h', if_true, Nat.le_of_lt h']; exact lows j h'
    · simp only [Nat.lt_irrefl, if_false, Nat.le_refl, if_true]; exact hk
  · intro j hj
    rcases Nat.lt_or_eq_of_le (Nat.le_of_lt_succ hj) with h' | rfl
    · simp only [h', if_true, show j + 1 ≤ k from h']; exact tops j h'
    · simp only [Nat.lt_irrefl, if_false, show ¬ j + 1 ≤ j by omega]; exact h1
  · simp only [Nat.zero_le, if_true]; exact lo
  · simp only [show ¬ k + 1 ≤ k by omega, if_false]; exact h2

theorem info37 : (Try.prog.info? 37).map (fun i => (i.zero, i.size, i.bytes)) = some (some (.agg #[.slice none 0 0]), 1, 24) := by kernel_rfl

set_option maxHeartbeats 1000000 in
theorem copyEachB_any (F : FV) (w : World) (hF : In w F) (hl : Light F) :
    Calls Try.prog 98 #[.slice F.blk.a F.blk.n F.blk.c, .func (.func 99) #[] #[]] w fun e w' => ∃ (gB : Nat → Nat) (sa si : Nat → Nat → Sl) (h : Nat → Nat → Nat) (H : Nat → Nat), e = .returned (.slice (some ⟨w.heap.size, 0, none⟩) F.blk.n F.blk.n) ∧ BRows w.heap.size F.blk.n F.blk.n w' F.B F.I F.A F.J gB sa si h H ∧ Below w.heap.size w w' := by
  obtain ⟨i0, hi, hz0, hz1, hz2⟩ := info_parts info37
  have HF := hid hF
  have HL := hid hl
  have hn := hl.blk
  clear hF hl
  go_enter Try.func98, Try.ntmps98
  go_wp2_with (at_make; refine wpList_make_own _ rfl (.const (.int .i64 0)) (.tmp 9) 31 rfl w.heap.size 37 i0 (.agg #[.slice none 0 0]) 1 underlying31 hi hz0 hz1 .i64 .i64 F.blk.n F.blk.n rfl rfl rfl (by rw [hz2]; omega) (by simp only [maxLen]; omega) (Nat.le_refl _) ?_; intro w1 hown1 hgr1)
  have hb1 : Below w.heap.size w w1 := (same w).grown hgr1 (Nat.le_refl _) (fun k hk => by cases hk)
  have hlt1 : w.heap.size < w1.heap.size := by obtain ⟨_, h⟩ := hown1.lt w.heap.size rfl; exact h
  have HO1 := hid hown1
  clear hown1 hgr1
  go_loopw [5, 13] (fun v i wr => ∃ k : Nat, k ≤ F.blk.n ∧ i = .int .i64 k ∧ v = .slice (some ⟨w.heap.size, 0, none⟩) k F.blk.n ∧ (∃ (gB : Nat → Nat) (sa si : Nat → Nat → Sl) (h : Nat → Nat → Nat) (H : Nat → Nat), BRows w.heap.size k F.blk.n wr F.B F.I F.A F.J gB sa si h H) ∧ Below w.heap.size w wr) (fun _ i _ => F.blk.n - (intOf i).toNat)
  case atStart => exact ⟨0, Nat.zero_le _, rfl, rfl, ⟨fun _ => 0, fun _ _ => ⟨none, 0, 0⟩, fun _ _ => ⟨none, 0, 0⟩, fun _ _ => 0, fun _ => w1.heap.size, HO1.out, fun t ht => by omega, fun t ht => by omega, fun t ht => by omega, hlt1, Nat.le_refl _⟩, hb1⟩
  case round =>
    clear HO1 hb1 hlt1
    obtain ⟨k, hk, rfl, rfl, ⟨gB, sa, si, h, H, hr⟩, hb⟩ := hrel
    have HR := hid hr
    clear hr
    by_cases hlt : k < F.blk.n
    · obtain ⟨b, o, hix, hck⟩ := (HF.out.blk.on hb).at hlt
      go_wp2_with fail
      have hb2 := new hb (.cells #[.slice (F.B k).a (F.B k).n (F.B k).c] 37)
      refine (copyBlock_any (F.B k) (F.I k) (F.A k) (F.J k) _ ((HF.out.ins k hlt).on hb2) (fun t ht => (HF.out.args k hlt t ht).on hb2) (fun t ht => (HF.out.into k hlt t ht).on hb2) (by have := HL.out.ins k hlt; omega) (fun t ht => by have := HL.out.args k hlt t ht; omega) (fun t ht => by have := HL.out.into k hlt t ht; omega)).mono ?_
      rintro e w2 ⟨g, ta, ti, th, rfl, hg, htw, hb3⟩
      have HT := hid htw
      have hb4 := more hb2 hb3
      have hr2 := hid ((owns_on hb3 (owns_on (new (same _) _) HR.out.own)).alloc (.cells #[.slice (some ⟨g, 0, none⟩) (F.B k).n (F.B k).n] 37))
      clear htw
      go_wp2_with (at_builtin; refine wpList_append_fits _ rfl (.tmp 17) (.tmp 21) 31 rfl w.heap.size 37 i0 1 underlying31 hi hz1 w.heap.size k F.blk.n _ rfl hr2.out ⟨w2.heap.size, 0, none⟩ 1 1 [.slice (some ⟨g, 0, none⟩) (F.B k).n (F.B k).n] rfl rfl ?c1 ?c2 ?c3 ?_)
      case c1 => exact cell_one_new _ _ _
      case c2 => intro u hu; simp at hu; subst hu; rfl
      case c3 => omega
      intro w4 hown4 hgr4
      have hz3 := hb3.size
      have hz4 := hgr4.size
      simp only [World.size_alloc] at hz3 hz4 hg
      have hzr := hb.size
      have kg := kept_of_grown hgr4
      have hT := HT.out.hi
      have hold : ∀ j, j < k → Rows (gB j) (F.B j).n (F.B j).n w4 (F.I j) (F.A j) (F.J j) (sa j) (si j) (h j) := fun t ht => by
        have q1 := HR.out.lo
        have q2 : H 0 ≤ H t := mono_le HR.out.up (by omega) (Nat.zero_le _)
        have q5 := HR.out.lows t ht
        have q6 := HR.out.tops t ht
        have q3 : H (t + 1) ≤ H k := mono_le HR.out.up (Nat.le_refl _) (by omega)
        have q4 := HR.out.hi
        exact ((((HR.out.rows t ht).on (new (same _) _)).on hb3).on (new (same _) _)).kept kg (fun b h1 h2 => by simp; omega)
      have hnew : Rows g (F.B k).n (F.B k).n w4 (F.I k) (F.A k) (F.J k) ta ti th :=
        (HT.out.on (new (same _) (.cells #[.slice (some ⟨g, 0, none⟩) (F.B k).n (F.B k).n] 37))).kept kg (fun b h1 h2 => by simp at *; omega)
      have hbl : Below w.heap.size w w4 := (new hb4 _).grown hgr4 (by simp; omega) (fun k hk => by cases hk; exact Nat.le_refl _)
      have HN := hid (And.intro hold hnew)
      have HW := hid hown4
      clear hold hnew hown4 hgr4 kg hr2 HT hb3 hb2 hb4
      go_wp2
      go_round
      case rel => exact ⟨k + 1, by omega, by go_num, rfl, BRows.step HN.out.1 HR.out.lows HR.out.tops HR.out.lo (by have := HR.out.hi; omega) HN.out.2 (Nat.le_refl _) (by omega) HW.out, hbl⟩
      case measure => simp [intOf]; omega
    · obtain rfl : k = F.blk.n := by omega
      go_wp2
      go_ret
      exact ⟨gB, sa, si, h, H, rfl, HR.out, hb⟩

theorem BRows.on {G k n : Nat} {w w' : World} {B : Nat → Sl} {I : Nat → Nat → IV} {A J : Nat → Nat → Nat → Int} {gB : Nat → Nat} {sa si : Nat → Nat → Sl} {h : Nat → Nat → Nat} {H : Nat → Nat} (hb : Below w.heap.size w w') (r : BRows G k n w B I A J gB sa si h H) : BRows G k n w' B I A J gB sa si h H :=
  ⟨owns_on hb r.own, fun j hj => (r.rows j hj).on hb, r.lows, r.tops, r.lo, Nat.le_trans r.hi hb.size⟩

theorem BRows.kept {p : Nat → Prop} {G k n : Nat} {w w' : World} {B : Nat → Sl} {I : Nat → Nat → IV} {A J : Nat → Nat → Nat → Int} {gB : Nat → Nat} {sa si : Nat → Nat → Sl} {h : Nat → Nat → Nat} {H : Nat → Nat} (r : BRows G k n w B I A J gB sa si h H) (kp : Kept p w w') (hp : ∀ b, G ≤ b → b < w.heap.size → p b) : BRows G k n w' B I A J gB sa si h H := by
  have hG : G < w.heap.size := (r.own.lt G rfl).2
  refine ⟨owns_kept r.own kp (hp G (Nat.le_refl _) hG), fun j hj => (r.rows j hj).kept kp fun b h1 h2 => ?_, r.lows, r.tops, r.lo, Nat.le_trans r.hi kp.size⟩
  have q1 := r.lo
  have q2 := mono_le r.up (show j ≤ k by omega) (Nat.zero_le j)
  have q3 := r.lows j hj
  have q4 := (r.rows j hj).hi
  exact hp b (by omega) (by omega)

/-- A function's five cells at the head of a block. -/
structure FuncAt (w : World) (b : Nat) (F : FV) : Prop where
  c0 : w.cell? ⟨b, 0, none⟩ = some (.string F.name)
  c1 : w.cell? ⟨b, 1, none⟩ = some (.bool F.out)
  c2 : w.cell? ⟨b, 2, none⟩ = some (.slice F.par.a F.par.n F.par.c)
  c3 : w.cell? ⟨b, 3, none⟩ = some (.int .i64 F.res)
  c4 : w.cell? ⟨b, 4, none⟩ = some (.slice F.blk.a F.blk.n F.blk.c)

abbrev fcells (F : FV) : Array Value := #[.string F.name, .bool F.out, .slice F.par.a F.par.n F.par.c, .int .i64 F.res, .slice F.blk.a F.blk.n F.blk.c]

theorem FuncAt.alloc (w : World) (F : FV) : FuncAt (w.alloc (.cells (fcells F) 33)) w.heap.size F := ⟨by simp, by simp, by simp, by simp, by simp⟩
theorem FuncAt.on {w w' : World} {b : Nat} {F : FV} (hb : Below w.heap.size w w') (h : FuncAt w b F) : FuncAt w' b F :=
  ⟨cell_on hb h.c0, cell_on hb h.c1, cell_on hb h.c2, cell_on hb h.c3, cell_on hb h.c4⟩
theorem FuncAt.kept {p : Nat → Prop} {w w' : World} {b : Nat} {F : FV} (h : FuncAt w b F) (k : Kept p w w') (hp : p b) : FuncAt w' b F :=
  ⟨cell_kept k hp h.c0, cell_kept k hp h.c1, cell_kept k hp h.c2, cell_kept k hp h.c3, cell_kept k hp h.c4⟩
theorem FuncAt.set2 {w : World} {b : Nat} {F : FV} (h : FuncAt w b F) (s : Sl) : FuncAt (w.setCell ⟨b, 2, none⟩ (.slice s.a s.n s.c)) b { F with par := s } :=
  ⟨cell_other (ne_off (by omega)) h.c0, cell_other (ne_off (by omega)) h.c1, cell_same h.c2, cell_other (ne_off (by omega)) h.c3, cell_other (ne_off (by omega)) h.c4⟩

abbrev fzero : FV := ⟨ByteArray.empty, false, ⟨none, 0, 0⟩, 0, ⟨none, 0, 0⟩, fun _ => 0, fun _ => ⟨none, 0, 0⟩, fun _ _ => IV.zero, fun _ _ _ => 0, fun _ _ _ => 0⟩

/-- The copy of a function. -/
abbrev twin (F : FV) (sp : Sl) (G : Nat) (gB : Nat → Nat) (sa si : Nat → Nat → Sl) : FV :=
  { F with par := sp, blk := ⟨some ⟨G, 0, none⟩, F.blk.n, F.blk.n⟩, B := fun j => ⟨some ⟨gB j, 0, none⟩, (F.B j).n, (F.B j).n⟩, I := fun j k => { F.I j k with args := sa j k, into := si j k } }

/-- A copy is handed back. -/
def Copied (F : FV) (w : World) (e : Ending) (w' : World) : Prop := ∃ (sp : Sl) (G : Nat) (gB : Nat → Nat) (sa si : Nat → Nat → Sl) (h : Nat → Nat → Nat) (H : Nat → Nat), e = .returned (twin F sp G gB sa si).val ∧ sp.n = F.par.n ∧ Ints w' sp F.P ∧ Mine w.heap.size G w' sp ∧ BRows G F.blk.n F.blk.n w' F.B F.I F.A F.J gB sa si h H ∧ w.heap.size ≤ G ∧ Below w.heap.size w w'

set_option maxHeartbeats 1000000 in
theorem copyFunc_raw (F : FV) (w : World) (hF : In w F) (hl : Light F) :
    Calls Try.prog 62 #[F.val] w fun e w' => Copied F w e w' := by
  have hp := hl.par
  have HF := hid hF
  have HL := hid hl
  clear hF hl
  go_enter Try.func62, Try.ntmps62
  go_wp2_with fail
  refine (copyList_any F.par F.P _ (HF.out.par.on (new (new (same w) _) _)) (by omega)).mono ?_
  rintro e w1 ⟨sp, rfl, hn1, hi1, hm1, hb1⟩
  have B1 : FuncAt w1 w.heap.size F := ((FuncAt.alloc w F).on (new (same _) _)).on hb1
  have D1 : FuncAt w1 (w.heap.size + 1) fzero := (by have := (FuncAt.alloc (w.alloc (.cells (fcells F) 33)) fzero).on hb1; simpa using this)
  have F1 : ∀ i, w1.frozen? ⟨w.heap.size, i, none⟩ = false := fun i => by rw [hb1.frozen (by simp; omega)]; simp [World.frozen?_alloc_old]
  have F1' : ∀ i, w1.frozen? ⟨w.heap.size + 1, i, none⟩ = false := fun i => by rw [hb1.frozen (by simp)]; simp
  have K1 := hid (more (new (new (same w) _) _) hb1)
  obtain ⟨c0, c1, c2, c3, c4⟩ := B1
  have hm1' : Mine (w.heap.size + 2) w1.heap.size w1 sp := by simpa using hm1
  have Z1 := hid (show w.heap.size + 2 ≤ w1.heap.size by have := hb1.size; simp at this; omega)
  have M1 := hid (And.intro hn1 (And.intro hi1 hm1'))
  have HB1 : Hid (FuncAt w1 w.heap.size F) := ⟨c0, c1, c2, c3, c4⟩
  have HD1 := hid D1
  clear hn1 hi1 hm1 hm1' D1 hb1
  go_wp2_with fail
  have K2 := K1.out.setCell (p := ⟨w.heap.size, 2, none⟩) (Nat.le_refl _) (.slice sp.a sp.n sp.c)
  refine (copyEachB_any F _ (HF.out.on K2) HL.out).mono ?_
  rintro e w2 ⟨gB, sa, si, h, H, rfl, hr2, hb2⟩
  have B2 : FuncAt w2 w.heap.size { F with par := sp } := FuncAt.on hb2 (HB1.out.set2 sp)
  have D2 : FuncAt w2 (w.heap.size + 1) fzero := (FuncAt.on hb2 (HD1.out.kept ((Kept.refl (fun k => k ≠ w.heap.size) w1).setCell (a := ⟨w.heap.size, 2, none⟩) (fun h => h rfl) _) (by show _ ≠ _; omega)))
  clear c0 c1 c2 c3 c4
  obtain ⟨c0, c1, c2, c3, c4⟩ := B2
  obtain ⟨d0, d1, d2, d3, d4⟩ := D2
  have F2 : ∀ i, w2.frozen? ⟨w.heap.size, i, none⟩ = false := fun i => by rw [hb2.frozen (by have := Z1.out; simp; omega)]; simp [F1]
  have F2' : ∀ i, w2.frozen? ⟨w.heap.size + 1, i, none⟩ = false := fun i => by rw [hb2.frozen (by have := Z1.out; simp; omega)]; simp [F1']
  have K3 := hid (more K2 hb2)
  simp only [World.size_setCell] at hr2
  have M2 := hid hr2
  have H2 := hid hb2
  clear hr2 hb2 F1 F1'
  simp only [World.size_setCell]
  go_wp2_with fail
  refine bodyPost_ret (v := (twin F sp w1.heap.size gB sa si).val) (by rw [results_cell rfl]; go_simp) rfl ?_
  have Z2 : w1.heap.size ≤ w2.heap.size := by have := H2.out.size; simpa using this
  have z1 := Z1.out
  have KW : Kept (fun k => w.heap.size + 2 ≤ k) w1 (w1.setCell ⟨w.heap.size, 2, none⟩ (.slice sp.a sp.n sp.c)) := (Kept.refl _ _).setCell (by simp) _
  have a1 : Ints w2 sp F.P := Ints.on H2.out (M1.out.2.1.kept' M1.out.2.2 KW (fun b h _ => h))
  have a2 : Mine (w.heap.size + 2) w1.heap.size w2 sp := Mine.on H2.out (by simp) (M1.out.2.2.kept KW (fun b h _ => h))
  refine ⟨sp, w1.heap.size, gB, sa, si, h, H, rfl, M1.out.1, ?_⟩
  have fin : ∀ w3, Kept (fun k => w.heap.size + 2 ≤ k) w2 w3 → Below w.heap.size w w3 → Ints w3 sp F.P ∧ Mine w.heap.size w1.heap.size w3 sp ∧ BRows w1.heap.size F.blk.n F.blk.n w3 F.B F.I F.A F.J gB sa si h H ∧ w.heap.size ≤ w1.heap.size ∧ Below w.heap.size w w3 := fun w3 hk hbl =>
    ⟨a1.kept' a2 hk (fun b h _ => h), (a2.kept hk (fun b h _ => h)).wide (by omega) (Nat.le_refl _), M2.out.kept hk (fun b h _ => by omega), by omega, hbl⟩
  refine fin _ ?_ ?_
  · repeat (refine Kept.setCell ?_ (by simp) _)
    exact Kept.refl _ _
  · repeat (refine Below.setCell ?_ (by simp) _)
    exact K3.out

end Go.Proofs.Ytbmfimojhcdnbaa.Copy
