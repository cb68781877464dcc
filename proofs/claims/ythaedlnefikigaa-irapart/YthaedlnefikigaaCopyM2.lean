/-
  Copies of rows of a module's parts, in new memory: ir.copyEach at Extern, Global, Table, Func.
-/
import Derived.Test.YthaedlnefikigaaCopyM
namespace Go.Proofs.Ythaedlnefikigaa.CpM
open Go.RowKit View Rd Copy Srt Own Go.Proofs.Ythaedlnefikigaa.Mod

set_option linter.unusedVariables false

/-- Rows of cells, one behind the other. -/
def fl (c : Nat → List Value) : Nat → List Value
  | 0 => []
  | k + 1 => fl c k ++ c k

theorem fl_length {c : Nat → List Value} {z : Nat} (h : ∀ i, (c i).length = z) : ∀ k, (fl c k).length = k * z
  | 0 => by simp [fl]
  | k + 1 => by rw [fl, List.length_append, fl_length h k, h, Nat.succ_mul]

theorem fl_congr {c d : Nat → List Value} : ∀ {k : Nat}, (∀ t, t < k → c t = d t) → fl c k = fl d k
  | 0, _ => rfl
  | k + 1, h => by rw [fl, fl, fl_congr (fun t ht => h t (by omega)), h k (by omega)]

theorem fl_at {c : Nat → List Value} {z : Nat} (h : ∀ i, (c i).length = z) : ∀ k t r, t < k → r < z → (fl c k)[t * z + r]? = (c t)[r]?
  | 0, t, r, ht, _ => by omega
  | k + 1, t, r, ht, hr => by
    rw [fl]
    rcases Nat.lt_or_eq_of_le (Nat.le_of_lt_succ ht) with h' | rfl
    · rw [List.getElem?_append_left (by rw [fl_length h]; have := Nat.mul_le_mul_right z (show t + 1 ≤ k from h'); rw [Nat.succ_mul] at this; omega)]
      exact fl_at h k t r h' hr
    · rw [List.getElem?_append_right (by rw [fl_length h]; omega), fl_length h]
      congr 1
      omega

/-- k of n things were copied into the row at G; each holds (El). -/
structure Each {α : Type} (G T z k n : Nat) (w : World) (cs : Nat → α → List Value) (El : World → Nat → α → Prop) (t : Nat → α) : Prop where
  own : w.ownsRow G T z (.slice (some ⟨G, 0, none⟩) k n) k (fl (fun i => cs i (t i)) k)
  el : ∀ i, i < k → El w i (t i)

theorem Each.step {α : Type} {G T z k n : Nat} {w : World} {cs : Nat → α → List Value} {El : World → Nat → α → Prop} {t : Nat → α} {a : α} (he : ∀ i, i < k → El w i (t i)) (ha : El w k a)
    (own : w.ownsRow G T z (.slice (some ⟨G, 0, none⟩) (k + 1) n) (k + 1) (fl (fun i => cs i (t i)) k ++ cs k a)) : ∃ t, Each G T z (k + 1) n w cs El t := by
  refine ⟨fun i => if i < k then t i else a, ?_, fun i hi => ?_⟩
  · have e : fl (fun i => cs i (if i < k then t i else a)) (k + 1) = fl (fun i => cs i (t i)) k ++ cs k a := by
      rw [fl, fl_congr (d := fun i => cs i (t i)) (fun i hi => by simp [hi])]
      simp
    rw [e]; exact own
  · rcases Nat.lt_or_eq_of_le (Nat.le_of_lt_succ hi) with h | rfl
    · simp only [h, if_true]; exact he i h
    · simp only [Nat.lt_irrefl, if_false]; exact ha

theorem Each.cell {α : Type} {G T z k n : Nat} {w : World} {cs : Nat → α → List Value} {El : World → Nat → α → Prop} {t : Nat → α} (h : Each G T z k n w cs El t) (hz : ∀ i a, (cs i a).length = z) {i r : Nat} (hi : i < k) (hr : r < z) {v : Value} (hv : (cs i (t i))[r]? = some v) : w.cell? ⟨G, i * z + r, none⟩ = some v := by
  have hlt : i * z + r < k * z := by have := Nat.mul_le_mul_right z (show i + 1 ≤ k from hi); rw [Nat.succ_mul] at this; omega
  rw [h.own.cellAt (i * z + r) hlt, fl_at (fun i => hz i _) k i r hi hr, hv]

def NewEach {α : Type} (T z n : Nat) (cs : Nat → α → List Value) (El : Nat → World → Nat → α → Prop) (w : World) (e : Ending) (w' : World) : Prop :=
  e = .returned (.slice (some ⟨w.heap.size, 0, none⟩) n n) ∧ (∃ t, Each w.heap.size T z n n w' cs (El (w.heap.size + 1)) t) ∧ Below w.heap.size w w'

/-- Of a row of numbers that was copied. -/
def ElS (N : Nat → Nat) (C : Nat → Nat → Int) (base : Nat) (w : World) (i : Nat) (t : Sl) : Prop :=
  t.n = N i ∧ Ints w t (C i) ∧ Mine base w.heap.size w t

theorem ElS.on {N : Nat → Nat} {C : Nat → Nat → Int} {base : Nat} {w w' : World} {i : Nat} {t : Sl} (hb : Below w.heap.size w w') (h : ElS N C base w i t) : ElS N C base w' i t :=
  ⟨h.1, h.2.1.on hb, (h.2.2.on hb (Nat.le_refl _)).wide (Nat.le_refl _) hb.size⟩

theorem ElS.grown {N : Nat → Nat} {C : Nat → Nat → Int} {base G : Nat} {w w' : World} {i : Nat} {t : Sl} (h : ElS N C base w i t) (hg : w.grownBy w' (some G)) (hG : G < base) : ElS N C base w' i t :=
  ⟨h.1, h.2.1.kept' h.2.2 (kept_of_grown hg) (fun b h1 h2 => ⟨by omega, h2⟩), (h.2.2.kept (kept_of_grown hg) (fun b h1 h2 => ⟨by omega, h2⟩)).wide (Nat.le_refl _) hg.size⟩

theorem info55c : (Try.prog.info? 55).map (fun i => (i.zero, i.size, i.bytes)) = some (some (.agg #[.string ByteArray.empty, .slice none 0 0, .int .i64 0]), 3, 48) := by kernel_rfl

theorem new_copyEachE_any (w : World) (x0 x1 x2 : Value) (t : TypeId) : ∀ j u, [x0, x1, x2][j]? = some u → (w.alloc (.cells #[x0, x1, x2] t)).cell? ((⟨w.heap.size, 0, none⟩ : Addr).add j) = some u := by
  intro j u hj
  match j, hj with
  | 0, hj => simp at hj; subst hj; simp [Addr.add]
  | 1, hj => simp at hj; subst hj; simp [Addr.add]
  | 2, hj => simp at hj; subst hj; simp [Addr.add]
  | (j + 3), hj => simp at hj

set_option maxHeartbeats 1000000 in
theorem copyEachE_any (s : Sl) (V : Nat → EV) (C : Nat → Nat → Int) (w : World) (hs : Row 3 EAt w s V) (hc : ∀ i, i < s.n → Ints w (V i).par (C i)) (hn : s.n ≤ 1000) (hl : ∀ i, i < s.n → (V i).par.n ≤ 1000) :
    Calls Try.prog 41 #[.slice s.a s.n s.c, .func (.func 42) #[] #[]] w fun e w' => NewEach 55 3 s.n (fun i t => [.string (V i).name, .slice t.a t.n t.c, .int .i64 (V i).res]) (ElS (fun i => (V i).par.n) C) w e w' := by
  obtain ⟨i0, hi, hz0, hz1, hz2⟩ := info_parts info55c
  have HS := hid hs
  have HC := hid hc
  have HL := hid hl
  clear hs hc hl
  go_enter Try.func41, Try.ntmps41
  go_wp2_with (at_make; refine wpList_make_own _ rfl (.const (.int .i64 0)) (.tmp 9) 22 rfl w.heap.size 55 i0 (.agg #[.string ByteArray.empty, .slice none 0 0, .int .i64 0]) 3 underlying22 hi hz0 hz1 .i64 .i64 s.n s.n rfl rfl rfl (by rw [hz2]; omega) (by simp only [maxLen]; omega) (Nat.le_refl _) ?_; intro w1 hown1 hgr1)
  have hb1 : Below w.heap.size w w1 := (same w).grown hgr1 (Nat.le_refl _) (fun k hk => by cases hk)
  have hlt1 : w.heap.size < w1.heap.size := by obtain ⟨_, h⟩ := hown1.lt w.heap.size rfl; exact h
  have HO1 := hid hown1
  clear hown1 hgr1
  go_loopw [5, 13] (fun v i wr => ∃ k : Nat, k ≤ s.n ∧ i = .int .i64 k ∧ v = .slice (some ⟨w.heap.size, 0, none⟩) k s.n ∧ (∃ t, Each w.heap.size 55 3 k s.n wr (fun i t => [.string (V i).name, .slice t.a t.n t.c, .int .i64 (V i).res]) (ElS (fun i => (V i).par.n) C (w.heap.size + 1)) t) ∧ Below w.heap.size w wr) (fun _ i _ => s.n - (intOf i).toNat)
  case atStart => exact ⟨0, Nat.zero_le _, rfl, rfl, ⟨fun _ => ⟨none, 0, 0⟩, HO1.out, fun t ht => by omega⟩, hb1⟩
  case round =>
    clear HO1 hb1 hlt1
    obtain ⟨k, hk, rfl, rfl, ⟨t, hr⟩, hb⟩ := hrel
    have HR := hid hr
    clear hr
    by_cases hlt : k < s.n
    · obtain ⟨b, o, hix, d0, d1, d2⟩ := (HS.out.on (fun _ _ _ => EAt.on hb)).at underlying22 size55 hlt
      go_wp2_with fail
      have hb2 := new hb (.cells #[.string (V k).name, .slice (V k).par.a (V k).par.n (V k).par.c, .int .i64 (V k).res] 55)
      have hzr : w.heap.size < wr.heap.size := (HR.out.own.lt w.heap.size rfl).2
      refine (copyExtern_any (V k) (C k) _ ((HC.out k hlt).on hb2) (HL.out k hlt)).mono ?_
      rintro e w2 ⟨t1, rfl, ht1, hi1, hm1, hb3⟩
      have hb4 := more hb2 hb3
      have hr2 := hid ((owns_on hb3 (owns_on (new (same _) _) HR.out.own)).alloc (.cells #[.string (V k).name, .slice t1.a t1.n t1.c, .int .i64 (V k).res] 55))
      have el1 := hid (show ElS (fun i => (V i).par.n) C (w.heap.size + 1) w2 k t1 from ⟨ht1, hi1, hm1.wide (by simp; omega) (Nat.le_refl _)⟩)
      have elo := hid (fun i (hi : i < k) => ElS.on hb3 (ElS.on (new (same _) (.cells #[.string (V k).name, .slice (V k).par.a (V k).par.n (V k).par.c, .int .i64 (V k).res] 55)) (HR.out.el i hi)))
      have HB4 := hid hb4
      clear ht1 hi1 hm1 hb3 hb4 hb2 d0 d1 d2
      go_wp2_with (at_builtin; refine wpList_append_fits _ rfl (.tmp 17) (.tmp 21) 22 rfl w.heap.size 55 i0 3 underlying22 hi hz1 w.heap.size k s.n _ rfl hr2.out ⟨w2.heap.size, 0, none⟩ 1 1 [.string (V k).name, .slice t1.a t1.n t1.c, .int .i64 (V k).res] rfl rfl ?c1 ?c2 ?c3 ?_)
      case c1 => exact new_copyEachE_any _ _ _ _ _
      case c2 => intro u hu; simp at hu; rcases hu with rfl | rfl | rfl <;> rfl
      case c3 => omega
      intro w4 hown4 hgr4
      have hbl : Below w.heap.size w w4 := (new HB4.out _).grown hgr4 (by have := HB4.out.size; simp; omega) (fun k hk => by cases hk; exact Nat.le_refl _)
      have HN := hid (Each.step (G := w.heap.size) (T := 55) (z := 3) (n := s.n) (cs := fun i t => [.string (V i).name, .slice t.a t.n t.c, .int .i64 (V i).res]) (El := ElS (fun i => (V i).par.n) C (w.heap.size + 1)) (t := t) (a := t1) (fun i hi => ((elo.out i hi).on (new (same _) _)).grown hgr4 (Nat.lt_succ_self _)) ((el1.out.on (new (same _) _)).grown hgr4 (Nat.lt_succ_self _)) hown4)
      clear hown4 hgr4
      go_wp2
      go_round
      case rel => exact ⟨k + 1, by omega, by go_num, rfl, HN.out, hbl⟩
      case measure => simp [intOf]; omega
    · obtain rfl : k = s.n := by omega
      go_wp2
      go_ret
      exact ⟨rfl, ⟨t, HR.out⟩, hb⟩

theorem info58c : (Try.prog.info? 58).map (fun i => (i.zero, i.size, i.bytes)) = some (some (.agg #[.string ByteArray.empty, .slice none 0 0]), 2, 40) := by kernel_rfl

theorem new_copyEachG_any (w : World) (x0 x1 : Value) (t : TypeId) : ∀ j u, [x0, x1][j]? = some u → (w.alloc (.cells #[x0, x1] t)).cell? ((⟨w.heap.size, 0, none⟩ : Addr).add j) = some u := by
  intro j u hj
  match j, hj with
  | 0, hj => simp at hj; subst hj; simp [Addr.add]
  | 1, hj => simp at hj; subst hj; simp [Addr.add]
  | (j + 2), hj => simp at hj

set_option maxHeartbeats 1000000 in
theorem copyEachG_any (s : Sl) (V : Nat → GV) (C : Nat → Nat → Int) (w : World) (hs : Row 2 GAt w s V) (hc : ∀ i, i < s.n → Ints w (V i).cel (C i)) (hn : s.n ≤ 1000) (hl : ∀ i, i < s.n → (V i).cel.n ≤ 1000) :
    Calls Try.prog 43 #[.slice s.a s.n s.c, .func (.func 44) #[] #[]] w fun e w' => NewEach 58 2 s.n (fun i t => [.string (V i).name, .slice t.a t.n t.c]) (ElS (fun i => (V i).cel.n) C) w e w' := by
  obtain ⟨i0, hi, hz0, hz1, hz2⟩ := info_parts info58c
  have HS := hid hs
  have HC := hid hc
  have HL := hid hl
  clear hs hc hl
  go_enter Try.func43, Try.ntmps43
  go_wp2_with (at_make; refine wpList_make_own _ rfl (.const (.int .i64 0)) (.tmp 9) 23 rfl w.heap.size 58 i0 (.agg #[.string ByteArray.empty, .slice none 0 0]) 2 underlying23 hi hz0 hz1 .i64 .i64 s.n s.n rfl rfl rfl (by rw [hz2]; omega) (by simp only [maxLen]; omega) (Nat.le_refl _) ?_; intro w1 hown1 hgr1)
  have hb1 : Below w.heap.size w w1 := (same w).grown hgr1 (Nat.le_refl _) (fun k hk => by cases hk)
  have hlt1 : w.heap.size < w1.heap.size := by obtain ⟨_, h⟩ := hown1.lt w.heap.size rfl; exact h
  have HO1 := hid hown1
  clear hown1 hgr1
  go_loopw [5, 13] (fun v i wr => ∃ k : Nat, k ≤ s.n ∧ i = .int .i64 k ∧ v = .slice (some ⟨w.heap.size, 0, none⟩) k s.n ∧ (∃ t, Each w.heap.size 58 2 k s.n wr (fun i t => [.string (V i).name, .slice t.a t.n t.c]) (ElS (fun i => (V i).cel.n) C (w.heap.size + 1)) t) ∧ Below w.heap.size w wr) (fun _ i _ => s.n - (intOf i).toNat)
  case atStart => exact ⟨0, Nat.zero_le _, rfl, rfl, ⟨fun _ => ⟨none, 0, 0⟩, HO1.out, fun t ht => by omega⟩, hb1⟩
  case round =>
    clear HO1 hb1 hlt1
    obtain ⟨k, hk, rfl, rfl, ⟨t, hr⟩, hb⟩ := hrel
    have HR := hid hr
    clear hr
    by_cases hlt : k < s.n
    · obtain ⟨b, o, hix, d0, d1⟩ := (HS.out.on (fun _ _ _ => GAt.on hb)).at underlying23 size58 hlt
      go_wp2_with fail
      have hb2 := new hb (.cells #[.string (V k).name, .slice (V k).cel.a (V k).cel.n (V k).cel.c] 58)
      have hzr : w.heap.size < wr.heap.size := (HR.out.own.lt w.heap.size rfl).2
      refine (copyGlobal_any (V k) (C k) _ ((HC.out k hlt).on hb2) (HL.out k hlt)).mono ?_
      rintro e w2 ⟨t1, rfl, ht1, hi1, hm1, hb3⟩
      have hb4 := more hb2 hb3
      have hr2 := hid ((owns_on hb3 (owns_on (new (same _) _) HR.out.own)).alloc (.cells #[.string (V k).name, .slice t1.a t1.n t1.c] 58))
      have el1 := hid (show ElS (fun i => (V i).cel.n) C (w.heap.size + 1) w2 k t1 from ⟨ht1, hi1, hm1.wide (by simp; omega) (Nat.le_refl _)⟩)
      have elo := hid (fun i (hi : i < k) => ElS.on hb3 (ElS.on (new (same _) (.cells #[.string (V k).name, .slice (V k).cel.a (V k).cel.n (V k).cel.c] 58)) (HR.out.el i hi)))
      have HB4 := hid hb4
      clear ht1 hi1 hm1 hb3 hb4 hb2 d0 d1
      go_wp2_with (at_builtin; refine wpList_append_fits _ rfl (.tmp 17) (.tmp 21) 23 rfl w.heap.size 58 i0 2 underlying23 hi hz1 w.heap.size k s.n _ rfl hr2.out ⟨w2.heap.size, 0, none⟩ 1 1 [.string (V k).name, .slice t1.a t1.n t1.c] rfl rfl ?c1 ?c2 ?c3 ?_)
      case c1 => exact new_copyEachG_any _ _ _ _
      case c2 => intro u hu; simp at hu; rcases hu with rfl | rfl <;> rfl
      case c3 => omega
      intro w4 hown4 hgr4
      have hbl : Below w.heap.size w w4 := (new HB4.out _).grown hgr4 (by have := HB4.out.size; simp; omega) (fun k hk => by cases hk; exact Nat.le_refl _)
      have HN := hid (Each.step (G := w.heap.size) (T := 58) (z := 2) (n := s.n) (cs := fun i t => [.string (V i).name, .slice t.a t.n t.c]) (El := ElS (fun i => (V i).cel.n) C (w.heap.size + 1)) (t := t) (a := t1) (fun i hi => ((elo.out i hi).on (new (same _) _)).grown hgr4 (Nat.lt_succ_self _)) ((el1.out.on (new (same _) _)).grown hgr4 (Nat.lt_succ_self _)) hown4)
      clear hown4 hgr4
      go_wp2
      go_round
      case rel => exact ⟨k + 1, by omega, by go_num, rfl, HN.out, hbl⟩
      case measure => simp [intOf]; omega
    · obtain rfl : k = s.n := by omega
      go_wp2
      go_ret
      exact ⟨rfl, ⟨t, HR.out⟩, hb⟩

theorem info60c : (Try.prog.info? 60).map (fun i => (i.zero, i.size, i.bytes)) = some (some (.agg #[.string ByteArray.empty, .slice none 0 0]), 2, 40) := by kernel_rfl

theorem new_copyEachT_any (w : World) (x0 x1 : Value) (t : TypeId) : ∀ j u, [x0, x1][j]? = some u → (w.alloc (.cells #[x0, x1] t)).cell? ((⟨w.heap.size, 0, none⟩ : Addr).add j) = some u := by
  intro j u hj
  match j, hj with
  | 0, hj => simp at hj; subst hj; simp [Addr.add]
  | 1, hj => simp at hj; subst hj; simp [Addr.add]
  | (j + 2), hj => simp at hj

set_option maxHeartbeats 1000000 in
theorem copyEachT_any (s : Sl) (V : Nat → GV) (C : Nat → Nat → Int) (w : World) (hs : Row 2 GAt w s V) (hc : ∀ i, i < s.n → Ints w (V i).cel (C i)) (hn : s.n ≤ 1000) (hl : ∀ i, i < s.n → (V i).cel.n ≤ 1000) :
    Calls Try.prog 45 #[.slice s.a s.n s.c, .func (.func 46) #[] #[]] w fun e w' => NewEach 60 2 s.n (fun i t => [.string (V i).name, .slice t.a t.n t.c]) (ElS (fun i => (V i).cel.n) C) w e w' := by
  obtain ⟨i0, hi, hz0, hz1, hz2⟩ := info_parts info60c
  have HS := hid hs
  have HC := hid hc
  have HL := hid hl
  clear hs hc hl
  go_enter Try.func45, Try.ntmps45
  go_wp2_with (at_make; refine wpList_make_own _ rfl (.const (.int .i64 0)) (.tmp 9) 24 rfl w.heap.size 60 i0 (.agg #[.string ByteArray.empty, .slice none 0 0]) 2 underlying24 hi hz0 hz1 .i64 .i64 s.n s.n rfl rfl rfl (by rw [hz2]; omega) (by simp only [maxLen]; omega) (Nat.le_refl _) ?_; intro w1 hown1 hgr1)
  have hb1 : Below w.heap.size w w1 := (same w).grown hgr1 (Nat.le_refl _) (fun k hk => by cases hk)
  have hlt1 : w.heap.size < w1.heap.size := by obtain ⟨_, h⟩ := hown1.lt w.heap.size rfl; exact h
  have HO1 := hid hown1
  clear hown1 hgr1
  go_loopw [5, 13] (fun v i wr => ∃ k : Nat, k ≤ s.n ∧ i = .int .i64 k ∧ v = .slice (some ⟨w.heap.size, 0, none⟩) k s.n ∧ (∃ t, Each w.heap.size 60 2 k s.n wr (fun i t => [.string (V i).name, .slice t.a t.n t.c]) (ElS (fun i => (V i).cel.n) C (w.heap.size + 1)) t) ∧ Below w.heap.size w wr) (fun _ i _ => s.n - (intOf i).toNat)
  case atStart => exact ⟨0, Nat.zero_le _, rfl, rfl, ⟨fun _ => ⟨none, 0, 0⟩, HO1.out, fun t ht => by omega⟩, hb1⟩
  case round =>
    clear HO1 hb1 hlt1
    obtain ⟨k, hk, rfl, rfl, ⟨t, hr⟩, hb⟩ := hrel
    have HR := hid hr
    clear hr
    by_cases hlt : k < s.n
    · obtain ⟨b, o, hix, d0, d1⟩ := (HS.out.on (fun _ _ _ => GAt.on hb)).at underlying24 size60 hlt
      go_wp2_with fail
      have hb2 := new hb (.cells #[.string (V k).name, .slice (V k).cel.a (V k).cel.n (V k).cel.c] 60)
      have hzr : w.heap.size < wr.heap.size := (HR.out.own.lt w.heap.size rfl).2
      refine (copyTable_any (V k) (C k) _ ((HC.out k hlt).on hb2) (HL.out k hlt)).mono ?_
      rintro e w2 ⟨t1, rfl, ht1, hi1, hm1, hb3⟩
      have hb4 := more hb2 hb3
      have hr2 := hid ((owns_on hb3 (owns_on (new (same _) _) HR.out.own)).alloc (.cells #[.string (V k).name, .slice t1.a t1.n t1.c] 60))
      have el1 := hid (show ElS (fun i => (V i).cel.n) C (w.heap.size + 1) w2 k t1 from ⟨ht1, hi1, hm1.wide (by simp; omega) (Nat.le_refl _)⟩)
      have elo := hid (fun i (hi : i < k) => ElS.on hb3 (ElS.on (new (same _) (.cells #[.string (V k).name, .slice (V k).cel.a (V k).cel.n (V k).cel.c] 60)) (HR.out.el i hi)))
      have HB4 := hid hb4
      clear ht1 hi1 hm1 hb3 hb4 hb2 d0 d1
      go_wp2_with (at_builtin; refine wpList_append_fits _ rfl (.tmp 17) (.tmp 21) 24 rfl w.heap.size 60 i0 2 underlying24 hi hz1 w.heap.size k s.n _ rfl hr2.out ⟨w2.heap.size, 0, none⟩ 1 1 [.string (V k).name, .slice t1.a t1.n t1.c] rfl rfl ?c1 ?c2 ?c3 ?_)
      case c1 => exact new_copyEachT_any _ _ _ _
      case c2 => intro u hu; simp at hu; rcases hu with rfl | rfl <;> rfl
      case c3 => omega
      intro w4 hown4 hgr4
      have hbl : Below w.heap.size w w4 := (new HB4.out _).grown hgr4 (by have := HB4.out.size; simp; omega) (fun k hk => by cases hk; exact Nat.le_refl _)
      have HN := hid (Each.step (G := w.heap.size) (T := 60) (z := 2) (n := s.n) (cs := fun i t => [.string (V i).name, .slice t.a t.n t.c]) (El := ElS (fun i => (V i).cel.n) C (w.heap.size + 1)) (t := t) (a := t1) (fun i hi => ((elo.out i hi).on (new (same _) _)).grown hgr4 (Nat.lt_succ_self _)) ((el1.out.on (new (same _) _)).grown hgr4 (Nat.lt_succ_self _)) hown4)
      clear hown4 hgr4
      go_wp2
      go_round
      case rel => exact ⟨k + 1, by omega, by go_num, rfl, HN.out, hbl⟩
      case measure => simp [intOf]; omega
    · obtain rfl : k = s.n := by omega
      go_wp2
      go_ret
      exact ⟨rfl, ⟨t, HR.out⟩, hb⟩

end Go.Proofs.Ythaedlnefikigaa.CpM
