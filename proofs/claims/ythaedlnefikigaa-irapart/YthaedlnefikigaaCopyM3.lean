/-
  A module's copy, in new memory: ir.copyEach at Func, ir.Copy.
-/
import Derived.Test.YthaedlnefikigaaCopyM2
import Derived.Test.YthaedlnefikigaaSameM
namespace Go.Proofs.Ythaedlnefikigaa.CpM
open Go.RowKit View Rd Copy Srt Own Go.Proofs.Ythaedlnefikigaa.Mod

set_option linter.unusedVariables false

theorem Own.apart {base : Nat} {w w' : World} {F : FV} {at_ : Own.Id → Nat} (h : Own base w F at_) (kp : Kept (fun b => base ≤ b ∧ b < w.heap.size) w w') : Own base w' F at_ := by
  refine ⟨⟨h.inn.par.kept kp fun b o ha h0 => h.pm.ge b o ha h0, Sls_kept h.inn.blk kp fun b o ha h0 => h.bm.ge b o ha h0, fun j hj => Inss_kept (h.inn.ins j hj) kp fun b o ha h0 => ?_, fun j hj k hk => (h.inn.args j hj k hk).kept kp fun b o ha h0 => ?_, fun j hj k hk => (h.inn.into j hj k hk).kept kp fun b o ha h0 => ?_⟩, h.adr, h.ge, fun x hx h0 => Nat.lt_of_lt_of_le (h.lt x hx h0) kp.size, fun x hx h0 i => by rw [World.frozen?_of_block (w := w) (kp.block _ ⟨h.ge x hx h0, h.lt x hx h0⟩)]; exact h.fz x hx h0 i, h.sep, h.par, h.blk, (h.pm.kept kp (fun b h1 h2 => ⟨h1, h2⟩)).wide (Nat.le_refl _) kp.size, (h.bm.kept kp (fun b h1 h2 => ⟨h1, h2⟩)).wide (Nat.le_refl _) kp.size⟩
  · have e := adr_inj (h.adr (.row j) hj h0) ha
    rw [e]; exact ⟨h.ge (.row j) hj h0, h.lt (.row j) hj h0⟩
  · have e := adr_inj (h.adr (.arg j k) ⟨hj, hk⟩ h0) ha
    rw [e]; exact ⟨h.ge (.arg j k) ⟨hj, hk⟩ h0, h.lt (.arg j k) ⟨hj, hk⟩ h0⟩
  · have e := adr_inj (h.adr (.int j k) ⟨hj, hk⟩ h0) ha
    rw [e]; exact ⟨h.ge (.int j k) ⟨hj, hk⟩ h0, h.lt (.int j k) ⟨hj, hk⟩ h0⟩

/-- Of a function that was copied. -/
def ElF (F : Nat → FV) (base : Nat) (w : World) (i : Nat) (T : FV) : Prop := ∃ at_, Own base w T at_ ∧ Light T ∧ Twins (F i) T

theorem ElF.on {F : Nat → FV} {base : Nat} {w w' : World} {i : Nat} {T : FV} (hb : Below w.heap.size w w') (h : ElF F base w i T) : ElF F base w' i T := by
  obtain ⟨a, h1, h2, h3⟩ := h
  exact ⟨a, h1.on hb, h2, h3⟩

theorem ElF.grown {F : Nat → FV} {base G : Nat} {w w' : World} {i : Nat} {T : FV} (h : ElF F base w i T) (hg : w.grownBy w' (some G)) (hG : G < base) : ElF F base w' i T := by
  obtain ⟨a, h1, h2, h3⟩ := h
  have kg := kept_of_grown hg
  exact ⟨a, Own.apart h1 ⟨kg.size, fun k hk => kg.block k ⟨by omega, hk.2⟩⟩, h2, h3⟩

theorem Own.lower {base base' : Nat} {w : World} {F : FV} {at_ : Own.Id → Nat} (h : Own base w F at_) (hb : base' ≤ base) : Own base' w F at_ :=
  ⟨h.inn, h.adr, fun x hx h0 => Nat.le_trans hb (h.ge x hx h0), h.lt, h.fz, h.sep, h.par, h.blk, h.pm.wide hb (Nat.le_refl _), h.bm.wide hb (Nat.le_refl _)⟩

theorem info36c : (Try.prog.info? 36).map (fun i => (i.zero, i.size, i.bytes)) = some (some (.agg #[.string ByteArray.empty, .bool false, .slice none 0 0, .int .i64 0, .slice none 0 0]), 5, 80) := by kernel_rfl

theorem new_five (w : World) (x0 x1 x2 x3 x4 : Value) (t : TypeId) : ∀ j u, [x0, x1, x2, x3, x4][j]? = some u → (w.alloc (.cells #[x0, x1, x2, x3, x4] t)).cell? ((⟨w.heap.size, 0, none⟩ : Addr).add j) = some u := by
  intro j u hj
  match j, hj with
  | 0, hj => simp at hj; subst hj; simp [Addr.add]
  | 1, hj => simp at hj; subst hj; simp [Addr.add]
  | 2, hj => simp at hj; subst hj; simp [Addr.add]
  | 3, hj => simp at hj; subst hj; simp [Addr.add]
  | 4, hj => simp at hj; subst hj; simp [Addr.add]
  | (j + 5), hj => simp at hj

set_option maxHeartbeats 1000000 in
theorem copyEachF_any (s : Sl) (V : Nat → FV) (w : World) (hs : Row 5 FAt w s V) (hc : ∀ i, i < s.n → In w (V i)) (hn : s.n ≤ 1000) (hl : ∀ i, i < s.n → Light (V i)) :
    Calls Try.prog 47 #[.slice s.a s.n s.c, .func (.func 48) #[] #[]] w fun e w' => NewEach 36 5 s.n (fun i (t : FV) => [.string t.name, .bool t.out, .slice t.par.a t.par.n t.par.c, .int .i64 t.res, .slice t.blk.a t.blk.n t.blk.c]) (ElF V) w e w' := by
  obtain ⟨i0, hi, hz0, hz1, hz2⟩ := info_parts info36c
  have HS := hid hs
  have HC := hid hc
  have HL := hid hl
  clear hs hc hl
  go_enter Try.func47, Try.ntmps47
  go_wp2_with (at_make; refine wpList_make_own _ rfl (.const (.int .i64 0)) (.tmp 9) 25 rfl w.heap.size 36 i0 (.agg #[.string ByteArray.empty, .bool false, .slice none 0 0, .int .i64 0, .slice none 0 0]) 5 underlying25 hi hz0 hz1 .i64 .i64 s.n s.n rfl rfl rfl (by rw [hz2]; omega) (by simp only [maxLen]; omega) (Nat.le_refl _) ?_; intro w1 hown1 hgr1)
  have hb1 : Below w.heap.size w w1 := (same w).grown hgr1 (Nat.le_refl _) (fun k hk => by cases hk)
  have hlt1 : w.heap.size < w1.heap.size := by obtain ⟨_, h⟩ := hown1.lt w.heap.size rfl; exact h
  have HO1 := hid hown1
  clear hown1 hgr1
  go_loopw [5, 13] (fun v i wr => ∃ k : Nat, k ≤ s.n ∧ i = .int .i64 k ∧ v = .slice (some ⟨w.heap.size, 0, none⟩) k s.n ∧ (∃ t, Each w.heap.size 36 5 k s.n wr (fun i (t : FV) => [.string t.name, .bool t.out, .slice t.par.a t.par.n t.par.c, .int .i64 t.res, .slice t.blk.a t.blk.n t.blk.c]) (ElF V (w.heap.size + 1)) t) ∧ Below w.heap.size w wr) (fun _ i _ => s.n - (intOf i).toNat)
  case atStart => exact ⟨0, Nat.zero_le _, rfl, rfl, ⟨fun _ => fzero, HO1.out, fun t ht => by omega⟩, hb1⟩
  case round =>
    clear HO1 hb1 hlt1
    obtain ⟨k, hk, rfl, rfl, ⟨t, hr⟩, hb⟩ := hrel
    have HR := hid hr
    clear hr
    by_cases hlt : k < s.n
    · obtain ⟨b, o, hix, d0, d1, d2, d3, d4⟩ := (HS.out.on (fun _ _ _ => FAt.on hb)).at underlying25 size36 hlt
      go_wp2_with fail
      have hb2 := new hb (.cells #[.string (V k).name, .bool (V k).out, .slice (V k).par.a (V k).par.n (V k).par.c, .int .i64 (V k).res, .slice (V k).blk.a (V k).blk.n (V k).blk.c] 36)
      have hzr : w.heap.size < wr.heap.size := (HR.out.own.lt w.heap.size rfl).2
      refine (copyFunc_any (V k) _ ((HC.out k hlt).on hb2) (HL.out k hlt)).mono ?_
      rintro e w2 ⟨t1, at1, rfl, ho1, hl1, ht1, hb3⟩
      have hb4 := more hb2 hb3
      have hr2 := hid ((owns_on hb3 (owns_on (new (same _) _) HR.out.own)).alloc (.cells #[.string t1.name, .bool t1.out, .slice t1.par.a t1.par.n t1.par.c, .int .i64 t1.res, .slice t1.blk.a t1.blk.n t1.blk.c] 36))
      have el1 := hid (show ElF V (w.heap.size + 1) w2 k t1 from ⟨at1, Own.lower ho1 (by simp only [World.size_alloc]; omega), hl1, ht1⟩)
      have elo := hid (fun i (hi : i < k) => ElF.on hb3 (ElF.on (new (same _) (.cells #[.string (V k).name, .bool (V k).out, .slice (V k).par.a (V k).par.n (V k).par.c, .int .i64 (V k).res, .slice (V k).blk.a (V k).blk.n (V k).blk.c] 36)) (HR.out.el i hi)))
      have HB4 := hid hb4
      clear ht1 ho1 hl1 hb3 hb4 hb2 d0 d1 d2 d3 d4
      go_wp2_with (at_builtin; refine wpList_append_fits _ rfl (.tmp 17) (.tmp 21) 25 rfl w.heap.size 36 i0 5 underlying25 hi hz1 w.heap.size k s.n _ rfl hr2.out ⟨w2.heap.size, 0, none⟩ 1 1 [.string t1.name, .bool t1.out, .slice t1.par.a t1.par.n t1.par.c, .int .i64 t1.res, .slice t1.blk.a t1.blk.n t1.blk.c] rfl rfl ?c1 ?c2 ?c3 ?_)
      case c1 => exact new_five _ _ _ _ _ _ _
      case c2 => intro u hu; simp at hu; rcases hu with rfl | rfl | rfl | rfl | rfl <;> rfl
      case c3 => omega
      intro w4 hown4 hgr4
      have hbl : Below w.heap.size w w4 := (new HB4.out _).grown hgr4 (by have := HB4.out.size; simp; omega) (fun k hk => by cases hk; exact Nat.le_refl _)
      have HN := hid (Each.step (G := w.heap.size) (T := 36) (z := 5) (n := s.n) (cs := fun i (t : FV) => [.string t.name, .bool t.out, .slice t.par.a t.par.n t.par.c, .int .i64 t.res, .slice t.blk.a t.blk.n t.blk.c]) (El := ElF V (w.heap.size + 1)) (t := t) (a := t1) (fun i hi => ((elo.out i hi).on (new (same _) _)).grown hgr4 (Nat.lt_succ_self _)) ((el1.out.on (new (same _) _)).grown hgr4 (Nat.lt_succ_self _)) hown4)
      clear hown4 hgr4
      go_wp2
      go_round
      case rel => exact ⟨k + 1, by omega, by go_num, rfl, HN.out, hbl⟩
      case measure => simp [intOf]; omega
    · obtain rfl : k = s.n := by omega
      go_wp2
      go_ret
      exact ⟨rfl, ⟨t, HR.out⟩, hb⟩

end Go.Proofs.Ythaedlnefikigaa.CpM
