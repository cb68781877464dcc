/-
  Proved: for every number, every text and whatever bytes ahead and behind WireBack answers true and leaves its arguments as they were: what is put is got, what was handed in stays as it was, spare room too. No condition.
-/
import Derived.Test.YtiepgocbgjdhpaaRows
import Derived.Test.YtiepgocbgjdhpaaApp
import Derived.WalkSpells
import Derived.Deep.Light
import Derived.Deep.RegionHeld3
import Derived.Deep.DrawnRows
import Derived.WalkKit
import Derived.ProofKit
import Derived.OpenShut
import Derived.ShutString
import Derived.ChangeOld
import Derived.Below
namespace Go.Proofs.Ytiepgocbgjdhpaa.wireBack
open Go.ChangeShapes Go.WideShapes Go.ChangeAt Go.RowKit Plain Get Cv Put GetText First Law Math App
open Go.ChangeMaps (open_string shut_string)
set_option linter.unusedVariables false

theorem own : ownKnob Try.prog.godebug = none := by kernel_rfl
theorem laidOut : laidOutB Try.prog = true := by kernel_rfl

def IsRow (k : IntKind) (w : World) (a : Option Addr) (len cap : Nat) (zs : List Int) : Prop :=
  (a = none ∧ len = 0 ∧ cap = 0 ∧ zs = []) ∨
  ∃ x, a = some x ∧ len ≤ cap ∧ cap ≤ maxLen ∧ zs.length = cap ∧ (∀ i, i < zs.length → w.cell? (x.add i) = some (.int k (zs.getD i 0))) ∧ ∀ n ∈ zs, (Lit.int k n).wf = true

attribute [local go_sem ↓] Go.wp_at_zero Go.wp_at_succ

theorem num_bytes {n : Int} (h0 : -9223372036854775808 ≤ n) (h1 : n ≤ 9223372036854775807) : ∀ x ∈ num n, 0 ≤ x ∧ x ≤ 255 := by
  intro x hx
  have := many_le (bare_bd h0 h1).2
  rw [num, List.mem_cons] at hx
  rcases hx with rfl | hx
  · split <;> omega
  · exact digs_bytes _ _ x hx

/-- An operation is taken first; where it leaves its value is told. -/
theorem takeAt {P : Program} {ops : Array Oper} {Q : Exit → Act → World → Prop} {md : Region.Mode} {S : World → Prop} {i : Nat} {oi : Oper} {d : Option Tmp} {v : Value} {fuel : Nat} {listed : Array Bool} {a : Act} {w : World} (hi : ops[i]? = some oi) (hd : oi.dst = d)
    (hs : Region.noSelect ops = true) (hf : Region.free md ops listed i = true) (hr : (Region.ready md ops listed).contains i = true)
    (hQ : ∀ c a w, Q (.panic c) (a.put d v) w → Q (.panic c) a w) (hy : YieldsIf P ops S oi v a) (hS : S w)
    (h : wpAnyH P md ops Q S fuel (listed.setIfInBounds i true) (a.put d v) w) : wpAnyH P md ops Q S (fuel + 1) listed a w := by
  subst hd
  exact wpAnyH_take hi hs hf hr hQ hy hS h

/-- Another condition, which says more, from here on. -/
theorem wpAnyH_switch {P : Program} {ops : Array Oper} {Q : Exit → Act → World → Prop} {md : Region.Mode} {S S' : World → Prop} (h : ∀ w, S' w → S w) :
    ∀ (fuel : Nat) (listed : Array Bool) (a : Act) (w : World), wpAnyH P md ops Q S' fuel listed a w → wpAnyH P md ops Q S fuel listed a w
  | 0, _, _, _, H => H
  | fuel + 1, _, _, _, H => ⟨H.1, fun i hi => wpOp_mono (fun a' w' h' => ⟨h w' h'.1, wpAnyH_switch h fuel _ a' w' h'.2⟩) (H.2 i hi)⟩

theorem own_empty (w : World) : (w.alloc (.cells #[] 5)).ownsRow w.heap.size 5 1 (.slice (some ⟨w.heap.size, 0, none⟩) 0 0) 0 (([] : List Int).map (Value.int .u8)) :=
  ⟨rfl, .inr ⟨w.heap.size, 0, #[], rfl, Nat.le_refl _, heap_alloc_new w _, Nat.le_refl _, Nat.zero_le _, rfl, rfl⟩⟩

theorem below_alloc (w : World) (o : Obj) : Below w.heap.size w (w.alloc o) := (Below.refl _ _).alloc (Nat.le_refl _) o

theorem own_is {base : Nat} {w : World} {g n cap : Nat} {xs : List Int} (h : w.ownsRow base 5 1 (.slice (some ⟨g, 0, none⟩) n cap) n (xs.map (Value.int .u8))) (hn : 0 < n) : Own base w g n cap xs := by
  obtain ⟨g', c', he, ho⟩ := own_of h hn
  simp at he
  obtain ⟨rfl, rfl⟩ := he
  exact ho

/-- The head of a row that was made, as bytes that are handed in. -/
theorem Own.head {base : Nat} {w : World} {g n cap m : Nat} {xs r : List Int} (h : Own base w g n cap (xs ++ r)) (hm : xs.length = m) (hb : ∀ x ∈ xs, 0 ≤ x ∧ x ≤ 255) : In w (some ⟨g, 0, none⟩) m cap xs := by
  have hl := h.hlen
  have hc := h.hcap
  rw [List.length_append] at hl
  refine ⟨hm, ⟨by omega, h.hmost, fun i hi => ?_, fun _ => ⟨g, 0, rfl, fun i hi => ?_⟩⟩, fun h => by cases h⟩
  · have : xs.getD i 0 ∈ xs := by simp [List.getD, show i < xs.length by omega]
    exact hb _ this
  · rw [Nat.zero_add, h.hcell i (by omega)]
    simp [List.getD, List.getElem?_append_left (show i < xs.length by omega)]

theorem Own.whole {base : Nat} {w : World} {g n cap : Nat} {xs : List Int} (h : Own base w g n cap xs) (hb : ∀ x ∈ xs, 0 ≤ x ∧ x ≤ 255) : In w (some ⟨g, 0, none⟩) n cap xs :=
  ⟨h.hlen, h.reads hb, fun h => by cases h⟩

theorem own_empty_q (w : World) (q : Nat) : ((w.alloc (.cells #[] 5)).drewN q).ownsRow w.heap.size 5 1 (.slice (some ⟨w.heap.size, 0, none⟩) 0 0) 0 (([] : List Int).map (Value.int .u8)) := own_empty w

theorem below_alloc_q (w : World) (o : Obj) (q : Nat) : Below w.heap.size w ((w.alloc o).drewN q) := below_drewN (below_alloc w o) q

theorem text_is (a : Option Addr) (n c : Nat) (p most : Int) (f : Nat → Int) (w : World) (h : Reads w a n c f) (t : List Int) (nx e : Int) (hg : gotText f n p most = (t, nx, e)) :
    Calls Try.prog 10 #[.slice a n c, .int .i64 p, .int .i64 most] w fun r w' => r = .returned (.tuple #[.string (str t), .int .i64 nx, .int .i64 e]) ∧ ∃ q, w' = w.drewN q := by
  have := text_any a n c p most f w h
  rw [hg] at this
  exact this

theorem at_mid (l m r : List Int) : At (fun i => (l ++ m ++ r).getD i 0) l.length m := fun i hi => by
  simp only [List.getD]
  rw [List.append_assoc, List.getElem?_append_right (by omega), List.getElem?_append_left (by omega)]
  simp

/-- What is put is got. -/
theorem got_back (xs ys : List Int) (n : Int) (h0 : -9223372036854775808 ≤ n) (h1 : n ≤ 9223372036854775807) :
    got (fun i => (xs ++ num n ++ ys).getD i 0) (xs.length + (num n).length + ys.length) xs.length = (n, ((xs.length + (num n).length : Nat) : Int), 0) :=
  got_num _ _ _ n h0 h1 (at_mid xs (num n) ys) (by omega)

theorem text_back (xs ys : List Int) (s : ByteArray) (hs : s.size ≤ 1000000) :
    gotText (fun i => (xs ++ num s.size ++ sb s ++ ys).getD i 0) (xs.length + (num s.size).length + s.size + ys.length) xs.length s.size = (sb s, ((xs.length + (num s.size).length + s.size : Nat) : Int), 0) := by
  have hl := sb_length s
  have g := got_num (fun i => (xs ++ num s.size ++ sb s ++ ys).getD i 0) (xs.length + (num s.size).length + s.size + ys.length) xs.length s.size (by omega) (by omega)
    (by have := at_mid xs (num s.size) (sb s ++ ys); rw [← List.append_assoc] at this; exact this) (by omega)
  unfold gotText
  rw [g]
  simp only
  rw [if_neg (by simp), if_neg (by omega), if_neg (by omega), if_neg (by omega)]
  refine Prod.ext ?_ (Prod.ext ?_ rfl)
  · simp only [Int.toNat_natCast]
    apply List.ext_getElem
    · rw [seg_length, hl]
    · intro i h1 h2
      simp only [seg, List.getElem_map, List.getElem_range, List.getD]
      rw [List.append_assoc, List.getElem?_append_right (by rw [List.length_append]; omega), List.getElem?_append_left (by rw [List.length_append]; omega)]
      simp only [List.length_append, Nat.add_sub_cancel_left]
      rw [List.getElem?_eq_getElem h2]
      rfl
  · simp only; omega

theorem put_at (a : Option Addr) (len cap : Nat) (xs : List Int) (n : Int) (A : Nat) (hA : len + (num n).length = A) (w : World) (h0 : -9223372036854775808 ≤ n) (h1 : n ≤ 9223372036854775807)
    (hin : In w a len cap xs) (hlen : len ≤ 100000000000) :
    Calls Try.prog 12 #[.slice a len cap, .int .i64 n] w fun e w' => ∃ g c, e = .returned (.slice (some ⟨g, 0, none⟩) A c) ∧ Own w.heap.size w' g A c (xs ++ num n) ∧ Below w.heap.size w w' := by
  subst hA; exact put_own a len cap xs n w h0 h1 hin hlen

theorem putText_at (a : Option Addr) (len cap : Nat) (xs : List Int) (s : ByteArray) (B : Nat) (hB : len + (num s.size).length + s.size = B) (w : World)
    (hin : In w a len cap xs) (hlen : len ≤ 100000000000) (hs : s.size ≤ 100000000000) :
    Calls Try.prog 14 #[.slice a len cap, .string s] w fun e w' => ∃ g c, e = .returned (.slice (some ⟨g, 0, none⟩) B c) ∧ Own w.heap.size w' g B c (xs ++ num s.size ++ sb s) ∧ Below w.heap.size w w' := by
  subst hB; exact putText_own a len cap xs s w hin hlen hs

theorem In.conv {w : World} {a : Option Addr} {n c : Nat} {xs : List Int} (h : In w a n c xs) : (convert 22 9 (.slice a n c)).run Try.prog w = .ok (.string (str xs)) w :=
  run_conv w a n c xs h.1 h.2.1.2.2.2

theorem wrap_small {x : Int} (h0 : -9223372036854775808 ≤ x) (h1 : x ≤ 9223372036854775807) : IntKind.i64.wrap x = x := by
  simp [IntKind.wrap, IntKind.bits, IntKind.signed]; omega

theorem str_cat (xs : List Int) : str xs ++ (⟨#[7, 7, 7, 7]⟩ : ByteArray) = str (xs ++ [7, 7, 7, 7]) := by
  apply ext_list
  rw [str_list, List.map_append, ← str_list]
  simp

set_option maxHeartbeats 1000000 in
theorem walk_in (n : Int) (s : ByteArray) (a2 : Option Addr) (len2 cap2 : Nat) (xs : List Int) (a3 : Option Addr) (len3 cap3 : Nat) (ys : List Int) (w : World)
    (h0 : -9223372036854775808 ≤ n) (h1 : n ≤ 9223372036854775807) (hs : s.size ≤ 300) (hl2 : len2 ≤ 100) (hl3 : len3 ≤ 100)
    (hx : In w a2 len2 cap2 xs) (hy : In w a3 len3 cap3 ys) (hbx : ∀ x ∈ xs, 0 ≤ x ∧ x ≤ 255) (hby : ∀ x ∈ ys, 0 ≤ x ∧ x ≤ 255) :
    Calls Try.prog 4 #[.int .i64 n, .string s, .slice a2 len2 cap2, .slice a3 len3 cap3] w fun e w' => e = .returned (.bool true) ∧ Below w.heap.size w w' := by
  have hs1 : decide ((300 : Int) < s.size) = false := by simp; omega
  have hs2 : decide ((100 : Int) < len2) = false := by simp; omega
  have hs3 : ¬ (100 : Int) < len3 := by omega
  obtain ⟨i0, hi, hz0, hz1, hz2⟩ := info_parts info5
  have HX := hide hx
  have HY := hide hy
  have HB1 := hide hbx
  have HB2 := hide hby
  obtain ⟨A, hA⟩ : ∃ A, len2 + (num n).length = A := ⟨_, rfl⟩
  obtain ⟨B, hB⟩ : ∃ B, len2 + (num s.size).length + s.size = B := ⟨_, rfl⟩
  have hA0 : (len2 : Int) < A := by have := num_pos n; omega
  have hA1 : A ≤ 200 := by have := num_le h0 h1; omega
  have hB0 : (len2 : Int) + 1 + s.size ≤ B := by have := num_pos s.size; omega
  have hB1 : B ≤ 500 := by have := num_le (n := s.size) (by omega) (by omega); omega
  have HA := hide hA
  have HB := hide hB
  have G1 : Hid (got (fun i => (xs ++ num n ++ ys).getD i 0) (A + len3) len2 = (n, (A : Int), 0)) := by
    have := got_back xs ys n h0 h1
    rw [hx.1, hy.1, hA] at this
    exact this
  have G2 : Hid (gotText (fun i => (xs ++ num s.size ++ sb s ++ ys).getD i 0) (B + len3) len2 s.size = (sb s, (B : Int), 0)) := by
    have := text_back xs ys s (by omega)
    rw [hx.1, hy.1, hB] at this
    exact this
  have HBA : Hid (∀ x ∈ xs ++ num n, 0 ≤ x ∧ x ≤ 255) := fun x hx => by
    rcases List.mem_append.1 hx with hx | hx
    · exact hbx x hx
    · exact num_bytes h0 h1 x hx
  have HBB : Hid (∀ x ∈ xs ++ num s.size ++ sb s, 0 ≤ x ∧ x ≤ 255) := fun x hx => by
    rcases List.mem_append.1 hx with hx | hx
    · rcases List.mem_append.1 hx with hx | hx
      · exact hbx x hx
      · exact num_bytes (by omega) (by omega) x hx
    · exact sb_bytes s x hx
  have HB7 : Hid (∀ x ∈ xs ++ num n ++ ys, 0 ≤ x ∧ x ≤ 255) := fun x hx => by
    rcases List.mem_append.1 hx with hx | hx
    · exact HBA.out x hx
    · exact hby x hx
  have HB10 : Hid (∀ x ∈ xs ++ num s.size ++ sb s ++ ys, 0 ≤ x ∧ x ≤ 255) := fun x hx => by
    rcases List.mem_append.1 hx with hx | hx
    · exact HBB.out x hx
    · exact hby x hx
  clear hx hy hbx hby hA hB
  go_enter Try.func4, Try.ntmps4
  go_wp2_with fail
  refine (first_true _).mono ?_
  rintro e w1 ⟨rfl, hb1⟩
  have HX1 := hide (In.carry HX.out hb1)
  have HY1 := hide (In.carry HY.out hb1)
  clear HX HY
  go_wp2_with (first
    | (at_builtin; refine append_in rfl (.tmp 34) (.tmp 35) rfl w1.heap.size _ 0 [] rfl (own_empty w1) _ len2 cap2 xs rfl (In.carry HX1.out (below_alloc w1 _)) (by omega) (by simp) ?_; intro v2 w2 hown2 hgrow2; simp only [Nat.zero_add, List.nil_append] at hown2; have hsz2 := hgrow2.size; simp at hsz2)
    | (at_builtin; refine wpList_append_lies _ rfl (.tmp 36) (.tmp 37) 22 rfl w1.heap.size 5 i0 (.int .u8 0) 1 1 Try.underlying22 hi hz0 hz1 hz2 rfl (by decide) _ _ _ rfl (hown2.alloc _) ⟨w2.heap.size, 0, none⟩ 4 4 [.int .u8 7, .int .u8 7, .int .u8 7, .int .u8 7] rfl rfl ?c1 ?c2 (by decide) ?c3 ?c4 ?c5 (w2.heap.size + 1) ?c6 ?_))
  case c1 => exact World.news_of_block (heap_alloc_new w2 _)
  case c2 => intro u hu; simp at hu; subst hu; rfl
  case c3 => unfold maxLen; omega
  case c4 => omega
  case c5 => simp; omega
  case c6 => simp
  intro g3 c3 w3 hown3 hgrow3 hat3 hlt3
  have hrow3 : w3.ownsRow w1.heap.size 5 1 (.slice (some ⟨g3, 0, none⟩) (len2 + 4) c3) (len2 + 4) ((xs ++ [7, 7, 7, 7]).map (Value.int .u8)) := by simpa using hown3
  have HO3 := own_is hrow3 (by omega)
  have hb3 : Below w1.heap.size w1 w3 := (((below_alloc w1 _).grown hgrow2 (by simp) (fun k hk => by cases hk; exact Nat.le_refl _)).alloc (by omega) _).grown hgrow3 (by simp; omega) (fun k hk => (hown2.lt k hk).1)
  have hcap3 : (len2 : Int) + 4 ≤ c3 := by have := HO3.hcap; omega
  have HOO := hide HO3
  clear HO3 hown3 hrow3 hown2 hgrow2 hgrow3 hat3
  go_wp2_with fail
  refine (put_at _ len2 c3 xs n A HA.out w3 h0 h1 (Own.head HOO.out HX1.out.1 HB1.out) (by omega)).mono ?_
  rintro e w4 ⟨ga, ca, rfl, hoa, hb4⟩
  have HOO4 := hide (HOO.out.below hb4 HOO.out.hlt)
  go_wp2_with fail
  refine (putText_at _ len2 c3 xs s B HB.out w4 (Own.head HOO4.out HX1.out.1 HB1.out) (by omega) (by omega)).mono ?_
  rintro e w5 ⟨gb, cb, rfl, hob, hb5⟩
  have HOO5 := hide (HOO4.out.below hb5 HOO4.out.hlt)
  have HOA := hide (hoa.below hb5 hoa.hlt)
  have HOB := hide hob
  have hz1 := hb1.size
  have hz3 := hb3.size
  have hz4 := hb4.size
  have hz5 := hb5.size
  have hcapa : (A : Int) ≤ ca := by have := hoa.hcap; omega
  have hcapb : (B : Int) ≤ cb := by have := hob.hcap; omega
  have hb15 : Below w1.heap.size w1 w5 := (hb3.trans (hb4.mono (by omega))).trans (hb5.mono (by omega))
  have HX5 := hide (In.carry HX1.out hb15)
  have HY5 := hide (In.carry HY1.out hb15)
  have hcR := fun q => HOO5.out.conv (w5.drewN q) (fun _ => rfl)
  have hcX : ∀ q, (convert 22 9 (.slice a2 len2 cap2)).run Try.prog (w5.drewN q) = .ok (.string (str xs)) (w5.drewN q) := fun q => In.conv (w := w5.drewN q) HX5.out
  have hcat := str_cat xs
  have hcs : (str xs).size ≤ 100 := by rw [str_size, HX1.out.1]; omega
  clear HOO HOO4 hoa hob HX1 HY1
  go_wp2_with fail
  have hw4 : IntKind.i64.wrap ((len2 : Int) + 4) = (len2 : Int) + 4 := wrap_small (by omega) (by omega)
  have hw1 : IntKind.i64.wrap ((len2 : Int) + 1) = (len2 : Int) + 1 := wrap_small (by omega) (by omega)
  have hws : IntKind.i64.wrap ((len2 : Int) + 1 + s.size) = (len2 : Int) + 1 + s.size := wrap_small (by omega) (by omega)
  have htn : ((len2 : Int) + 4).toNat = len2 + 4 := by omega
  have h04 : (0 : Int) ≤ (len2 : Int) + 4 := by omega
  have hAn : ¬ (A : Int) ≤ len2 := by omega
  have hBn : ¬ (B : Int) < (len2 : Int) + 1 + s.size := by omega
  have hcs' : ¬ 9223372036854775807 < (str xs).size + 4 := by omega
  refine wp_region_noPanic ?_
  refine wp_region_held_drew (S := fun w' => (convert 22 9 (.slice (some ⟨g3, 0, none⟩) (len2 + 4) c3)).run Try.prog w' = .ok (.string (str (xs ++ [7, 7, 7, 7]))) w' ∧ (convert 22 9 (.slice a2 len2 cap2)).run Try.prog w' = .ok (.string (str xs)) w') (by kernel_rfl) ⟨hcR 1, hcX 1⟩ (fun hS => ?_)
  refine takeAt (i := 0) (d := some 48) (v := ?v0) rfl (by rfl) (by kernel_rfl) (by kernel_rfl) (by kernel_rfl) (fun _ _ _ h => h) (Or.inl ⟨by rfl, ?y0⟩) hS ?_
  case y0 => intro wx hSw; (go_simp) <;> with_reducible rfl
  simp only [Act.put, List.setIfInBounds_toArray, List.set_cons_zero, List.set_cons_succ]
  refine takeAt (i := 1) (d := some 49) (v := ?v1) rfl (by rfl) (by kernel_rfl) (by kernel_rfl) (by kernel_rfl) (fun _ _ _ h => h) (Or.inl ⟨by rfl, ?y1⟩) hS ?_
  case y1 => intro wx hSw; (go_simp) <;> with_reducible rfl
  simp only [Act.put, List.setIfInBounds_toArray, List.set_cons_zero, List.set_cons_succ]
  refine takeAt (i := 2) (d := some 50) (v := ?v2) rfl (by rfl) (by kernel_rfl) (by kernel_rfl) (by kernel_rfl) (fun _ _ _ h => h) (Or.inl ⟨by rfl, ?y2⟩) hS ?_
  case y2 => intro wx hSw; (go_simp) <;> with_reducible rfl
  simp only [Act.put, List.setIfInBounds_toArray, List.set_cons_zero, List.set_cons_succ]
  refine takeAt (i := 3) (d := some 51) (v := ?v3) rfl (by rfl) (by kernel_rfl) (by kernel_rfl) (by kernel_rfl) (fun _ _ _ h => h) (Or.inl ⟨by rfl, ?y3⟩) hS ?_
  case y3 => intro wx hSw; (go_simp) <;> with_reducible rfl
  simp only [Act.put, List.setIfInBounds_toArray, List.set_cons_zero, List.set_cons_succ]
  refine takeAt (i := 4) (d := some 52) (v := ?v4) rfl (by rfl) (by kernel_rfl) (by kernel_rfl) (by kernel_rfl) (fun _ _ _ h => h) (Or.inl ⟨by rfl, ?y4⟩) hS ?_
  case y4 => intro wx hSw; (go_simp) <;> with_reducible rfl
  simp only [Act.put, List.setIfInBounds_toArray, List.set_cons_zero, List.set_cons_succ]
  refine takeAt (i := 5) (d := some 53) (v := ?v5) rfl (by rfl) (by kernel_rfl) (by kernel_rfl) (by kernel_rfl) (fun _ _ _ h => h) (Or.inl ⟨by rfl, ?y5⟩) hS ?_
  case y5 => intro wx hSw; (go_simp) <;> with_reducible rfl
  simp only [Act.put, List.setIfInBounds_toArray, List.set_cons_zero, List.set_cons_succ]
  refine takeAt (i := 6) (d := some 54) (v := ?v6) rfl (by rfl) (by kernel_rfl) (by kernel_rfl) (by kernel_rfl) (fun _ _ _ h => h) (Or.inl ⟨by rfl, ?y6⟩) hS ?_
  case y6 => intro wx hSw; (go_simp) <;> with_reducible rfl
  simp only [Act.put, List.setIfInBounds_toArray, List.set_cons_zero, List.set_cons_succ]
  refine takeAt (i := 7) (d := some 55) (v := ?v7) rfl (by rfl) (by kernel_rfl) (by kernel_rfl) (by kernel_rfl) (fun _ _ _ h => h) (Or.inl ⟨by rfl, ?y7⟩) hS ?_
  case y7 => intro wx hSw; (go_simp) <;> with_reducible rfl
  simp only [Act.put, List.setIfInBounds_toArray, List.set_cons_zero, List.set_cons_succ]
  refine takeAt (i := 8) (d := some 56) (v := ?v8) rfl (by rfl) (by kernel_rfl) (by kernel_rfl) (by kernel_rfl) (fun _ _ _ h => h) (Or.inl ⟨by rfl, ?y8⟩) hS ?_
  case y8 => intro wx hSw; (go_simp) <;> with_reducible rfl
  simp only [Act.put, List.setIfInBounds_toArray, List.set_cons_zero, List.set_cons_succ]
  refine takeAt (i := 9) (d := some 57) (v := ?v9) rfl (by rfl) (by kernel_rfl) (by kernel_rfl) (by kernel_rfl) (fun _ _ _ h => h) (Or.inl ⟨by rfl, ?y9⟩) hS ?_
  case y9 => intro wx hSw; (go_simp) <;> with_reducible rfl
  simp only [Act.put, List.setIfInBounds_toArray, List.set_cons_zero, List.set_cons_succ]
  refine takeAt (i := 10) (d := some 58) (v := ?v10) rfl (by rfl) (by kernel_rfl) (by kernel_rfl) (by kernel_rfl) (fun _ _ _ h => h) (Or.inl ⟨by rfl, ?y10⟩) hS ?_
  case y10 => intro wx hSw; (go_simp) <;> with_reducible rfl
  simp only [Act.put, List.setIfInBounds_toArray, List.set_cons_zero, List.set_cons_succ]
  refine takeAt (i := 11) (d := some 59) (v := ?v11) rfl (by rfl) (by kernel_rfl) (by kernel_rfl) (by kernel_rfl) (fun _ _ _ h => h) (Or.inl ⟨by rfl, ?y11⟩) hS ?_
  case y11 => intro wx hSw; (go_simp) <;> with_reducible rfl
  simp only [Act.put, List.setIfInBounds_toArray, List.set_cons_zero, List.set_cons_succ]
  refine takeAt (i := 12) (d := some 60) (v := ?v12) rfl (by rfl) (by kernel_rfl) (by kernel_rfl) (by kernel_rfl) (fun _ _ _ h => h) (Or.inl ⟨by rfl, ?y12⟩) hS ?_
  case y12 => intro wx hSw; (go_simp) <;> with_reducible rfl
  simp only [Act.put, List.setIfInBounds_toArray, List.set_cons_zero, List.set_cons_succ]
  refine takeAt (i := 13) (d := some 61) (v := ?v13) rfl (by rfl) (by kernel_rfl) (by kernel_rfl) (by kernel_rfl) (fun _ _ _ h => h) (Or.inl ⟨by rfl, ?y13⟩) hS ?_
  case y13 => intro wx hSw; (go_simp) <;> with_reducible rfl
  simp only [Act.put, List.setIfInBounds_toArray, List.set_cons_zero, List.set_cons_succ]
  refine takeAt (i := 14) (d := some 62) (v := ?v14) rfl (by rfl) (by kernel_rfl) (by kernel_rfl) (by kernel_rfl) (fun _ _ _ h => h) (Or.inl ⟨by rfl, ?y14⟩) hS ?_
  case y14 => intro wx hSw; (go_simp) <;> with_reducible rfl
  simp only [Act.put, List.setIfInBounds_toArray, List.set_cons_zero, List.set_cons_succ]
  refine takeAt (i := 15) (d := some 63) (v := ?v15) rfl (by rfl) (by kernel_rfl) (by kernel_rfl) (by kernel_rfl) (fun _ _ _ h => h) (Or.inl ⟨by rfl, ?y15⟩) hS ?_
  case y15 => intro wx hSw; (go_simp) <;> with_reducible rfl
  simp only [Act.put, List.setIfInBounds_toArray, List.set_cons_zero, List.set_cons_succ]
  refine takeAt (i := 16) (d := some 64) (v := ?v16) rfl (by rfl) (by kernel_rfl) (by kernel_rfl) (by kernel_rfl) (fun _ _ _ h => h) (Or.inl ⟨by rfl, ?y16⟩) hS ?_
  case y16 => intro wx hSw; (go_simp) <;> with_reducible rfl
  simp only [Act.put, List.setIfInBounds_toArray, List.set_cons_zero, List.set_cons_succ]
  refine takeAt (i := 17) (d := some 65) (v := ?v17) rfl (by rfl) (by kernel_rfl) (by kernel_rfl) (by kernel_rfl) (fun _ _ _ h => h) (Or.inl ⟨by rfl, ?y17⟩) hS ?_
  case y17 => intro wx hSw; (go_simp) <;> with_reducible rfl
  simp only [Act.put, List.setIfInBounds_toArray, List.set_cons_zero, List.set_cons_succ]
  refine takeAt (i := 18) (d := some 66) (v := ?v18) rfl (by rfl) (by kernel_rfl) (by kernel_rfl) (by kernel_rfl) (fun _ _ _ h => h) (Or.inl ⟨by rfl, ?y18⟩) hS ?_
  case y18 => intro wx hSw; (go_simp) <;> with_reducible rfl
  simp only [Act.put, List.setIfInBounds_toArray, List.set_cons_zero, List.set_cons_succ]
  refine takeAt (i := 19) (d := some 67) (v := ?v19) rfl (by rfl) (by kernel_rfl) (by kernel_rfl) (by kernel_rfl) (fun _ _ _ h => h) (Or.inl ⟨by rfl, ?y19⟩) hS ?_
  case y19 => intro wx hSw; (go_simp) <;> with_reducible rfl
  simp only [Act.put, List.setIfInBounds_toArray, List.set_cons_zero, List.set_cons_succ]
  refine takeAt (i := 20) (d := some 68) (v := ?v20) rfl (by rfl) (by kernel_rfl) (by kernel_rfl) (by kernel_rfl) (fun _ _ _ h => h) (Or.inl ⟨by rfl, ?y20⟩) hS ?_
  case y20 => intro wx hSw; (go_simp) <;> with_reducible rfl
  simp only [Act.put, List.setIfInBounds_toArray, List.set_cons_zero, List.set_cons_succ]
  refine takeAt (i := 21) (d := some 69) (v := ?v21) rfl (by rfl) (by kernel_rfl) (by kernel_rfl) (by kernel_rfl) (fun _ _ _ h => h) (Or.inl ⟨by rfl, ?y21⟩) hS ?_
  case y21 => intro wx hSw; (go_simp) <;> with_reducible rfl
  simp only [Act.put, List.setIfInBounds_toArray, List.set_cons_zero, List.set_cons_succ]
  refine takeAt (i := 22) (d := some 70) (v := ?v22) rfl (by rfl) (by kernel_rfl) (by kernel_rfl) (by kernel_rfl) (fun _ _ _ h => h) (Or.inl ⟨by rfl, ?y22⟩) hS ?_
  case y22 => intro wx hSw; (go_simp) <;> with_reducible rfl
  simp only [Act.put, List.setIfInBounds_toArray, List.set_cons_zero, List.set_cons_succ]
  refine takeAt (i := 23) (d := some 71) (v := ?v23) rfl (by rfl) (by kernel_rfl) (by kernel_rfl) (by kernel_rfl) (fun _ _ _ h => h) (Or.inl ⟨by rfl, ?y23⟩) hS ?_
  case y23 => intro wx hSw; (go_simp) <;> with_reducible rfl
  simp only [Act.put, List.setIfInBounds_toArray, List.set_cons_zero, List.set_cons_succ]
  refine takeAt (i := 24) (d := some 72) (v := ?v24) rfl (by rfl) (by kernel_rfl) (by kernel_rfl) (by kernel_rfl) (fun _ _ _ h => h) (Or.inl ⟨by rfl, ?y24⟩) hS ?_
  case y24 => intro wx hSw; (go_simp) <;> with_reducible rfl
  simp only [Act.put, List.setIfInBounds_toArray, List.set_cons_zero, List.set_cons_succ]
  refine takeAt (i := 25) (d := some 73) (v := ?v25) rfl (by rfl) (by kernel_rfl) (by kernel_rfl) (by kernel_rfl) (fun _ _ _ h => h) (Or.inl ⟨by rfl, ?y25⟩) hS ?_
  case y25 => intro wx hSw; (go_simp) <;> with_reducible rfl
  simp only [Act.put, List.setIfInBounds_toArray, List.set_cons_zero, List.set_cons_succ]
  refine takeAt (i := 26) (d := some 74) (v := ?v26) rfl (by rfl) (by kernel_rfl) (by kernel_rfl) (by kernel_rfl) (fun _ _ _ h => h) (Or.inl ⟨by rfl, ?y26⟩) hS ?_
  case y26 => intro wx hSw; (go_simp) <;> with_reducible rfl
  simp only [Act.put, List.setIfInBounds_toArray, List.set_cons_zero, List.set_cons_succ]
  refine takeAt (i := 27) (d := some 75) (v := ?v27) rfl (by rfl) (by kernel_rfl) (by kernel_rfl) (by kernel_rfl) (fun _ _ _ h => h) (Or.inl ⟨by rfl, ?y27⟩) hS ?_
  case y27 => intro wx hSw; (go_simp) <;> with_reducible rfl
  simp only [Act.put, List.setIfInBounds_toArray, List.set_cons_zero, List.set_cons_succ]
  refine wpAnyH_done (by kernel_rfl) ?_ _
  refine NoPanic.normal ?_
  clear hS hcat hw4 hw1 hws htn h04 hcs hcs' hcR hcX HOO5
  go_wp2_with (first
    | (at_builtin; refine append_lies rfl (.tmp 77) (.tmp 78) rfl w5.heap.size _ 0 [] rfl (by exact (own_empty w5).drew) _ A ca (xs ++ num n) rfl (by exact In.carry (w := w5) (Own.whole HOA.out HBA.out) ((below_alloc w5 _).drew)) (by omega) (by simp) (by omega) ?_; intro g6 c6 w6 hown6 hb6; simp only [Nat.zero_add, List.nil_append] at hown6; have hz6 := hb6.size; simp at hz6)
    | (at_builtin; refine append_lies rfl (.tmp 79) (.tmp 80) rfl w5.heap.size _ A (xs ++ num n) rfl hown6 _ len3 cap3 ys rfl (by exact In.carry (w := w5) HY5.out (((below_alloc w5 _).drew).trans hb6)) (by omega) (by omega) (by omega) ?_; intro g7 c7 w7 hown7 hb7))
  have HO7 := hide (own_is hown7 (by omega))
  have hz7 := hb7.size
  have hb57 : Below w5.heap.size w5 w7 := (((below_alloc w5 _).drew).trans hb6).trans hb7
  clear hown6 hown7 hb6 hb7
  go_wp2_with fail
  refine (get_is _ (A + len3) c7 len2 _ _ (by exact HO7.out.reads HB7.out) n A 0 G1.out).mono ?_
  rintro e w8 ⟨rfl, q8, rfl⟩
  go_wp2_with (first
    | (at_builtin; refine append_lies rfl (.tmp 89) (.tmp 90) rfl w7.heap.size _ 0 [] rfl (by exact own_empty_q w7 q8) _ B cb (xs ++ num s.size ++ sb s) rfl (by exact In.carry (w := w7) (Own.whole (HOB.out.below hb57 HOB.out.hlt) HBB.out) (below_alloc_q w7 _ q8)) (by omega) (by simp) (by omega) ?_; intro g9 c9 w9 hown9 hb9; simp only [Nat.zero_add, List.nil_append] at hown9; have hz9 := hb9.size; simp at hz9)
    | (at_builtin; refine append_lies rfl (.tmp 91) (.tmp 92) rfl w7.heap.size _ B (xs ++ num s.size ++ sb s) rfl hown9 _ len3 cap3 ys rfl (by exact In.carry (w := w7) (In.carry HY5.out hb57) ((below_alloc_q w7 _ q8).trans hb9)) (by omega) (by omega) (by omega) ?_; intro g10 c10 w10 hown10 hb10))
  have HO10 := hide (own_is hown10 (by omega))
  have hz10 := hb10.size
  have hb710 : Below w7.heap.size w7 w10 := ((below_alloc_q w7 _ q8).trans hb9).trans hb10
  have hb510 : Below w5.heap.size w5 w10 := hb57.trans (hb710.mono hb57.size)
  clear hown9 hown10 hb9 hb10
  go_wp2_with fail
  refine (text_is _ (B + len3) c10 len2 s.size _ _ (by exact HO10.out.reads HB10.out) (sb s) B 0 G2.out).mono ?_
  rw [str_sb]
  rintro e w11 ⟨rfl, q11, rfl⟩
  have hiA := Own.head (HOA.out.below hb510 HOA.out.hlt) HX5.out.1 HB1.out
  have hiX := In.carry HX5.out hb510
  have hcA := fun q => In.conv (w := w10.drewN q) hiA
  have hcX := fun q => In.conv (w := w10.drewN q) hiX
  clear hiA hiX
  go_wp2_with fail
  have hle : (len2 : Int) ≤ ca := by omega
  refine wp_region_noPanic ?_
  refine wp_region_held_drew (S := fun w' => (convert 22 9 (.slice (some ⟨ga, 0, none⟩) len2 ca)).run Try.prog w' = .ok (.string (str xs)) w' ∧ (convert 22 9 (.slice a2 len2 cap2)).run Try.prog w' = .ok (.string (str xs)) w') (by kernel_rfl) ⟨hcA (q11 + 1), hcX (q11 + 1)⟩ (fun hS => ?_)
  refine takeAt (i := 0) (d := some 102) (v := ?vb0) rfl (by rfl) (by kernel_rfl) (by kernel_rfl) (by kernel_rfl) (fun _ _ _ h => h) (Or.inl ⟨by rfl, ?yb0⟩) hS ?_
  case yb0 => intro wx hSw; (go_simp) <;> with_reducible rfl
  simp only [Act.put, List.setIfInBounds_toArray, List.set_cons_zero, List.set_cons_succ]
  refine takeAt (i := 1) (d := some 103) (v := ?vb1) rfl (by rfl) (by kernel_rfl) (by kernel_rfl) (by kernel_rfl) (fun _ _ _ h => h) (Or.inl ⟨by rfl, ?yb1⟩) hS ?_
  case yb1 => intro wx hSw; (go_simp) <;> with_reducible rfl
  simp only [Act.put, List.setIfInBounds_toArray, List.set_cons_zero, List.set_cons_succ]
  refine takeAt (i := 2) (d := some 104) (v := ?vb2) rfl (by rfl) (by kernel_rfl) (by kernel_rfl) (by kernel_rfl) (fun _ _ _ h => h) (Or.inl ⟨by rfl, ?yb2⟩) hS ?_
  case yb2 => intro wx hSw; (go_simp) <;> with_reducible rfl
  simp only [Act.put, List.setIfInBounds_toArray, List.set_cons_zero, List.set_cons_succ]
  refine takeAt (i := 3) (d := some 105) (v := ?vb3) rfl (by rfl) (by kernel_rfl) (by kernel_rfl) (by kernel_rfl) (fun _ _ _ h => h) (Or.inl ⟨by rfl, ?yb3⟩) hS ?_
  case yb3 => intro wx hSw; (go_simp) <;> with_reducible rfl
  simp only [Act.put, List.setIfInBounds_toArray, List.set_cons_zero, List.set_cons_succ]
  refine takeAt (i := 4) (d := some 106) (v := ?vb4) rfl (by rfl) (by kernel_rfl) (by kernel_rfl) (by kernel_rfl) (fun _ _ _ h => h) (Or.inl ⟨by rfl, ?yb4⟩) hS ?_
  case yb4 => intro wx hSw; (go_simp) <;> with_reducible rfl
  simp only [Act.put, List.setIfInBounds_toArray, List.set_cons_zero, List.set_cons_succ]
  refine takeAt (i := 5) (d := some 107) (v := ?vb5) rfl (by rfl) (by kernel_rfl) (by kernel_rfl) (by kernel_rfl) (fun _ _ _ h => h) (Or.inl ⟨by rfl, ?yb5⟩) hS ?_
  case yb5 => intro wx hSw; (go_simp) <;> with_reducible rfl
  simp only [Act.put, List.setIfInBounds_toArray, List.set_cons_zero, List.set_cons_succ]
  refine takeAt (i := 6) (d := some 108) (v := ?vb6) rfl (by rfl) (by kernel_rfl) (by kernel_rfl) (by kernel_rfl) (fun _ _ _ h => h) (Or.inl ⟨by rfl, ?yb6⟩) hS ?_
  case yb6 => intro wx hSw; (go_simp) <;> with_reducible rfl
  simp only [Act.put, List.setIfInBounds_toArray, List.set_cons_zero, List.set_cons_succ]
  refine takeAt (i := 7) (d := some 109) (v := ?vb7) rfl (by rfl) (by kernel_rfl) (by kernel_rfl) (by kernel_rfl) (fun _ _ _ h => h) (Or.inl ⟨by rfl, ?yb7⟩) hS ?_
  case yb7 => intro wx hSw; (go_simp) <;> with_reducible rfl
  simp only [Act.put, List.setIfInBounds_toArray, List.set_cons_zero, List.set_cons_succ]
  refine takeAt (i := 8) (d := some 110) (v := ?vb8) rfl (by rfl) (by kernel_rfl) (by kernel_rfl) (by kernel_rfl) (fun _ _ _ h => h) (Or.inl ⟨by rfl, ?yb8⟩) hS ?_
  case yb8 => intro wx hSw; (go_simp) <;> with_reducible rfl
  simp only [Act.put, List.setIfInBounds_toArray, List.set_cons_zero, List.set_cons_succ]
  refine takeAt (i := 9) (d := some 111) (v := ?vb9) rfl (by rfl) (by kernel_rfl) (by kernel_rfl) (by kernel_rfl) (fun _ _ _ h => h) (Or.inl ⟨by rfl, ?yb9⟩) hS ?_
  case yb9 => intro wx hSw; (go_simp) <;> with_reducible rfl
  simp only [Act.put, List.setIfInBounds_toArray, List.set_cons_zero, List.set_cons_succ]
  refine takeAt (i := 10) (d := some 112) (v := ?vb10) rfl (by rfl) (by kernel_rfl) (by kernel_rfl) (by kernel_rfl) (fun _ _ _ h => h) (Or.inl ⟨by rfl, ?yb10⟩) hS ?_
  case yb10 => intro wx hSw; (go_simp) <;> with_reducible rfl
  simp only [Act.put, List.setIfInBounds_toArray, List.set_cons_zero, List.set_cons_succ]
  refine takeAt (i := 11) (d := some 113) (v := ?vb11) rfl (by rfl) (by kernel_rfl) (by kernel_rfl) (by kernel_rfl) (fun _ _ _ h => h) (Or.inl ⟨by rfl, ?yb11⟩) hS ?_
  case yb11 => intro wx hSw; (go_simp) <;> with_reducible rfl
  simp only [Act.put, List.setIfInBounds_toArray, List.set_cons_zero, List.set_cons_succ]
  refine takeAt (i := 12) (d := some 114) (v := ?vb12) rfl (by rfl) (by kernel_rfl) (by kernel_rfl) (by kernel_rfl) (fun _ _ _ h => h) (Or.inl ⟨by rfl, ?yb12⟩) hS ?_
  case yb12 => intro wx hSw; (go_simp) <;> with_reducible rfl
  simp only [Act.put, List.setIfInBounds_toArray, List.set_cons_zero, List.set_cons_succ]
  refine takeAt (i := 13) (d := some 115) (v := ?vb13) rfl (by rfl) (by kernel_rfl) (by kernel_rfl) (by kernel_rfl) (fun _ _ _ h => h) (Or.inl ⟨by rfl, ?yb13⟩) hS ?_
  case yb13 => intro wx hSw; (go_simp) <;> with_reducible rfl
  simp only [Act.put, List.setIfInBounds_toArray, List.set_cons_zero, List.set_cons_succ]
  refine takeAt (i := 14) (d := some 116) (v := ?vb14) rfl (by rfl) (by kernel_rfl) (by kernel_rfl) (by kernel_rfl) (fun _ _ _ h => h) (Or.inl ⟨by rfl, ?yb14⟩) hS ?_
  case yb14 => intro wx hSw; (go_simp) <;> with_reducible rfl
  simp only [Act.put, List.setIfInBounds_toArray, List.set_cons_zero, List.set_cons_succ]
  refine takeAt (i := 15) (d := some 117) (v := ?vb15) rfl (by rfl) (by kernel_rfl) (by kernel_rfl) (by kernel_rfl) (fun _ _ _ h => h) (Or.inl ⟨by rfl, ?yb15⟩) hS ?_
  case yb15 => intro wx hSw; (go_simp) <;> with_reducible rfl
  simp only [Act.put, List.setIfInBounds_toArray, List.set_cons_zero, List.set_cons_succ]
  refine takeAt (i := 16) (d := some 118) (v := ?vb16) rfl (by rfl) (by kernel_rfl) (by kernel_rfl) (by kernel_rfl) (fun _ _ _ h => h) (Or.inl ⟨by rfl, ?yb16⟩) hS ?_
  case yb16 => intro wx hSw; (go_simp) <;> with_reducible rfl
  simp only [Act.put, List.setIfInBounds_toArray, List.set_cons_zero, List.set_cons_succ]
  refine takeAt (i := 17) (d := some 119) (v := ?vb17) rfl (by rfl) (by kernel_rfl) (by kernel_rfl) (by kernel_rfl) (fun _ _ _ h => h) (Or.inl ⟨by rfl, ?yb17⟩) hS ?_
  case yb17 => intro wx hSw; (go_simp) <;> with_reducible rfl
  simp only [Act.put, List.setIfInBounds_toArray, List.set_cons_zero, List.set_cons_succ]
  refine takeAt (i := 18) (d := some 120) (v := ?vb18) rfl (by rfl) (by kernel_rfl) (by kernel_rfl) (by kernel_rfl) (fun _ _ _ h => h) (Or.inl ⟨by rfl, ?yb18⟩) hS ?_
  case yb18 => intro wx hSw; (go_simp) <;> with_reducible rfl
  simp only [Act.put, List.setIfInBounds_toArray, List.set_cons_zero, List.set_cons_succ]
  refine takeAt (i := 19) (d := some 121) (v := ?vb19) rfl (by rfl) (by kernel_rfl) (by kernel_rfl) (by kernel_rfl) (fun _ _ _ h => h) (Or.inl ⟨by rfl, ?yb19⟩) hS ?_
  case yb19 => intro wx hSw; (go_simp) <;> with_reducible rfl
  simp only [Act.put, List.setIfInBounds_toArray, List.set_cons_zero, List.set_cons_succ]
  refine takeAt (i := 20) (d := some 122) (v := ?vb20) rfl (by rfl) (by kernel_rfl) (by kernel_rfl) (by kernel_rfl) (fun _ _ _ h => h) (Or.inl ⟨by rfl, ?yb20⟩) hS ?_
  case yb20 => intro wx hSw; (go_simp) <;> with_reducible rfl
  simp only [Act.put, List.setIfInBounds_toArray, List.set_cons_zero, List.set_cons_succ]
  refine takeAt (i := 21) (d := some 123) (v := ?vb21) rfl (by rfl) (by kernel_rfl) (by kernel_rfl) (by kernel_rfl) (fun _ _ _ h => h) (Or.inl ⟨by rfl, ?yb21⟩) hS ?_
  case yb21 => intro wx hSw; (go_simp) <;> with_reducible rfl
  simp only [Act.put, List.setIfInBounds_toArray, List.set_cons_zero, List.set_cons_succ]
  refine takeAt (i := 22) (d := some 124) (v := ?vb22) rfl (by rfl) (by kernel_rfl) (by kernel_rfl) (by kernel_rfl) (fun _ _ _ h => h) (Or.inl ⟨by rfl, ?yb22⟩) hS ?_
  case yb22 => intro wx hSw; (go_simp) <;> with_reducible rfl
  simp only [Act.put, List.setIfInBounds_toArray, List.set_cons_zero, List.set_cons_succ]
  refine takeAt (i := 23) (d := some 125) (v := ?vb23) rfl (by rfl) (by kernel_rfl) (by kernel_rfl) (by kernel_rfl) (fun _ _ _ h => h) (Or.inl ⟨by rfl, ?yb23⟩) hS ?_
  case yb23 => intro wx hSw; (go_simp) <;> with_reducible rfl
  simp only [Act.put, List.setIfInBounds_toArray, List.set_cons_zero, List.set_cons_succ]
  refine takeAt (i := 24) (d := some 126) (v := ?vb24) rfl (by rfl) (by kernel_rfl) (by kernel_rfl) (by kernel_rfl) (fun _ _ _ h => h) (Or.inl ⟨by rfl, ?yb24⟩) hS ?_
  case yb24 => intro wx hSw; (go_simp) <;> with_reducible rfl
  simp only [Act.put, List.setIfInBounds_toArray, List.set_cons_zero, List.set_cons_succ]
  refine takeAt (i := 25) (d := some 127) (v := ?vb25) rfl (by rfl) (by kernel_rfl) (by kernel_rfl) (by kernel_rfl) (fun _ _ _ h => h) (Or.inl ⟨by rfl, ?yb25⟩) hS ?_
  case yb25 => intro wx hSw; (go_simp) <;> with_reducible rfl
  simp only [Act.put, List.setIfInBounds_toArray, List.set_cons_zero, List.set_cons_succ]
  refine takeAt (i := 26) (d := some 128) (v := ?vb26) rfl (by rfl) (by kernel_rfl) (by kernel_rfl) (by kernel_rfl) (fun _ _ _ h => h) (Or.inl ⟨by rfl, ?yb26⟩) hS ?_
  case yb26 => intro wx hSw; (go_simp) <;> with_reducible rfl
  simp only [Act.put, List.setIfInBounds_toArray, List.set_cons_zero, List.set_cons_succ]
  refine takeAt (i := 27) (d := some 129) (v := ?vb27) rfl (by rfl) (by kernel_rfl) (by kernel_rfl) (by kernel_rfl) (fun _ _ _ h => h) (Or.inl ⟨by rfl, ?yb27⟩) hS ?_
  case yb27 => intro wx hSw; (go_simp) <;> with_reducible rfl
  simp only [Act.put, List.setIfInBounds_toArray, List.set_cons_zero, List.set_cons_succ]
  refine takeAt (i := 28) (d := some 130) (v := ?vb28) rfl (by rfl) (by kernel_rfl) (by kernel_rfl) (by kernel_rfl) (fun _ _ _ h => h) (Or.inl ⟨by rfl, ?yb28⟩) hS ?_
  case yb28 => intro wx hSw; (go_simp) <;> with_reducible rfl
  simp only [Act.put, List.setIfInBounds_toArray, List.set_cons_zero, List.set_cons_succ]
  refine takeAt (i := 29) (d := some 131) (v := ?vb29) rfl (by rfl) (by kernel_rfl) (by kernel_rfl) (by kernel_rfl) (fun _ _ _ h => h) (Or.inl ⟨by rfl, ?yb29⟩) hS ?_
  case yb29 => intro wx hSw; (go_simp) <;> with_reducible rfl
  simp only [Act.put, List.setIfInBounds_toArray, List.set_cons_zero, List.set_cons_succ]
  refine takeAt (i := 30) (d := some 132) (v := ?vb30) rfl (by rfl) (by kernel_rfl) (by kernel_rfl) (by kernel_rfl) (fun _ _ _ h => h) (Or.inl ⟨by rfl, ?yb30⟩) hS ?_
  case yb30 => intro wx hSw; (go_simp) <;> with_reducible rfl
  simp only [Act.put, List.setIfInBounds_toArray, List.set_cons_zero, List.set_cons_succ]
  refine takeAt (i := 31) (d := some 133) (v := ?vb31) rfl (by rfl) (by kernel_rfl) (by kernel_rfl) (by kernel_rfl) (fun _ _ _ h => h) (Or.inl ⟨by rfl, ?yb31⟩) hS ?_
  case yb31 => intro wx hSw; (go_simp) <;> with_reducible rfl
  simp only [Act.put, List.setIfInBounds_toArray, List.set_cons_zero, List.set_cons_succ]
  refine takeAt (i := 32) (d := some 134) (v := ?vb32) rfl (by rfl) (by kernel_rfl) (by kernel_rfl) (by kernel_rfl) (fun _ _ _ h => h) (Or.inl ⟨by rfl, ?yb32⟩) hS ?_
  case yb32 => intro wx hSw; (go_simp) <;> with_reducible rfl
  simp only [Act.put, List.setIfInBounds_toArray, List.set_cons_zero, List.set_cons_succ]
  refine takeAt (i := 33) (d := some 135) (v := ?vb33) rfl (by rfl) (by kernel_rfl) (by kernel_rfl) (by kernel_rfl) (fun _ _ _ h => h) (Or.inl ⟨by rfl, ?yb33⟩) hS ?_
  case yb33 => intro wx hSw; (go_simp) <;> with_reducible rfl
  simp only [Act.put, List.setIfInBounds_toArray, List.set_cons_zero, List.set_cons_succ]
  refine takeAt (i := 34) (d := some 136) (v := ?vb34) rfl (by rfl) (by kernel_rfl) (by kernel_rfl) (by kernel_rfl) (fun _ _ _ h => h) (Or.inl ⟨by rfl, ?yb34⟩) hS ?_
  case yb34 => intro wx hSw; (go_simp) <;> with_reducible rfl
  simp only [Act.put, List.setIfInBounds_toArray, List.set_cons_zero, List.set_cons_succ]
  refine takeAt (i := 35) (d := some 137) (v := ?vb35) rfl (by rfl) (by kernel_rfl) (by kernel_rfl) (by kernel_rfl) (fun _ _ _ h => h) (Or.inl ⟨by rfl, ?yb35⟩) hS ?_
  case yb35 => intro wx hSw; (go_simp) <;> with_reducible rfl
  simp only [Act.put, List.setIfInBounds_toArray, List.set_cons_zero, List.set_cons_succ]
  refine takeAt (i := 36) (d := some 138) (v := ?vb36) rfl (by rfl) (by kernel_rfl) (by kernel_rfl) (by kernel_rfl) (fun _ _ _ h => h) (Or.inl ⟨by rfl, ?yb36⟩) hS ?_
  case yb36 => intro wx hSw; (go_simp) <;> with_reducible rfl
  simp only [Act.put, List.setIfInBounds_toArray, List.set_cons_zero, List.set_cons_succ]
  refine takeAt (i := 37) (d := some 139) (v := ?vb37) rfl (by rfl) (by kernel_rfl) (by kernel_rfl) (by kernel_rfl) (fun _ _ _ h => h) (Or.inl ⟨by rfl, ?yb37⟩) hS ?_
  case yb37 => intro wx hSw; (go_simp) <;> with_reducible rfl
  simp only [Act.put, List.setIfInBounds_toArray, List.set_cons_zero, List.set_cons_succ]
  refine takeAt (i := 38) (d := some 8) (v := ?vb38) rfl (by rfl) (by kernel_rfl) (by kernel_rfl) (by kernel_rfl) (fun _ _ _ h => h) (Or.inl ⟨by rfl, ?yb38⟩) hS ?_
  case yb38 => intro wx hSw; (go_simp) <;> with_reducible rfl
  simp only [Act.put, List.setIfInBounds_toArray, List.set_cons_zero, List.set_cons_succ]
  refine wpAnyH_done (by kernel_rfl) ?_ _
  refine NoPanic.normal ?_
  go_wp2_with fail
  go_ret
  refine ⟨rfl, ?_⟩
  have hbb : Below w.heap.size w w10 := (hb1.trans (hb15.mono hz1)).trans (hb510.mono (by omega))
  exact below_drewN hbb (q11 + 1)

theorem walk_long1 (n : Int) (s : ByteArray) (a2 : Option Addr) (len2 cap2 : Nat) (a3 : Option Addr) (len3 cap3 : Nat) (w : World) (h : (300 : Int) < s.size) :
    Calls Try.prog 4 #[.int .i64 n, .string s, .slice a2 len2 cap2, .slice a3 len3 cap3] w fun e w' => e = .returned (.bool true) ∧ Below w.heap.size w w' := by
  go_enter Try.func4, Try.ntmps4
  go_wp2_with fail
  refine (first_true _).mono ?_
  rintro e w1 ⟨rfl, hb1⟩
  go_wp2_with fail
  refine (first_true _).mono ?_
  rintro e w2 ⟨rfl, hb2⟩
  go_wp2_with fail
  go_ret
  exact ⟨rfl, hb1.trans (hb2.mono hb1.size)⟩

theorem walk_long2 (n : Int) (s : ByteArray) (a2 : Option Addr) (len2 cap2 : Nat) (a3 : Option Addr) (len3 cap3 : Nat) (w : World) (h0 : decide ((300 : Int) < s.size) = false) (h : (100 : Int) < len2) :
    Calls Try.prog 4 #[.int .i64 n, .string s, .slice a2 len2 cap2, .slice a3 len3 cap3] w fun e w' => e = .returned (.bool true) ∧ Below w.heap.size w w' := by
  go_enter Try.func4, Try.ntmps4
  go_wp2_with fail
  refine (first_true _).mono ?_
  rintro e w1 ⟨rfl, hb1⟩
  go_wp2_with fail
  refine (first_true _).mono ?_
  rintro e w2 ⟨rfl, hb2⟩
  go_wp2_with fail
  go_ret
  exact ⟨rfl, hb1.trans (hb2.mono hb1.size)⟩

theorem walk_long3 (n : Int) (s : ByteArray) (a2 : Option Addr) (len2 cap2 : Nat) (a3 : Option Addr) (len3 cap3 : Nat) (w : World) (h0 : decide ((300 : Int) < s.size) = false) (h1 : decide ((100 : Int) < len2) = false) (h : (100 : Int) < len3) :
    Calls Try.prog 4 #[.int .i64 n, .string s, .slice a2 len2 cap2, .slice a3 len3 cap3] w fun e w' => e = .returned (.bool true) ∧ Below w.heap.size w w' := by
  go_enter Try.func4, Try.ntmps4
  go_wp2_with fail
  refine (first_true _).mono ?_
  rintro e w1 ⟨rfl, hb1⟩
  go_wp2_with fail
  refine (first_true _).mono ?_
  rintro e w2 ⟨rfl, hb2⟩
  go_wp2_with fail
  go_ret
  exact ⟨rfl, hb1.trans (hb2.mono hb1.size)⟩

theorem walk (a0 : Int) (a1 : ByteArray) (a2 : Option Addr) (len2 cap2 : Nat) (z2 : List Int) (a3 : Option Addr) (len3 cap3 : Nat) (z3 : List Int) (w : World) (w0 : (Lit.int .i64 a0).wf = true) (w1 : a1.size ≤ maxLen) (w2 : IsRow .u8 w a2 len2 cap2 z2) (w3 : IsRow .u8 w a3 len3 cap3 z3) :
    Calls Try.prog 4 #[.int .i64 a0, .string a1, .slice a2 len2 cap2, .slice a3 len3 cap3] w fun e w' => e = .returned (.bool true) ∧ Below w.heap.size w w' := by
  have b0 := bounds_i64 w0
  obtain ⟨xs, hx, hbx⟩ := row_in w2
  obtain ⟨ys, hy, hby⟩ := row_in w3
  by_cases hs : (300 : Int) < a1.size
  · exact walk_long1 a0 a1 a2 len2 cap2 a3 len3 cap3 w hs
  by_cases h2 : (100 : Int) < len2
  · exact walk_long2 a0 a1 a2 len2 cap2 a3 len3 cap3 w (by simpa using hs) h2
  by_cases h3 : (100 : Int) < len3
  · exact walk_long3 a0 a1 a2 len2 cap2 a3 len3 cap3 w (by simpa using hs) (by simpa using h2) h3
  exact walk_in a0 a1 a2 len2 cap2 xs a3 len3 cap3 ys w b0.1 b0.2 (by omega) (by omega) (by omega) hx hy hbx hby

set_option maxRecDepth 100000 in
theorem lifted (os : Os) (started : os.Started) (H : Type) (enc : TypeId × Value → H) :
    ReturnsInHanded {} Try.checked os 4 .any (Rows.wireBackSpec.pre6 enc Try.prog Try.f4 Rows.wireBackRow.domain false) (Rows.wireBackSpec.post enc Try.prog Try.f4 false true false false) := by
  refine returnsInHanded_of_change (C := Try.checked) own started (by kernel_rfl) Try.func4
    (ChangeSpec.witness6 (enc := enc) (C := Try.checked) false ⟨#[], #[.int .i64 0, .string ByteArray.empty, .slice none 0 0, .slice none 0 0], []⟩ 8 (by kernel_rfl) (by kernel_rfl) (by kernel_rfl) (by kernel_rfl)) ?_
  intro W base args ds gs before hval0 hW hcnd _
  have hval : ∀ (j : Nat) t v, Try.f4.params[j]? = some t → args[j]? = some v → Value.okWide Try.prog W .any base t v := hval0
  have hW' := hW
  obtain ⟨p, q, hA0, hV, rfl, hfz, hnd⟩ := hW
  have hA : DataW.TrodAll enc Try.prog W 0 (fun _ => true) true Try.f4.params.toList args.toList ds p := hA0
  rw [Try.params4] at hA hval
  obtain ⟨v0, vs0, d0, ds0, p0, q0, hargs, rfl, rfl, h0, r0⟩ := trodAll_cons hA
  obtain ⟨v1, vs1, d1, ds1, p1, q1, rfl, rfl, rfl, h1, r1⟩ := trodAll_cons r0
  obtain ⟨v2, vs2, d2, ds2, p2, q2, rfl, rfl, rfl, h2, r2⟩ := trodAll_cons r1
  obtain ⟨v3, vs3, d3, ds3, p3, q3, rfl, rfl, rfl, h3, r3⟩ := trodAll_cons r2
  obtain ⟨rfl, rfl, rfl⟩ := trodAll_nil r3
  obtain rfl : args = #[v0, v1, v2, v3] := by cases args; simp_all
  obtain ⟨rfl, rfl⟩ := trodVars_none hV
  obtain ⟨a0, rfl, rfl, rfl, w0⟩ := open_int Try.underlying2 (hval 0 2 v0 rfl rfl) h0
  obtain ⟨a1, rfl, rfl, rfl, w1⟩ := open_string Try.underlying9 (hval 1 9 v1 rfl rfl) h1
  obtain ⟨a2, len2, cap2, rfl⟩ := okWide_slice Try.underlying22 (hval 2 22 v2 rfl rfl)
  have k2 := h2
  have lt2 : ∀ x ∈ p2, x.block < W.heap.size := by obtain ⟨m, hm⟩ := k2; exact DataW.trod_lt m _ _ _ hm
  obtain ⟨z2, w2⟩ : ∃ zs, IsRow .u8 W a2 len2 cap2 zs := by
    obtain ⟨fuel, hf⟩ := h2
    rcases open_ints Try.underlying22 Try.underlying5 (by kernel_rfl) hf with ⟨hcs, _⟩ | ⟨x, l, c, zs, hcs, _, hl, hm, hz, _, hcell, hwz⟩
    · simp [Value.cells] at hcs
      obtain ⟨rfl, rfl, rfl⟩ := hcs
      exact ⟨[], .inl ⟨rfl, rfl, rfl, rfl⟩⟩
    · simp [Value.cells] at hcs
      obtain ⟨rfl, rfl, rfl⟩ := hcs
      exact ⟨zs, .inr ⟨_, rfl, hl, hm, by simpa using hz, hcell, hwz⟩⟩
  obtain ⟨a3, len3, cap3, rfl⟩ := okWide_slice Try.underlying22 (hval 3 22 v3 rfl rfl)
  have k3 := h3
  have lt3 : ∀ x ∈ p3, x.block < W.heap.size := by obtain ⟨m, hm⟩ := k3; exact DataW.trod_lt m _ _ _ hm
  obtain ⟨z3, w3⟩ : ∃ zs, IsRow .u8 W a3 len3 cap3 zs := by
    obtain ⟨fuel, hf⟩ := h3
    rcases open_ints Try.underlying22 Try.underlying5 (by kernel_rfl) hf with ⟨hcs, _⟩ | ⟨x, l, c, zs, hcs, _, hl, hm, hz, _, hcell, hwz⟩
    · simp [Value.cells] at hcs
      obtain ⟨rfl, rfl, rfl⟩ := hcs
      exact ⟨[], .inl ⟨rfl, rfl, rfl, rfl⟩⟩
    · simp [Value.cells] at hcs
      obtain ⟨rfl, rfl, rfl⟩ := hcs
      exact ⟨zs, .inr ⟨_, rfl, hl, hm, by simpa using hz, hcell, hwz⟩⟩
  clear hA0 hval0
  refine (walk a0 a1 a2 len2 cap2 z2 a3 len3 cap3 z3 W w0 w1 w2 w3).mono fun e W' ⟨he, bel⟩ => ?_
  subst he
  exact ⟨_, rfl, _, _, _, [], _, [], hW', trodAll_mk1 (shut_bool Try.underlying4 _), (trodAll_cons_mk (shut_int Try.underlying2 w0) (trodAll_cons_mk (shut_string Try.underlying9 w1) (trodAll_cons_mk (Below.trod laidOut (by kernel_rfl) (of_decide_eq_true (by kernel_rfl)) k2 bel lt2) (trodAll_cons_mk (Below.trod laidOut (by kernel_rfl) (of_decide_eq_true (by kernel_rfl)) k3 bel lt3) trodAll_mk0)))), rfl, bel.frame _, fun h => by cases h⟩

theorem over : Rows.wireBackRow.holds Try.pinned (OpenSpec.ofChange Rows.wireBackSpec) :=
  OpenClaim.holds_of_wide 4 Try.f4 rfl rfl rfl rfl rfl rfl rfl ⟨rfl, rfl, rfl, rfl, rfl⟩ rfl rfl rfl rfl rfl (by kernel_rfl) Try.func4 (by kernel_rfl)
    (of_decide_eq_true (by kernel_rfl)) (by unfold Func.isWrapper; first | (rw [if_pos (by decide +kernel)]; kernel_rfl) | (rw [if_neg (by decide +kernel)]; exact ⟨rfl, rfl⟩))
    (fun os started H enc _ => lifted os started H enc)

theorem proved : Rows.WireBackSaid := over
#print axioms proved
end Go.Proofs.Ytiepgocbgjdhpaa.wireBack
