/-
  What wire.Put and wire.PutText answer, the value written out; that plnlaw2.first answers true.
-/
import Derived.Test.YtiepgocbgjdhpaaProg
import Derived.Test.YtiepgocbgjdhpaaPut
import Derived.Test.YtiepgocbgjdhpaaText
import Derived.WalkKit
import Derived.ProofKit
import Derived.WalkSpells
import Derived.Deep.Light
import Derived.WalkSmall
namespace Go.Proofs.Ytiepgocbgjdhpaa.First
open Go.RowKit Plain Get Cv Put GetText

set_option linter.unusedVariables false

/-- A row of bytes that the call has made: where it lies, what it holds. -/
structure Own (base : Nat) (w : World) (g n cap : Nat) (xs : List Int) : Prop where
  hlen : xs.length = n
  hcap : n ≤ cap
  hmost : cap ≤ maxLen
  hfrom : base ≤ g
  hlt : g < w.heap.size
  hcell : ∀ i, i < n → w.cell? ⟨g, i, none⟩ = some (.int .u8 (xs.getD i 0))

theorem own_of {base : Nat} {w : World} {v : Value} {n : Nat} {xs : List Int} (h : w.ownsRow base 5 1 v n (xs.map (Value.int .u8))) (hn : 0 < n) :
    ∃ g cap, v = .slice (some ⟨g, 0, none⟩) n cap ∧ Own base w g n cap xs := by
  obtain ⟨g, cap, rfl, hb, hg⟩ := h.form hn
  have hl : xs.length = n := by have := h.1; simpa using this
  refine ⟨g, cap, rfl, hl, ?_, ?_, hb, hg, ?_⟩
  · rcases h.2 with ⟨h1, h2⟩ | ⟨g', cap', cur, h1, _, _, h2, h3, _⟩
    · omega
    · simp at h1; omega
  · rcases h.2 with ⟨h1, h2⟩ | ⟨g', cap', cur, h1, _, _, h2, h3, _⟩
    · omega
    · simp at h1; omega
  · intro i hi
    rw [h.cellAt i (by omega)]
    simp [hl, hi]

theorem Own.reads {base : Nat} {w : World} {g n cap : Nat} {xs : List Int} (h : Own base w g n cap xs) (hb : ∀ x ∈ xs, 0 ≤ x ∧ x ≤ 255) : Reads w (some ⟨g, 0, none⟩) n cap (fun i => xs.getD i 0) :=
  ⟨h.hcap, h.hmost, fun i hi => by
    have hl := h.hlen
    have : xs.getD i 0 ∈ xs := by simp [List.getD, show i < xs.length by omega]
    exact hb _ this, fun _ => ⟨g, 0, rfl, fun i hi => by rw [Nat.zero_add]; exact h.hcell i hi⟩⟩

theorem Own.conv {base : Nat} {w : World} {g n cap : Nat} {xs : List Int} (h : Own base w g n cap xs) (wx : World) (hw : ∀ i, wx.cell? ⟨g, i, none⟩ = w.cell? ⟨g, i, none⟩) :
    (convert 22 9 (.slice (some ⟨g, 0, none⟩) n cap)).run Try.prog wx = .ok (.string (str xs)) wx :=
  run_conv wx _ n cap xs h.hlen (fun _ => ⟨g, 0, rfl, fun i hi => by rw [Nat.zero_add, hw]; exact h.hcell i hi⟩)

theorem Own.below {base B : Nat} {w w' : World} {g n cap : Nat} {xs : List Int} (h : Own base w g n cap xs) (hb : Below B w w') (hg : g < B) : Own base w' g n cap xs :=
  ⟨h.hlen, h.hcap, h.hmost, h.hfrom, Nat.lt_of_lt_of_le h.hlt hb.size, fun i hi => by rw [hb.cell (p := ⟨g, i, none⟩) hg]; exact h.hcell i hi⟩

theorem put_own (a : Option Addr) (len cap : Nat) (xs : List Int) (n : Int) (w : World) (h0 : -9223372036854775808 ≤ n) (h1 : n ≤ 9223372036854775807)
    (hin : In w a len cap xs) (hlen : len ≤ 100000000000) :
    Calls Try.prog 12 #[.slice a len cap, .int .i64 n] w fun e w' => ∃ g c, e = .returned (.slice (some ⟨g, 0, none⟩) (len + (num n).length) c) ∧ Own w.heap.size w' g (len + (num n).length) c (xs ++ num n) ∧ Below w.heap.size w w' :=
  (put_any a len cap xs n w h0 h1 hin hlen).mono fun e w' ⟨v, he, ho, hb⟩ => by
    obtain ⟨g, c, rfl, hown⟩ := own_of ho (by have := num_pos n; omega)
    exact ⟨g, c, he, hown, hb⟩

theorem putText_own (a : Option Addr) (len cap : Nat) (xs : List Int) (s : ByteArray) (w : World)
    (hin : In w a len cap xs) (hlen : len ≤ 100000000000) (hs : s.size ≤ 100000000000) :
    Calls Try.prog 14 #[.slice a len cap, .string s] w fun e w' => ∃ g c, e = .returned (.slice (some ⟨g, 0, none⟩) (len + (num s.size).length + s.size) c) ∧ Own w.heap.size w' g (len + (num s.size).length + s.size) c (xs ++ num s.size ++ sb s) ∧ Below w.heap.size w w' :=
  (putText_any a len cap xs s w hin hlen hs).mono fun e w' ⟨v, he, ho, hb⟩ => by
    obtain ⟨g, c, rfl, hown⟩ := own_of ho (by have := num_pos s.size; omega)
    exact ⟨g, c, he, hown, hb⟩

theorem in_nil (w : World) : In w none 0 0 [] := ⟨rfl, ⟨Nat.le_refl _, Nat.zero_le _, fun i hi => absurd hi (by omega), fun h => absurd h (by omega)⟩, fun _ => ⟨rfl, rfl⟩⟩

theorem num300 : num 300 = [2, 1, 44] := by decide +kernel
theorem numM2 : num (-2) = [17, 1] := by decide +kernel

theorem str300 : str [2, 1, 44] = ⟨#[2, 1, 44]⟩ := by decide +kernel
theorem strM2 : str [17, 1] = ⟨#[17, 1]⟩ := by decide +kernel

theorem put300 (w : World) : Calls Try.prog 12 #[.slice none 0 0, .int .i64 300] w fun e w' => ∃ g c, e = .returned (.slice (some ⟨g, 0, none⟩) 3 c) ∧ (convert 22 9 (.slice (some ⟨g, 0, none⟩) 3 c)).run Try.prog w' = .ok (.string ⟨#[2, 1, 44]⟩) w' ∧ Below w.heap.size w w' := by
  have h := put_own none 0 0 [] 300 w (by decide) (by decide) (in_nil _) (by decide)
  rw [num300] at h
  refine h.mono fun e w' ⟨g, c, he, ho, hb⟩ => ⟨g, c, he, ?_, hb⟩
  rw [← str300]
  exact ho.conv w' (fun _ => rfl)

theorem putM2 (w : World) : Calls Try.prog 12 #[.slice none 0 0, .int .i64 (-2)] w fun e w' => ∃ g c, e = .returned (.slice (some ⟨g, 0, none⟩) 2 c) ∧ (convert 22 9 (.slice (some ⟨g, 0, none⟩) 2 c)).run Try.prog w' = .ok (.string ⟨#[17, 1]⟩) w' ∧ Below w.heap.size w w' := by
  have h := put_own none 0 0 [] (-2) w (by decide) (by decide) (in_nil _) (by decide)
  rw [numM2] at h
  refine h.mono fun e w' ⟨g, c, he, ho, hb⟩ => ⟨g, c, he, ?_, hb⟩
  rw [← strM2]
  exact ho.conv w' (fun _ => rfl)

set_option maxHeartbeats 400000 in
theorem first_true (w : World) : Calls Try.prog 7 #[] w fun e w' => e = .returned (.bool true) ∧ Below w.heap.size w w' := by
  have hg : got (fun i => ([17, 1] : List Int).getD i 0) 2 0 = (-2, 2, 0) := by decide +kernel
  have HG := hide hg
  clear hg
  go_enter Try.func7, Try.ntmps7
  go_wp2_with fail
  refine (get_is _ 2 2 0 (fun i => ([17, 1] : List Int).getD i 0) _ ?_ (-2) 2 0 HG.out).mono ?_
  · exact ⟨by decide, by decide, by intro i hi; match i, hi with | 0, _ => decide | 1, _ => decide, fun _ => ⟨w.heap.size, 0, rfl, by intro i hi; match i, hi with | 0, _ => simp | 1, _ => simp⟩⟩
  rintro e w1 ⟨rfl, q, rfl⟩
  go_wp2_with fail
  refine (put300 _).mono ?_
  rintro e w1 ⟨g1, c1, rfl, hc1, hb1⟩
  go_wp2_with fail
  refine (putM2 _).mono ?_
  rintro e w2 ⟨g2, c2, rfl, hc2, hb2⟩
  go_wp2_with fail
  go_ret
  refine ⟨rfl, ?_⟩
  have hb : Below w.heap.size w ((w.alloc (Obj.cells #[Value.int IntKind.u8 17, Value.int IntKind.u8 1] 5)).drewN q) := below_drewN ((Below.refl _ _).alloc (Nat.le_refl _) _) q
  have hz := hb1.size
  simp at hz
  exact (hb.trans (hb1.mono (by simp))).trans (hb2.mono (by omega))

end Go.Proofs.Ytiepgocbgjdhpaa.First
