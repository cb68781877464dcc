/-
  LexJoined: two texts and an end of a line between, plainly; where they are too long, or a byte may not stand.
-/
import Derived.Test.YtlakhndnoaoheaaLxW
import Derived.BigQuiet
import Derived.Deep.QuietTactic
namespace Go.Proofs.Ytlakhndnoaoheaa.Lx
open Go.RowKit

set_option linter.unusedVariables false

def nl : ByteArray := { data := #[10] }
def joined (a b : ByteArray) : ByteArray := (a ++ nl) ++ b

theorem byteAt_toList (s : ByteArray) (i : Nat) : byteAt s i = ((s.data.toList.getD i 0).toNat : Int) := by
  unfold byteAt
  split
  · rename_i h
    have hd : i < s.data.size := h
    rw [List.getD, Array.getElem?_toList, Array.getElem?_eq_getElem hd]
    rfl
  · rename_i h
    have hd : s.data.size ≤ i := Nat.le_of_not_lt h
    rw [List.getD, Array.getElem?_toList, Array.getElem?_eq_none hd]
    rfl

theorem joined_list (a b : ByteArray) : (joined a b).data.toList = a.data.toList ++ 10 :: b.data.toList := by
  unfold joined nl
  simp [ByteArray.data_append]

theorem joined_size (a b : ByteArray) : (joined a b).size = b.size + (a.size + 1) := by
  have h := congrArg List.length (joined_list a b)
  simp at h
  have e1 : (joined a b).data.size = (joined a b).size := rfl
  have e2 : a.data.size = a.size := rfl
  have e3 : b.data.size = b.size := rfl
  omega

theorem joined_a (a b : ByteArray) {i : Nat} (h : i < a.size) : byteAt (joined a b) i = byteAt a i := by
  have h' : i < a.data.toList.length := by simpa using h
  rw [byteAt_toList, byteAt_toList, joined_list]
  simp [List.getD, List.getElem?_append_left h']

theorem joined_nl (a b : ByteArray) : byteAt (joined a b) a.size = 10 := by
  have h' : a.size = a.data.toList.length := by rw [Array.length_toList]; rfl
  rw [byteAt_toList, joined_list, h']
  simp [List.getD]

theorem joined_b (a b : ByteArray) (i : Nat) : byteAt (joined a b) (i + (a.size + 1)) = byteAt b i := by
  have h' : a.size = a.data.toList.length := by rw [Array.length_toList]; rfl
  rw [byteAt_toList, byteAt_toList, joined_list, h']
  simp only [List.getD]
  rw [List.getElem?_append_right (by omega), show i + (a.data.toList.length + 1) - a.data.toList.length = i + 1 by omega]
  simp

theorem lines_c (a b : ByteArray) : linesOf (bts (joined a b)) (joined a b).size = linesOf (bts a) a.size ++ (linesOf (bts b) b.size).map (List.map (sh (a.size + 1))) := by
  rw [joined_size]
  exact lines_joined (fun i hi => joined_a a b hi) (joined_nl a b) (fun i _ => joined_b a b i)

theorem text_a (a b : ByteArray) {p q : Nat} (h : q ≤ a.size) : (joined a b).extract p q = a.extract p q := by
  have e : a.size = a.data.size := rfl
  unfold joined nl
  apply ByteArray.ext
  rw [ByteArray.data_extract, ByteArray.data_extract, ByteArray.data_append, ByteArray.data_append, Array.append_assoc, Array.extract_append, show q - a.data.size = 0 by omega]
  simp

theorem text_b (a b : ByteArray) (p q : Nat) : (joined a b).extract (p + (a.size + 1)) (q + (a.size + 1)) = b.extract p q := by
  have e : a.size = a.data.size := rfl
  unfold joined nl
  apply ByteArray.ext
  rw [ByteArray.data_extract, ByteArray.data_extract, ByteArray.data_append, ByteArray.data_append, Array.extract_append]
  simp only [Array.size_append, List.size_toArray, List.length_cons, List.length_nil]
  rw [show p + (a.size + 1) - (a.data.size + (0 + 1)) = p by omega, show q + (a.size + 1) - (a.data.size + (0 + 1)) = q by omega]
  rw [Array.extract_empty_of_size_le_start (by simp)]
  simp

theorem good_joined {a b : ByteArray} : Good (joined a b) ↔ Good a ∧ Good b := by
  constructor
  · intro h
    refine ⟨fun i hi => ?_, fun i hi => ?_⟩
    · have := h i (by rw [joined_size]; omega)
      rwa [joined_a a b hi] at this
    · have := h (i + (a.size + 1)) (by rw [joined_size]; omega)
      rwa [joined_b] at this
  · rintro ⟨h1, h2⟩ i hi
    rw [joined_size] at hi
    rcases Nat.lt_trichotomy i a.size with h | rfl | h
    · rw [joined_a a b h]; exact h1 i h
    · rw [joined_nl]; rfl
    · rw [show i = (i - (a.size + 1)) + (a.size + 1) by omega, joined_b]; exact h2 _ (by omega)

theorem joinedLong (a b : ByteArray) (w : World) (hl : (500 : Int) < a.size ∨ (500 : Int) < b.size) :
    Calls Try.prog 4 #[.string a, .string b] w fun e w' => e = .returned (.bool true) ∧ Below w.heap.size w w' := by
  by_cases h1 : (500 : Int) < a.size
  · have t0 : decide ((500 : Int) < (a.size : Int)) = true := by simpa using h1
    go_enter Try.func4, Try.ntmps4
    go_wp2_with fail
    refine (first_true _).mono ?_
    rintro e w1 ⟨rfl, hb1⟩
    go_wp2_with fail
    refine (first_true _).mono ?_
    rintro e w2 ⟨rfl, hb2⟩
    go_wp2_with fail
    go_ret
    exact ⟨rfl, more hb1 hb2⟩
  · have h2 : (500 : Int) < b.size := by omega
    have t0 : decide ((500 : Int) < (a.size : Int)) = false := by simpa using h1
    have t1 : decide ((500 : Int) < (b.size : Int)) = true := by simpa using h2
    go_enter Try.func4, Try.ntmps4
    go_wp2_with fail
    refine (first_true _).mono ?_
    rintro e w1 ⟨rfl, hb1⟩
    go_wp2_with fail
    refine (first_true _).mono ?_
    rintro e w2 ⟨rfl, hb2⟩
    go_wp2_with fail
    go_ret
    exact ⟨rfl, more hb1 hb2⟩

set_option maxHeartbeats 1000000 in
theorem joinedBad (a b : ByteArray) (w : World) (ha : a.size ≤ 500) (hb : b.size ≤ 500) (hbad : ¬ Good (joined a b)) :
    Calls Try.prog 4 #[.string a, .string b] w fun e w' => e = .returned (.bool true) ∧ Below w.heap.size w w' := by
  have t0 : decide ((500 : Int) < (a.size : Int)) = false := by simp; omega
  have t1 : decide ((500 : Int) < (b.size : Int)) = false := by simp; omega
  obtain ⟨k, hk⟩ : ∃ k, Bad (joined a b) k := (good_or_bad _).resolve_left hbad
  have hab : ¬ (Good a ∧ Good b) := fun h => hbad (good_joined.2 h)
  have HK := hid hk
  have HAB := hid hab
  have hcs : (joined a b).size ≤ 4000 := by rw [joined_size]; omega
  clear hbad hk hab
  go_enter Try.func4, Try.ntmps4
  go_wp2_with fail
  refine (first_true _).mono ?_
  rintro e w1 ⟨rfl, hb1⟩
  go_wp2_with fail
  refine (lines_any a _ (by omega)).mono ?_
  rintro e w2 ⟨⟨xa, xn, xc⟩, at1, er1, rfl, hb2, h1⟩
  go_wp2_with fail
  refine (lines_any b _ (by omega)).mono ?_
  rintro e w3 ⟨⟨ya, yn, yc⟩, at2, er2, rfl, hb3, h2⟩
  go_wp2_with fail
  refine (lines_bad (joined a b) _ hcs HK.out).mono ?_
  rintro e w4 ⟨rfl, hb4⟩
  have LOW := hid (more (more (more hb1 hb2) hb3) hb4)
  clear hb1 hb2 hb3 hb4
  rcases h1 with ⟨k1, g1, g2, rfl, rfl⟩ | ⟨g1, rfl, rfl, _⟩
  · clear h2 g1 g2
    go_wp2_with fail
    go_ret
    exact ⟨rfl, LOW.out⟩
  · rcases h2 with ⟨k2, f1, f2, rfl, rfl⟩ | ⟨f1, _⟩
    · clear f1 f2 g1
      go_wp2_with fail
      go_ret
      exact ⟨rfl, LOW.out⟩
    · exact (HAB.out ⟨g1, f1⟩).elim

end Go.Proofs.Ytlakhndnoaoheaa.Lx
