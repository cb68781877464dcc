/-
  Bytes made into a text: what the conversion gives, and what the text's bytes are.
-/
import Derived.Test.YtiepgocbgjdhpaaProg
import Derived.Test.YtiepgocbgjdhpaaPlain
import Derived.Laws.BytesString
import Derived.Laws.Cells
import Derived.WalkKit
namespace Go.Proofs.Ytiepgocbgjdhpaa.Cv
open Go.RowKit Plain

/-- The text of the bytes. -/
def str (xs : List Int) : ByteArray := xs.foldl (fun r n => r.push (UInt8.ofNat n.toNat)) ByteArray.empty

theorem toList_fold (xs : List Int) : ∀ r : ByteArray, (xs.foldl (fun r n => r.push (UInt8.ofNat n.toNat)) r).data.toList = r.data.toList ++ xs.map (fun n => UInt8.ofNat n.toNat) := by
  induction xs with
  | nil => intro r; simp
  | cons x xs ih => intro r; rw [List.foldl_cons, ih]; simp [ByteArray.push]

theorem str_list (xs : List Int) : (str xs).data.toList = xs.map (fun n => UInt8.ofNat n.toNat) := by
  rw [str, toList_fold]; simp

theorem str_size (xs : List Int) : (str xs).size = xs.length := by
  have := congrArg List.length (str_list xs)
  rw [Array.length_toList, List.length_map] at this
  exact this

theorem ext_list {s t : ByteArray} (h : s.data.toList = t.data.toList) : s = t := by
  cases s; cases t; congr 1; exact Array.ext' h

theorem sb_str (xs : List Int) (h : ∀ x ∈ xs, 0 ≤ x ∧ x ≤ 255) : sb (str xs) = xs := by
  unfold sb
  rw [str_list, List.map_map]
  conv => rhs; rw [← List.map_id xs]
  apply List.map_congr_left
  intro x hx
  have := h x hx
  simp
  omega

theorem str_sb (s : ByteArray) : str (sb s) = s := by
  apply ext_list
  rw [str_list, sb, List.map_map]
  conv => rhs; rw [← List.map_id s.data.toList]
  apply List.map_congr_left
  intro b _
  simp

theorem str_inj {xs ys : List Int} (hx : ∀ x ∈ xs, 0 ≤ x ∧ x ≤ 255) (hy : ∀ x ∈ ys, 0 ≤ x ∧ x ≤ 255) (h : str xs = str ys) : xs = ys := by
  rw [← sb_str xs hx, ← sb_str ys hy, h]

theorem run_conv (wx : World) (a : Option Addr) (l c : Nat) (xs : List Int) (hx : xs.length = l)
    (h : 0 < l → ∃ b off, a = some ⟨b, off, none⟩ ∧ ∀ i, i < l → wx.cell? ⟨b, off + i, none⟩ = some (.int .u8 (xs.getD i 0))) :
    (convert 22 9 (.slice a l c)).run Try.prog wx = .ok (.string (str xs)) wx := by
  rw [run_convert_bytes_string wx 22 9 5 a l c Try.underlying22 Try.underlying5 Try.underlying9]
  subst hx
  cases a with
  | none =>
    have h0 : xs = [] := by
      cases xs with
      | nil => rfl
      | cons x xs => obtain ⟨b, off, hb, _⟩ := h (by simp); cases hb
    subst h0
    rfl
  | some ad =>
    refine run_bytesToString wx ad xs.length c xs ?_
    have := run_loadCells_list (P := Try.prog) wx ad (xs.map (Value.int .u8)) ?_
    · simpa using this
    · intro j v hj
      have hlt : j < xs.length := by have := (List.getElem?_eq_some_iff.1 hj).1; simpa using this
      obtain ⟨b, off, hb, hc⟩ := h (by omega)
      obtain rfl := Option.some.inj hb
      rw [Addr.add_lit, hc j hlt, ← hj]
      simp [hlt]

end Go.Proofs.Ytiepgocbgjdhpaa.Cv
