/-
  lex: mayStand, endOfLine, endOfWord; strings.Clone.
-/
import Derived.Test.YtlakhndnoaoheaaDoorLxG
namespace Go.Proofs.YtlakhndnoaoheaaDoor.Lx
open Go.RowKit

set_option linter.unusedVariables false

def byteAt (s : ByteArray) (i : Nat) : Int := if h : i < s.size then ((s[i]'h).toNat : Int) else 0

theorem byteAt_bd (s : ByteArray) (i : Nat) : 0 ≤ byteAt s i ∧ byteAt s i ≤ 255 := by
  unfold byteAt
  split
  · rename_i h
    have := (s[i]'h).toNat_lt
    omega
  · omega

theorem index_str (s : ByteArray) {i : Nat} (hi : i < s.size) : ∀ wx, (Instr.index 9 (.string s) (.int .i64 i)).run Tryd.prog wx = .ok (.int .u8 (byteAt s i)) wx := by
  intro wx
  rw [run_index_string wx 9 s .i64 i (by kernel_rfl), dif_pos ⟨by omega, by omega⟩]
  unfold byteAt
  rw [dif_pos hi]
  simp

theorem at_str (s : ByteArray) {i : Nat} (hi : i < s.size) : ((s[i]'hi).toNat : Int) = byteAt s i := by
  unfold byteAt; rw [dif_pos hi]

theorem mayStand_any (c : Int) (w : World) : Calls Tryd.prog 14 #[.int .u8 c] w fun e w' => e = .returned (.bool (okC c)) ∧ w' = w := by
  have H : okC c = (decide (c = 9) || decide (c = 10) || (decide (32 ≤ c) && decide (c ≤ 126))) := rfl
  by_cases h1 : c = 9
  · subst h1
    go_enter Tryd.func14, Tryd.ntmps14
    go_wp2
    go_ret
    exact ⟨rfl, rfl⟩
  by_cases h2 : c = 10
  · subst h2
    go_enter Tryd.func14, Tryd.ntmps14
    go_wp2
    go_ret
    exact ⟨rfl, rfl⟩
  by_cases h3 : 32 ≤ c
  all_goals
    by_cases h4 : c ≤ 126
    all_goals
      have e1 : (c == 9) = false := by simpa using h1
      have e2 : (c == 10) = false := by simpa using h2
      have HR := hid (show okC c = (decide (32 ≤ c) && decide (c ≤ 126)) by rw [H]; simp [h1, h2])
      clear h1 h2 H
      go_enter Tryd.func14, Tryd.ntmps14
      go_wp2
      go_ret
      exact ⟨congrArg (fun b => Ending.returned (.bool b)) (show _ = okC c by rw [HR.out]; simp; try omega), rfl⟩

def Eol (s : ByteArray) (i e : Nat) : Prop := i ≤ e ∧ e ≤ s.size ∧ (∀ j, i ≤ j → j < e → byteAt s j ≠ 10) ∧ (e = s.size ∨ (e < s.size ∧ byteAt s e = 10))

theorem endOfLine_any (s : ByteArray) (i : Nat) (w : World) (hi : i ≤ s.size) (hs : s.size ≤ 5000) :
    Calls Tryd.prog 15 #[.string s, .int .i64 i] w fun e w' => (∃ k : Nat, e = .returned (.int .i64 k) ∧ Eol s i k) ∧ w' = w := by
  go_enter Tryd.func15, Tryd.ntmps15
  go_wp2
  go_loop [5] (fun v => ∃ k : Nat, i ≤ k ∧ k ≤ s.size ∧ v = .int .i64 k ∧ ∀ j, i ≤ j → j < k → byteAt s j ≠ 10) (fun v => s.size - (intOf v).toNat)
  case atStart => exact ⟨i, Nat.le_refl _, hi, rfl, fun j h1 h2 => by omega⟩
  case round =>
    obtain ⟨k, hk1, hk2, rfl, hall⟩ := hrel
    have HA := hid hall
    clear hall
    by_cases lk : k < s.size
    · have hx := index_str s lk
      have hcc := at_str s lk
      by_cases h10 : byteAt s k = 10
      · have HR := hid (show Eol s i k from ⟨hk1, hk2, HA.out, .inr ⟨lk, h10⟩⟩)
        have e1 : (byteAt s k == 10) = true := by simpa using h10
        clear h10
        go_wp2
        all_goals first
          | (go_ret; exact ⟨⟨k, rfl, HR.out⟩, rfl⟩)
          | (exfalso; clear HA HR; go_light; simp_all <;> omega)
      · have HN := hid h10
        have e1 : (byteAt s k == 10) = false := by simpa using h10
        clear h10
        go_wp2
        all_goals first
          | (go_round; (case rel => exact ⟨k + 1, by omega, by omega, by go_num, fun j h1 h2 => by rcases Nat.lt_or_eq_of_le (Nat.le_of_lt_succ h2) with h | rfl; exact HA.out j h1 h; exact HN.out⟩); (case measure => simp [intOf]; omega))
          | (exfalso; clear HA HN; go_light; simp_all <;> omega)
    · obtain rfl : k = s.size := by omega
      go_wp2
      go_ret
      exact ⟨⟨s.size, rfl, hi, Nat.le_refl _, HA.out, .inl rfl⟩, rfl⟩

def Eow (s : ByteArray) (i e end_ : Nat) : Prop := i ≤ e ∧ e ≤ end_ ∧ (∀ j, i ≤ j → j < e → isSep (byteAt s j) = false) ∧ (e = end_ ∨ (e < end_ ∧ isSep (byteAt s e) = true))

theorem endOfWord_any (s : ByteArray) (i n : Nat) (w : World) (hi : i ≤ n) (hn : n ≤ s.size) (hs : s.size ≤ 5000) :
    Calls Tryd.prog 20 #[.string s, .int .i64 i, .int .i64 n] w fun e w' => (∃ k : Nat, e = .returned (.int .i64 k) ∧ Eow s i k n) ∧ w' = w := by
  go_enter Tryd.func20, Tryd.ntmps20
  go_wp2
  go_loop [1] (fun v => ∃ k : Nat, i ≤ k ∧ k ≤ n ∧ v = .int .i64 k ∧ ∀ j, i ≤ j → j < k → isSep (byteAt s j) = false) (fun v => n - (intOf v).toNat)
  case atStart => exact ⟨i, Nat.le_refl _, hi, rfl, fun j h1 h2 => by omega⟩
  case round =>
    obtain ⟨k, hk1, hk2, rfl, hall⟩ := hrel
    have HA := hid hall
    clear hall
    by_cases lk : k < n
    · have lk' : k < s.size := by omega
      have hx := index_str s lk'
      have hcc := at_str s lk'
      cases hsep : isSep (byteAt s k) with
      | true =>
        have HR := hid (show Eow s i k n from ⟨hk1, hk2, HA.out, .inr ⟨lk, hsep⟩⟩)
        have HS := hid hsep
        clear hsep
        go_wp2
        all_goals first
          | (go_ret; exact ⟨⟨k, rfl, HR.out⟩, rfl⟩)
          | (exfalso; have := HS.out; clear HA HR HS; go_light; simp_all [isSep] <;> omega)
      | false =>
        have HN := hid hsep
        have e1 : (byteAt s k == 9) = false := by simp [isSep] at hsep; simp [hsep]
        have e2 : (byteAt s k == 32) = false := by simp [isSep] at hsep; simp [hsep]
        have e3 : (byteAt s k == 35) = false := by simp [isSep] at hsep; simp [hsep]
        clear hsep
        go_wp2
        all_goals first
          | (go_round; (case rel => exact ⟨k + 1, by omega, by omega, by go_num, fun j h1 h2 => by rcases Nat.lt_or_eq_of_le (Nat.le_of_lt_succ h2) with h | rfl; exact HA.out j h1 h; exact HN.out⟩); (case measure => simp [intOf]; omega))
          | (exfalso; clear HA HN; go_light; simp_all <;> omega)
    · obtain rfl : k = n := by omega
      go_wp2
      go_ret
      exact ⟨⟨k, rfl, hk1, Nat.le_refl _, HA.out, .inl rfl⟩, rfl⟩

end Go.Proofs.YtlakhndnoaoheaaDoor.Lx
