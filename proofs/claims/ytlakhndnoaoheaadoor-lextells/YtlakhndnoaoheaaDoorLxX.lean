/-
  The document's own Lines, walked.
-/
import Derived.Test.YtlakhndnoaoheaaDoorLxV
namespace Go.Proofs.YtlakhndnoaoheaaDoor.Lx
open Go.RowKit

set_option linter.unusedVariables false

def frV (fr : Option Nat) : Int := match fr with | none => -1 | some f => f

theorem sliceAt (s : ByteArray) {f i : Nat} (h1 : f ≤ i) (h2 : i ≤ s.size) : ∀ wx, (Instr.slice 9 (.string s) (some (.int .i64 (f : Int))) (some (.int .i64 (i : Int))) none).run Tryd.prog wx = .ok (.string (s.extract f i)) wx := fun wx => by
  rw [run_slice_string (h := by kernel_rfl) (h0 := by omega) (h1 := by omega) (h2 := by omega), Int.toNat_natCast, Int.toNat_natCast]

set_option maxRecDepth 10000 in
set_option maxHeartbeats 8000000 in
theorem rlines_any (s : ByteArray) (w : World) (hs : s.size ≤ 4000) :
    Calls Tryd.prog 7 #[.string s] w fun e w' => LinesIs s w e w' := by
  have t0 : decide ((4194304 : Int) < (s.size : Int)) = false := decide_eq_false (by omega)
  go_enter Tryd.func7, Tryd.ntmps7
  go_wp2_with fail
  go_loop [2, 5] (fun y x => y = .slice none 0 0 ∧ ∃ k : Nat, k ≤ s.size ∧ x = .int .i64 k ∧ ∀ j, j < k → okC (byteAt s j) = true) (fun y x => s.size - (intOf x).toNat)
  case atStart => exact ⟨rfl, 0, Nat.zero_le _, rfl, fun j hj => by omega⟩
  case round =>
    obtain ⟨rfl, k, hk, rfl, hall⟩ := hrel
    have HA := hid hall
    clear hall
    by_cases lk : k < s.size
    · have hx := index_str s lk
      have hcc := at_str s lk
      cases hok : okC (byteAt s k) with
      | true =>
        have HO := hid hok
        have H3 := hid (show byteAt s k = 9 ∨ byteAt s k = 10 ∨ (32 ≤ byteAt s k ∧ byteAt s k ≤ 126) by simp [okC] at hok; omega)
        clear hok
        go_wp2_with fail
        all_goals first
          | (go_round; (case rel => exact ⟨rfl, k + 1, by omega, by go_num, fun j h1 => (by rcases Nat.lt_or_eq_of_le (Nat.le_of_lt_succ h1) with h | rfl; exact HA.out j h; exact HO.out)⟩); (case measure => simp [intOf]; omega))
          | (exfalso; have := H3.out; clear H3 HA HO; go_light; simp_all <;> omega)
      | false =>
        have HR := hid (show Bad s k from ⟨lk, hok, HA.out⟩)
        have H3 := hid (show byteAt s k ≠ 9 ∧ byteAt s k ≠ 10 ∧ (byteAt s k < 32 ∨ 126 < byteAt s k) by simp [okC] at hok; omega)
        clear hok
        go_wp2_with fail
        all_goals first
          | (go_ret3; exact ⟨⟨none, 0, 0⟩, k, 1, rfl, Below.refl _ _, .inl ⟨k, HR.out, rfl, rfl, rfl⟩⟩)
          | (exfalso; have := H3.out; clear H3 HA HR; go_light; simp_all <;> omega)
    · obtain rfl : k = s.size := by omega
      have HG := hid (show Good s from HA.out)
      clear lk hk HA
      go_wp2_with fail
      go_loopg [7, 8, 9, 10, 11] (s.size + 1) (fun g x y z n a wr => ∃ (v lv : Value) (k i : Nat) (ws : List (Nat × Nat)) (fr : Option Nat) (note : Bool), g = s.size + 1 - i ∧ v = x ∧ lv = y ∧ z = .int .i64 (frV fr) ∧ n = .bool note ∧ a = .int .i64 i ∧ MSt s w wr v lv k ws ∧ RSt s k i ws fr note ∧ (i = s.size + 1 → ws = [] ∧ fr = none))
      case atStart => exact ⟨_, _, 0, 0, [], none, false, rfl, rfl, rfl, rfl, rfl, rfl, MSt.start s w, RSt.start s, fun h => by omega⟩
      case round =>
        obtain ⟨v, lv, k, i, ws, fr, note, hg, rfl, rfl, rfl, rfl, rfl, hm, hr, hfin⟩ := hrel
        have M := hid hm
        have R := hid hr
        have FIN := hid hfin
        obtain ⟨hsk, hsw⟩ := hr.small
        have hle := hr.le
        clear hm hr hfin
        by_cases li : i ≤ s.size
        · have t1 : decide (i ≤ s.size) = true := by simpa using li
          by_cases e0 : i = s.size
          · have HE := hid (show i = s.size ∨ (i < s.size ∧ byteAt s i = 10) from .inl e0)
            have t2 : (i == s.size) = true := by simpa using e0
            have t2' : ((i : Int) == (s.size : Int)) = true := by rw [beq_iff_eq]; omega
            clear e0
            cases fr with
            | some f =>
              have hfi := R.out.fl f rfl
              have hsl := sliceAt s (Nat.le_of_lt hfi) li
              obtain ⟨tx, htx⟩ : ∃ tx, s.extract f i = tx := ⟨_, rfl⟩
              rw [htx] at hsl
              have HTX := hid htx
              have hz : frV (some f) = (f : Int) := rfl
              have hf0 : (0 : Int) ≤ (f : Int) := by omega
              clear htx
              have NX := hid (R.out.push HE.out (by simp [flush]))
              have NF := R.out.nf
              obtain rfl : note = false := by cases note with | true => (have := NF rfl; cases this) | false => rfl
              clear NF
              go_wp2_with (first
                | (at_builtin; refine M.out.word (by omega) f i rfl (.tmp 79) (.tmp 86) rfl rfl rfl tx HTX.out ?_; intro lv4 w4 hm4; obtain ⟨u, hlv, hu⟩ := hm4.slice; subst hlv; have M4 := hid hm4; have hun : 0 < u.n := (by rw [hu]; simp); have t4 : decide (0 < u.n) = true := (by simpa using hun); clear hm4 hu)
                | (at_builtin; refine M4.out.push (by simp; omega) (by omega) NX.out.1 rfl (.tmp 92) (.tmp 94) rfl rfl rfl ?_; intro v5 w5 hm5; have M5 := hid hm5; clear hm5))
              go_roundg (s.size + 1 - (i + 1))
              case measure => omega
              case rel => exact ⟨v5, _, k + 1, i + 1, [], none, false, rfl, rfl, rfl, rfl, rfl, by go_num, M5.out, NX.out.2, fun _ => ⟨rfl, rfl⟩⟩

            | none =>
              have hz : frV none = (-1 : Int) := rfl
              by_cases hw : ws = []
              · subst hw
                have NX := hid (R.out.skip HE.out)
                obtain ⟨u, rfl, hu⟩ := M.out.slice
                have hun : u.n = 0 := by rw [hu]; rfl
                have t4 : decide (0 < u.n) = false := by simp; omega
                have t5 : ¬ 0 < u.n := by omega
                clear hu hun
                go_wp2_with fail
                go_roundg (s.size + 1 - (i + 1))
                case measure => omega
                case rel => exact ⟨v, _, k, i + 1, [], none, false, rfl, rfl, rfl, rfl, rfl, by go_num, MSt.clear M.out, NX.out, fun _ => ⟨rfl, rfl⟩⟩

              · have NX := hid (R.out.push HE.out (by simpa [flush] using hw))
                obtain ⟨u, rfl, hu⟩ := M.out.slice
                have hun : 0 < u.n := by rw [hu]; exact List.length_pos_iff.2 hw
                have t4 : decide (0 < u.n) = true := by simpa using hun
                clear hu hw
                go_wp2_with (at_builtin; refine M.out.push (by omega) (by omega) (by rw [NX.out.1]; simp [flush]) rfl (.tmp 92) (.tmp 94) rfl rfl rfl ?_; intro v5 w5 hm5; have M5 := hid hm5; clear hm5)
                go_roundg (s.size + 1 - (i + 1))
                case measure => omega
                case rel => exact ⟨v5, _, k + 1, i + 1, [], none, false, rfl, rfl, rfl, rfl, rfl, by go_num, M5.out, NX.out.2, fun _ => ⟨rfl, rfl⟩⟩

          · have ls : i < s.size := by omega
            have hx := index_str s ls
            have hcc := at_str s ls
            clear e0
            by_cases h10 : byteAt s i = 10
            · have HE := hid (show i = s.size ∨ (i < s.size ∧ byteAt s i = 10) from .inr ⟨ls, h10⟩)
              have t2 : (i == s.size) = false := by rw [beq_eq_false_iff_ne]; omega
              have t2' : ((i : Int) == (s.size : Int)) = false := by rw [beq_eq_false_iff_ne]; omega
              have t3 : (byteAt s i == 10) = true := by simpa using h10
              clear h10
              cases fr with
              | some f =>
                have hfi := R.out.fl f rfl
                have hsl := sliceAt s (Nat.le_of_lt hfi) li
                obtain ⟨tx, htx⟩ : ∃ tx, s.extract f i = tx := ⟨_, rfl⟩
                rw [htx] at hsl
                have HTX := hid htx
                have hz : frV (some f) = (f : Int) := rfl
                have hf0 : (0 : Int) ≤ (f : Int) := by omega
                clear htx
                have NX := hid (R.out.push HE.out (by simp [flush]))
                have NF := R.out.nf
                obtain rfl : note = false := by cases note with | true => (have := NF rfl; cases this) | false => rfl
                clear NF
                go_wp2_with (first
                  | (at_builtin; refine M.out.word (by omega) f i rfl (.tmp 79) (.tmp 86) rfl rfl rfl tx HTX.out ?_; intro lv4 w4 hm4; obtain ⟨u, hlv, hu⟩ := hm4.slice; subst hlv; have M4 := hid hm4; have hun : 0 < u.n := (by rw [hu]; simp); have t4 : decide (0 < u.n) = true := (by simpa using hun); clear hm4 hu)
                  | (at_builtin; refine M4.out.push (by simp; omega) (by omega) NX.out.1 rfl (.tmp 92) (.tmp 94) rfl rfl rfl ?_; intro v5 w5 hm5; have M5 := hid hm5; clear hm5))
                go_roundg (s.size + 1 - (i + 1))
                case measure => omega
                case rel => exact ⟨v5, _, k + 1, i + 1, [], none, false, rfl, rfl, rfl, rfl, rfl, by go_num, M5.out, NX.out.2, fun _ => ⟨rfl, rfl⟩⟩

              | none =>
                have hz : frV none = (-1 : Int) := rfl
                by_cases hw : ws = []
                · subst hw
                  have NX := hid (R.out.skip HE.out)
                  obtain ⟨u, rfl, hu⟩ := M.out.slice
                  have hun : u.n = 0 := by rw [hu]; rfl
                  have t4 : decide (0 < u.n) = false := by simp; omega
                  have t5 : ¬ 0 < u.n := by omega
                  clear hu hun
                  go_wp2_with fail
                  go_roundg (s.size + 1 - (i + 1))
                  case measure => omega
                  case rel => exact ⟨v, _, k, i + 1, [], none, false, rfl, rfl, rfl, rfl, rfl, by go_num, MSt.clear M.out, NX.out, fun _ => ⟨rfl, rfl⟩⟩

                · have NX := hid (R.out.push HE.out (by simpa [flush] using hw))
                  obtain ⟨u, rfl, hu⟩ := M.out.slice
                  have hun : 0 < u.n := by rw [hu]; exact List.length_pos_iff.2 hw
                  have t4 : decide (0 < u.n) = true := by simpa using hun
                  clear hu hw
                  go_wp2_with (at_builtin; refine M.out.push (by omega) (by omega) (by rw [NX.out.1]; simp [flush]) rfl (.tmp 92) (.tmp 94) rfl rfl rfl ?_; intro v5 w5 hm5; have M5 := hid hm5; clear hm5)
                  go_roundg (s.size + 1 - (i + 1))
                  case measure => omega
                  case rel => exact ⟨v5, _, k + 1, i + 1, [], none, false, rfl, rfl, rfl, rfl, rfl, by go_num, M5.out, NX.out.2, fun _ => ⟨rfl, rfl⟩⟩

            · have t2 : (i == s.size) = false := by rw [beq_eq_false_iff_ne]; omega
              have t2' : ((i : Int) == (s.size : Int)) = false := by rw [beq_eq_false_iff_ne]; omega
              have t3 : (byteAt s i == 10) = false := by rw [beq_eq_false_iff_ne]; exact h10
              by_cases hc : byteAt s i = 9
              · have hb : byteAt s i = 9 := hc
                have NX := hid (R.out.sep ls (by rw [hb]; rfl))
                rw [show decide (byteAt s i = 35) = false by rw [hb]; rfl] at NX
                have u9 : (byteAt s i == 9) = true := by rw [hb]; rfl
                have u9n : (byteAt s i != 9) = false := by rw [hb]; rfl
                have u32 : (byteAt s i == 32) = false := by rw [hb]; rfl
                have u32n : (byteAt s i != 32) = true := by rw [hb]; rfl
                have u35 : (byteAt s i == 35) = false := by rw [hb]; rfl
                have u35n : (byteAt s i != 35) = true := by rw [hb]; rfl
                clear hb hc h10
                cases fr with
                | some f =>
                  have hfi := R.out.fl f rfl
                  have hsl := sliceAt s (Nat.le_of_lt hfi) li
                  obtain ⟨tx, htx⟩ : ∃ tx, s.extract f i = tx := ⟨_, rfl⟩
                  rw [htx] at hsl
                  have HTX := hid htx
                  have hz : frV (some f) = (f : Int) := rfl
                  have hf0 : (0 : Int) ≤ (f : Int) := by omega
                  clear htx
                  have NF := R.out.nf
                  obtain rfl : note = false := by cases note with | true => (have := NF rfl; cases this) | false => rfl
                  clear NF
                  go_wp2_with (at_builtin; refine M.out.word (by omega) f i rfl (.tmp 79) (.tmp 86) rfl rfl rfl tx HTX.out ?_; intro lv4 w4 hm4; have M4 := hid hm4; clear hm4)
                  go_roundg (s.size + 1 - (i + 1))
                  case measure => omega
                  case rel => exact ⟨v, lv4, k, i + 1, _, none, false, rfl, rfl, rfl, rfl, rfl, by go_num, M4.out, by simpa [flush] using NX.out, fun h => by omega⟩

                | none =>
                  have hz : frV none = (-1 : Int) := rfl
                  cases note with
                  | true =>
                    go_wp2_with fail
                    go_roundg (s.size + 1 - (i + 1))
                    case measure => omega
                    case rel => exact ⟨v, lv, k, i + 1, ws, none, true, rfl, rfl, rfl, rfl, rfl, by go_num, M.out, by simpa [flush] using NX.out, fun h => by omega⟩

                  | false =>
                    go_wp2_with fail
                    go_roundg (s.size + 1 - (i + 1))
                    case measure => omega
                    case rel => exact ⟨v, lv, k, i + 1, ws, none, false, rfl, rfl, rfl, rfl, rfl, by go_num, M.out, by simpa [flush] using NX.out, fun h => by omega⟩

              by_cases hc : byteAt s i = 32
              · have hb : byteAt s i = 32 := hc
                have NX := hid (R.out.sep ls (by rw [hb]; rfl))
                rw [show decide (byteAt s i = 35) = false by rw [hb]; rfl] at NX
                have u9 : (byteAt s i == 9) = false := by rw [hb]; rfl
                have u9n : (byteAt s i != 9) = true := by rw [hb]; rfl
                have u32 : (byteAt s i == 32) = true := by rw [hb]; rfl
                have u32n : (byteAt s i != 32) = false := by rw [hb]; rfl
                have u35 : (byteAt s i == 35) = false := by rw [hb]; rfl
                have u35n : (byteAt s i != 35) = true := by rw [hb]; rfl
                clear hb hc h10
                cases fr with
                | some f =>
                  have hfi := R.out.fl f rfl
                  have hsl := sliceAt s (Nat.le_of_lt hfi) li
                  obtain ⟨tx, htx⟩ : ∃ tx, s.extract f i = tx := ⟨_, rfl⟩
                  rw [htx] at hsl
                  have HTX := hid htx
                  have hz : frV (some f) = (f : Int) := rfl
                  have hf0 : (0 : Int) ≤ (f : Int) := by omega
                  clear htx
                  have NF := R.out.nf
                  obtain rfl : note = false := by cases note with | true => (have := NF rfl; cases this) | false => rfl
                  clear NF
                  go_wp2_with (at_builtin; refine M.out.word (by omega) f i rfl (.tmp 79) (.tmp 86) rfl rfl rfl tx HTX.out ?_; intro lv4 w4 hm4; have M4 := hid hm4; clear hm4)
                  go_roundg (s.size + 1 - (i + 1))
                  case measure => omega
                  case rel => exact ⟨v, lv4, k, i + 1, _, none, false, rfl, rfl, rfl, rfl, rfl, by go_num, M4.out, by simpa [flush] using NX.out, fun h => by omega⟩

                | none =>
                  have hz : frV none = (-1 : Int) := rfl
                  cases note with
                  | true =>
                    go_wp2_with fail
                    go_roundg (s.size + 1 - (i + 1))
                    case measure => omega
                    case rel => exact ⟨v, lv, k, i + 1, ws, none, true, rfl, rfl, rfl, rfl, rfl, by go_num, M.out, by simpa [flush] using NX.out, fun h => by omega⟩

                  | false =>
                    go_wp2_with fail
                    go_roundg (s.size + 1 - (i + 1))
                    case measure => omega
                    case rel => exact ⟨v, lv, k, i + 1, ws, none, false, rfl, rfl, rfl, rfl, rfl, by go_num, M.out, by simpa [flush] using NX.out, fun h => by omega⟩

              by_cases hc : byteAt s i = 35
              · have hb : byteAt s i = 35 := hc
                have NX := hid (R.out.sep ls (by rw [hb]; rfl))
                rw [show decide (byteAt s i = 35) = true by rw [hb]; rfl] at NX
                have u9 : (byteAt s i == 9) = false := by rw [hb]; rfl
                have u9n : (byteAt s i != 9) = true := by rw [hb]; rfl
                have u32 : (byteAt s i == 32) = false := by rw [hb]; rfl
                have u32n : (byteAt s i != 32) = true := by rw [hb]; rfl
                have u35 : (byteAt s i == 35) = true := by rw [hb]; rfl
                have u35n : (byteAt s i != 35) = false := by rw [hb]; rfl
                clear hb hc h10
                cases fr with
                | some f =>
                  have hfi := R.out.fl f rfl
                  have hsl := sliceAt s (Nat.le_of_lt hfi) li
                  obtain ⟨tx, htx⟩ : ∃ tx, s.extract f i = tx := ⟨_, rfl⟩
                  rw [htx] at hsl
                  have HTX := hid htx
                  have hz : frV (some f) = (f : Int) := rfl
                  have hf0 : (0 : Int) ≤ (f : Int) := by omega
                  clear htx
                  have NF := R.out.nf
                  obtain rfl : note = false := by cases note with | true => (have := NF rfl; cases this) | false => rfl
                  clear NF
                  go_wp2_with (at_builtin; refine M.out.word (by omega) f i rfl (.tmp 79) (.tmp 86) rfl rfl rfl tx HTX.out ?_; intro lv4 w4 hm4; have M4 := hid hm4; clear hm4)
                  go_roundg (s.size + 1 - (i + 1))
                  case measure => omega
                  case rel => exact ⟨v, lv4, k, i + 1, _, none, true, rfl, rfl, rfl, rfl, rfl, by go_num, M4.out, by simpa [flush] using NX.out, fun h => by omega⟩

                | none =>
                  have hz : frV none = (-1 : Int) := rfl
                  cases note with
                  | true =>
                    go_wp2_with fail
                    go_roundg (s.size + 1 - (i + 1))
                    case measure => omega
                    case rel => exact ⟨v, lv, k, i + 1, ws, none, true, rfl, rfl, rfl, rfl, rfl, by go_num, M.out, by simpa [flush] using NX.out, fun h => by omega⟩

                  | false =>
                    go_wp2_with fail
                    go_roundg (s.size + 1 - (i + 1))
                    case measure => omega
                    case rel => exact ⟨v, lv, k, i + 1, ws, none, true, rfl, rfl, rfl, rfl, rfl, by go_num, M.out, by simpa [flush] using NX.out, fun h => by omega⟩

              have hsep : isSep (byteAt s i) = false := by simp [isSep]; omega
              have u9 : (byteAt s i == 9) = false := by rw [beq_eq_false_iff_ne]; rintro h; rw [h] at hsep; cases hsep
              have u9n : (byteAt s i != 9) = true := by rw [bne_iff_ne]; rintro h; rw [h] at hsep; cases hsep
              have u32 : (byteAt s i == 32) = false := by rw [beq_eq_false_iff_ne]; rintro h; rw [h] at hsep; cases hsep
              have u32n : (byteAt s i != 32) = true := by rw [bne_iff_ne]; rintro h; rw [h] at hsep; cases hsep
              have u35 : (byteAt s i == 35) = false := by rw [beq_eq_false_iff_ne]; rintro h; rw [h] at hsep; cases hsep
              have u35n : (byteAt s i != 35) = true := by rw [bne_iff_ne]; rintro h; rw [h] at hsep; cases hsep
              cases note with
              | true =>
                have hn := R.out.nf rfl
                subst hn
                have hz : frV none = (-1 : Int) := rfl
                have NX := hid (R.out.note ls h10 hsep)
                clear hsep h10
                go_wp2_with fail
                go_roundg (s.size + 1 - (i + 1))
                case measure => omega
                case rel => exact ⟨v, lv, k, i + 1, ws, none, true, rfl, rfl, rfl, rfl, rfl, by go_num, M.out, NX.out, fun h => by omega⟩

              | false =>
                have NX := hid (R.out.letter ls h10 hsep)
                clear hsep h10
                cases fr with
                | some f =>
                  have hz : frV (some f) = (f : Int) := rfl
                  have hf0 : (0 : Int) ≤ (f : Int) := by omega
                  have hf1 : decide ((f : Int) < 0) = false := decide_eq_false (by omega)
                  go_wp2_with fail
                  go_roundg (s.size + 1 - (i + 1))
                  case measure => omega
                  case rel => exact ⟨v, lv, k, i + 1, ws, some f, false, rfl, rfl, rfl, rfl, rfl, by go_num, M.out, NX.out, fun h => by omega⟩

                | none =>
                  have hz : frV none = (-1 : Int) := rfl
                  go_wp2_with fail
                  go_roundg (s.size + 1 - (i + 1))
                  case measure => omega
                  case rel => exact ⟨v, lv, k, i + 1, ws, some i, false, rfl, rfl, rfl, rfl, rfl, by go_num, M.out, NX.out, fun h => by omega⟩

        · obtain rfl : i = s.size + 1 := by omega
          obtain ⟨f1, f2⟩ := FIN.out rfl
          obtain ⟨sl, rfl, hl⟩ := R.out.fin M.out (by omega) (by omega) f1 f2
          have HL := hid hl
          have LOW := hid M.out.low
          clear hl f1 f2
          go_wp2_with fail
          go_ret3
          exact ⟨sl, 0, 0, rfl, LOW.out, .inr ⟨HG.out, rfl, rfl, HL.out⟩⟩

end Go.Proofs.YtlakhndnoaoheaaDoor.Lx
