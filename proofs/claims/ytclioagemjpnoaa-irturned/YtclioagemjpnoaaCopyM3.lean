/-
  A module's copy, in new memory: ir.copyEach at Func, ir.Copy.
-/
import Derived.Test.YtclioagemjpnoaaCopyM2
import Derived.Test.YtclioagemjpnoaaSameM
namespace Go.Proofs.Ytclioagemjpnoaa.CpM
open Go.RowKit View Rd Copy Srt Own Go.Proofs.Ytclioagemjpnoaa.Mod

set_option linter.unusedVariables false

theorem Own.apart {base : Nat} {w w' : World} {F : FV} {at_ : Own.Id → Nat} (h : Own base w F at_) (kp : Kept (fun b => base ≤ b ∧ b < w.heap.size) w w') : Own base w' F at_ := by
  refine ⟨⟨h.inn.par.kept kp fun b o ha h0 => h.pm.ge b o ha h0, Sls_kept h.inn.blk kp fun b o ha h0 => h.bm.ge b o ha h0, fun j hj => Inss_kept (h.inn.ins j hj) kp fun b o ha h0 => ?_, fun j hj k hk => (h.inn.args j hj k hk).kept kp fun b o ha h0 => ?_, fun j hj k hk => (h.inn.into j hj k hk).kept kp fun b o ha h0 => ?_⟩, h.adr, h.ge, fun x hx h0 => Nat.lt_of_lt_of_le (h.lt x hx h0) kp.size, fun x hx h0 i => by rw [World.frozen?_of_block (w := w) (kp.block _ ⟨h.ge x hx h0, h.lt x hx h0⟩)]; exact h.fz x hx h0 i, h.sep, h.par, h.blk, (h.pm.kept kp (fun b h1 h2 => ⟨h1, h2⟩)).wide (Nat.le_refl _) kp.size, (h.bm.kept kp (fun b h1 h2 => ⟨h1, h2⟩)).wide (Nat.le_refl _) kp.size⟩
  · have e := adr_inj (h.adr (.row j) hj h0) ha
    rw [e]; exact ⟨h.ge (.row j) hj h0, h.lt (.row j) hj h0⟩
  · have e := adr_inj (h.adr (.arg j k) ⟨hj, hk⟩ h0) ha
    rw [e]; exact ⟨h.ge (.arg j k) ⟨hj, hk⟩ h0, h.lt (.arg j k) ⟨hj, hk⟩ h0⟩
  · have e := adr_inj (h.adr (.int j k) ⟨hj, hk⟩ h0) ha
    rw [e]; exact ⟨h.ge (.int j k) ⟨hj, hk⟩ h0, h.lt (.int j k) ⟨hj, hk⟩ h0⟩

/-- Of a function that was copied. -/
def ElF (F : Nat → FV) (base : Nat) (w : World) (i : Nat) (T : FV) : Prop := ∃ at_, Own base w T at_ ∧ Light T ∧ Twins (F i) T

theorem ElF.on {F : Nat → FV} {base : Nat} {w w' : World} {i : Nat} {T : FV} (hb : Below w.heap.size w w') (h : ElF F base w i T) : ElF F base w' i T := by
  obtain ⟨a, h1, h2, h3⟩ := h
  exact ⟨a, h1.on hb, h2, h3⟩

theorem ElF.grown {F : Nat → FV} {base G : Nat} {w w' : World} {i : Nat} {T : FV} (h : ElF F base w i T) (hg : w.grownBy w' (some G)) (hG : G < base) : ElF F base w' i T := by
  obtain ⟨a, h1, h2, h3⟩ := h
  have kg := kept_of_grown hg
  exact ⟨a, Own.apart h1 ⟨kg.size, fun k hk => kg.block k ⟨by omega, hk.2⟩⟩, h2, h3⟩

theorem Own.lower {base base' : Nat} {w : World} {F : FV} {at_ : Own.Id → Nat} (h : Own base w F at_) (hb : base' ≤ base) : Own base' w F at_ :=
  ⟨h.inn, h.adr, fun x hx h0 => Nat.le_trans hb (h.ge x hx h0), h.lt, h.fz, h.sep, h.par, h.blk, h.pm.wide hb (Nat.le_refl _), h.bm.wide hb (Nat.le_refl _)⟩

theorem info36c : (Try.prog.info? 35).map (fun i => (i.zero, i.size, i.bytes)) = some (some (.agg #[.string ByteArray.empty, .bool false, .slice none 0 0, .int .i64 0, .slice none 0 0]), 5, 80) := by kernel_rfl

theorem new_five (w : World) (x0 x1 x2 x3 x4 : Value) (t : TypeId) : ∀ j u, [x0, x1, x2, x3, x4][j]? = some u → (w.alloc (.cells #[x0, x1, x2, x3, x4] t)).cell? ((⟨w.heap.size, 0, none⟩ : Addr).add j) = some u := by
  intro j u hj
  match j, hj with
  | 0, hj => simp at hj; subst hj; simp [Addr.add]
  | 1, hj => simp at hj; subst hj; simp [Addr.add]
  | 2, hj => simp at hj; subst hj; simp [Addr.add]
  | 3, hj => simp at hj; subst hj; simp [Addr.add]
  | 4, hj => simp at hj; subst hj; simp [Addr.add]
  | (j + 5), hj => simp at hj

end Go.Proofs.Ytclioagemjpnoaa.CpM
