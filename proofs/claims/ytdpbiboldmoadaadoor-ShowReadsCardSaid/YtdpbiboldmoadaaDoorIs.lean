/- Whether a word is an operation's: the document's Is, by kinds of operations. -/
import Derived.Test.YtdpbiboldmoadaaDoorRows
import Derived.Test.YtdpbiboldmoadaaDoorSy
import Derived.Test.YtdpbiboldmoadaaDoorOc
import Derived.Test.YtdpbiboldmoadaaDoorFc
import Derived.Test.YtdpbiboldmoadaaDoorSh
import Derived.Test.YtdpbiboldmoadaaDoorFm
import Derived.WalkKit
import Derived.WalkLawsBesides
import Derived.Deep.QuietTactic
import Derived.BigQuiet
import Derived.WalkSmall
import Derived.WalkSpells
import Derived.Lib.Hide
import Derived.Below
set_option maxRecDepth 100000
namespace Go.Proofs.YtdpbiboldmoadaaDoor
open Go.RowKit

theorem isw_of {v op : Int} {c : Bool} (h : c = true ↔ Isw v op) : c = iswB v op := by unfold iswB; rw [Bool.eq_iff_iff, h, decide_eq_true_eq]
theorem em_ne (x y : Int) : (Hid (x = y) ∧ (x != y) = false) ∨ (Hid (x ≠ y) ∧ (x != y) = true) := by
  by_cases h : x = y
  · exact .inl ⟨h, by simp [h]⟩
  · exact .inr ⟨h, by simp [h]⟩
theorem em_eq (x y : Int) : (Hid (x = y) ∧ (x == y) = true) ∨ (Hid (x ≠ y) ∧ (x == y) = false) := by
  by_cases h : x = y
  · exact .inl ⟨h, by simp [h]⟩
  · exact .inr ⟨h, by simp [h]⟩
/-- What holds of a kind. -/
def Kf (op : Int) : Prop :=
  (kdV op = 0 ∧ srt op = 1) ∨ (kdV op = 0 ∧ op = 3 ∧ srt op = 2) ∨ (kdV op = 1 ∧ 1 < srt op ∧ srt op < 7 ∧ op ≠ 3 ∧ shV op = 0) ∨
  (kdV op = 2 ∧ srt op = 7 ∧ op ≠ 3 ∧ ((turB op = true ∧ agV op = 32) ∨ (turB op = false ∧ agV op = 0))) ∨ (kdV op = 2 ∧ srt op = 6 ∧ op ≠ 3 ∧ shV op = 5 ∧ ((turB op = true ∧ agV op = 32) ∨ (turB op = false ∧ agV op = 0))) ∨
  (kdV op = 3 ∧ srt op = 6 ∧ op ≠ 3 ∧ shV op = 6 ∧ ((turB op = true ∧ agV op = 16) ∨ (turB op = false ∧ agV op = 0))) ∨ (kdV op = 4 ∧ srt op = 10 ∧ op ≠ 3 ∧ shV op = 0 ∧ 54 ≤ op) ∨ (kdV op = 5 ∧ 10 < srt op ∧ op ≠ 3 ∧ shV op = 0 ∧ 54 ≤ op) ∨
  (op = 50) ∨ (op = 51) ∨ (op = 52) ∨ (op = 53)
instance (op : Int) : Decidable (Kf op) := by unfold Kf; infer_instance
theorem kf_all : ∀ k : Fin 75, Kf ((k.val : Int) + 1) := by decide
section
variable (op : Int) (h : 1 ≤ op ∧ op ≤ 75) (w : World)
include h
theorem i_s : ∀ w1, BW w w1 → Calls Tryd.prog 23 #[.int .i64 op] w1 fun e w' => e = .returned (.int .i64 (srt op)) ∧ BW w w' := fun w1 hb => sort_bw w w1 hb op (by omega) (by omega)
theorem i_h : ∀ w1, BW w w1 → Calls Tryd.prog 27 #[.int .i64 op] w1 fun e w' => e = .returned (.int .i64 (shV op)) ∧ BW w w' := fun w1 hb => (sh_any op h w1).mono fun _ _ ⟨he, hc⟩ => ⟨he, hb.on hc⟩
end
end Go.Proofs.YtdpbiboldmoadaaDoor
