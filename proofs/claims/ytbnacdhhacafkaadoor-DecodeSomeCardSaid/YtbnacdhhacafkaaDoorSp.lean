/- The program's spread, format by format (written by a program: one walk a format). -/
import Derived.Test.YtbnacdhhacafkaaDoorRows
import Derived.Test.YtbnacdhhacafkaaDoorWd
import Derived.Test.YtbnacdhhacafkaaDoorBk
import Derived.Test.YtbnacdhhacafkaaDoorFa
import Derived.WalkKit
import Derived.WalkLawsBesides
import Derived.Deep.QuietTactic
import Derived.BigQuiet
import Derived.WalkSmall
import Derived.WalkSpells
import Derived.Lib.Hide
import Derived.Below
import Derived.Deep.Cut
import Derived.Deep.WholeRow
import Derived.LoopTactic
namespace Go.Proofs.YtbnacdhhacafkaaDoor
open Go.RowKit
theorem below_drewN {B : Nat} {a w : World} (h : Below B a w) (n : Nat) : Below B a (w.drewN n) := ⟨h.os, h.tape, h.output, h.size, h.block⟩
theorem bcell {W w1 : World} (hb : Below W.heap.size W w1) : (∀ b o, b < W.heap.size → w1.cell? ⟨b, o, none⟩ = W.cell? ⟨b, o, none⟩) ∧ (∀ b o, b < W.heap.size → w1.frozen? ⟨b, o, none⟩ = W.frozen? ⟨b, o, none⟩) :=
  ⟨fun b o h => hb.cell (p := ⟨b, o, none⟩) h, fun b o h => hb.frozen (p := ⟨b, o, none⟩) h⟩
theorem held_place {w w2 w' : World} {x y z : Value} {t : TypeId} (hb : Below w.heap.size w w2) (hb2 : Below (w2.alloc (.cells #[x, y, z] t)).heap.size (w2.alloc (.cells #[x, y, z] t)) w')
    (hc : ∀ b o, b < (w2.alloc (.cells #[x, y, z] t)).heap.size → w'.cell? ⟨b, o, none⟩ = (w2.alloc (.cells #[x, y, z] t)).cell? ⟨b, o, none⟩) :
    w'.cell? ⟨w2.heap.size, 0, none⟩ = some x ∧ w'.cell? ⟨w2.heap.size, 1, none⟩ = some y ∧ w'.cell? ⟨w2.heap.size, 2, none⟩ = some z ∧ Below w.heap.size w w' := by
  have hl : w2.heap.size < (w2.alloc (.cells #[x, y, z] t)).heap.size := by simp
  have hn : ∀ o, (w2.alloc (.cells #[x, y, z] t)).cell? ⟨w2.heap.size, o, none⟩ = #[x, y, z][o]? := fun o => cell_of_row _ _ o #[x, y, z] t (0, 0) (heap_alloc_last w2 _)
  refine ⟨?_, ?_, ?_, (hb.alloc hb.size _).trans (hb2.mono (by have := hb.size; simp; omega))⟩
  · rw [hc _ _ hl, hn]; rfl
  · rw [hc _ _ hl, hn]; rfl
  · rw [hc _ _ hl, hn]; rfl
theorem u32_or_free {a p : Int} (lo n : Nat) (hn : lo + n ≤ 32) (a0 : 0 ≤ a) (a1 : a < 4294967296) (h : a / 2 ^ lo % 2 ^ n = 0) (p0 : 0 ≤ p) (p1 : p < 2 ^ n) : bits .or .u32 a (p * 2 ^ lo) = a + p * 2 ^ lo := by
  obtain ⟨A, rfl⟩ := Int.eq_ofNat_of_zero_le a0
  obtain ⟨B, rfl⟩ := Int.eq_ofNat_of_zero_le p0
  have hA : A < 4294967296 := by omega
  have hB : B < 2 ^ n := by exact_mod_cast p1
  have hN : A / 2 ^ lo % 2 ^ n = 0 := by exact_mod_cast h
  have hBl : B * 2 ^ lo < 4294967296 := by
    have h1 : B * 2 ^ lo < 2 ^ n * 2 ^ lo := Nat.mul_lt_mul_of_pos_right hB (Nat.pow_pos (by decide))
    have h2 : 2 ^ n * 2 ^ lo ≤ 2 ^ 32 := by rw [← Nat.pow_add]; exact Nat.pow_le_pow_right (by decide) (by omega)
    omega
  have e : ((B : Int) * 2 ^ lo) = ((B * 2 ^ lo : Nat) : Int) := by simp
  rw [e, u32_or_nat A _ hA hBl, or_disj hA hBl (nor_free lo n hN hB), Int.natCast_add]
end Go.Proofs.YtbnacdhhacafkaaDoor
