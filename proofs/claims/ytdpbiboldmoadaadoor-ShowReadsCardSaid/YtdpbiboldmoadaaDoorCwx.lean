/- The program's small functions of package decode, over the tables that the code lays. None of them writes or makes memory. From a row's laid table to its cells: numbers. The program's operation of a word: by opcodes, over the tables that the code lays. -/
import Derived.Test.YtdpbiboldmoadaaDoorRows
import Derived.Test.YtdpbiboldmoadaaDoorDq
import Derived.Test.YtdpbiboldmoadaaDoorWx
import Derived.Test.YtdpbiboldmoadaaDoorOp5
import Derived.Test.YtdpbiboldmoadaaDoorCqd
import Derived.Test.YtdpbiboldmoadaaDoorBk4
import Derived.WalkKit
import Derived.WalkLawsBesides
import Derived.Deep.QuietTactic
import Derived.BigQuiet
import Derived.WalkSmall
import Derived.WalkSpells
import Derived.Lib.Hide
import Derived.Below
import Derived.Deep.Cut
import Derived.Test.YtdpbiboldmoadaaDoorBa
import Derived.Test.YtdpbiboldmoadaaDoorTi
import Derived.ProofKit
set_option maxRecDepth 100000
namespace Go.Proofs.YtdpbiboldmoadaaDoor
open Go.RowKit

def soL : List Int := [0, 0, 0, 99, 3, 35, 19, 51, 15, 115, 47, 47, 47]
/-- The tables, as the code lays them, of a seat that has none of package decode's. -/
structure Tab6 (w : World) : Prop where
  lasts : TabL w
  lay : Tab w
theorem Tab6.below {W w : World} (h : Tab6 W) (hb : Below W.heap.size W w) : Tab6 w := ⟨h.lasts.below hb, h.lay.below hb (World.block_lt_of_cell? W _ (h.lay 0 (by decide)))⟩

theorem fo_range (v hi lo : Int) (_hv : U32 v) : 0 ≤ fieldOf v hi lo ∧ fieldOf v hi lo < 4294967296 := by
  unfold fieldOf
  split
  · unfold fld
    have h1 := two_pow_pos (hi.toNat + 1 - lo.toNat)
    have h2 : (2 : Int) ^ (hi.toNat + 1 - lo.toNat) ≤ 2 ^ 32 := two_pow_le (by omega)
    have h3 := Int.emod_nonneg (v / 2 ^ lo.toNat) (Int.ne_of_gt h1)
    have h4 := Int.emod_lt_of_pos (v / 2 ^ lo.toNat) h1
    exact ⟨h3, by omega⟩
  · omega
section
variable (v : Int)
theorem fo_op : fieldOf v 6 0 = v % 128 := by rw [fieldOf_yes (by decide)]; unfold fld; simp
theorem fo_rd : fieldOf v 11 7 = v / 128 % 32 := by rw [fieldOf_yes (by decide)]; unfold fld; simp
theorem fo_f3 : fieldOf v 14 12 = v / 4096 % 8 := by rw [fieldOf_yes (by decide)]; unfold fld; simp
theorem fo_r1 : fieldOf v 19 15 = v / 32768 % 32 := by rw [fieldOf_yes (by decide)]; unfold fld; simp
theorem fo_r2 : fieldOf v 24 20 = v / 1048576 % 32 := by rw [fieldOf_yes (by decide)]; unfold fld; simp
theorem fo_s6 : fieldOf v 25 20 = v / 1048576 % 64 := by rw [fieldOf_yes (by decide)]; unfold fld; simp
theorem fo_aq : fieldOf v 26 26 = v / 67108864 % 2 := by rw [fieldOf_yes (by decide)]; unfold fld; simp
theorem fo_rl : fieldOf v 25 25 = v / 33554432 % 2 := by rw [fieldOf_yes (by decide)]; unfold fld; simp
theorem fo_pr : fieldOf v 27 24 = v / 16777216 % 16 := by rw [fieldOf_yes (by decide)]; unfold fld; simp
theorem fo_su : fieldOf v 23 20 = v / 1048576 % 16 := by rw [fieldOf_yes (by decide)]; unfold fld; simp
theorem fo_up : fieldOf v 31 20 = v / 1048576 % 4096 := by rw [fieldOf_yes (by decide)]; unfold fld; simp
theorem fo_f7 : fieldOf v 31 25 = v / 33554432 % 128 := by rw [fieldOf_yes (by decide)]; unfold fld; simp
theorem fo_f5 : fieldOf v 31 27 = v / 134217728 % 32 := by rw [fieldOf_yes (by decide)]; unfold fld; simp
end
/-- The plain operation or the other one, by f7. -/
def eitV (f a b : Int) : Int := if f = 0 then a else if f = 32 then b else 0
theorem eit_cases {x f a b : Int} (h0 : f = 0 → x = a) (h1 : f = 32 → x = b) (h2 : f ≠ 0 → f ≠ 32 → x = 0) : x = eitV f a b := by
  unfold eitV
  by_cases e0 : f = 0
  · rw [if_pos e0]; exact h0 e0
  · rw [if_neg e0]
    by_cases e1 : f = 32
    · rw [if_pos e1]; exact h1 e1
    · rw [if_neg e1]; exact h2 e0 e1
theorem l8_nat (l : List Int) (f : Nat) : l8 l (f : Int) = l.getD f 0 := rfl
theorem opW_pair {v : Int} {f : Nat} (ho : v % 128 = 51) (h3 : v / 4096 % 8 = (f : Int)) (_hf : f < 8) : opW v = eitV (v / 33554432) (pairL.getD f 0) (opairL.getD f 0) :=
  eit_cases (fun h => opW_pair0 ho h3 (by omega) h) (fun h => opW_pair32 ho h3 (by omega) h) (fun h h' => opW_pairx ho rfl h h')
theorem opW_pairw {v : Int} {f : Nat} (ho : v % 128 = 59) (h3 : v / 4096 % 8 = (f : Int)) (_hf : f < 8) : opW v = eitV (v / 33554432) (pairwL.getD f 0) (opairwL.getD f 0) :=
  eit_cases (fun h => opW_pairw0 ho h3 (by omega) h) (fun h => opW_pairw32 ho h3 (by omega) h) (fun h h' => opW_pairwx ho rfl h h')
theorem opW_shi {v : Int} {f : Nat} (ho : v % 128 = 19) (h3 : v / 4096 % 8 = (f : Int)) (_hf : f < 8) (hn : numL.getD f 0 = 0) : opW v = eitV (v / 33554432 / 2 * 2) (shiL.getD f 0) (oshiL.getD f 0) :=
  eit_cases (fun h => opW_shi0 ho h3 (by omega) hn (by omega)) (fun h => opW_shi16 ho h3 (by omega) hn (by omega)) (fun h h' => opW_shix ho h3 (by omega) hn rfl (by omega) (by omega))
theorem opW_shiw {v : Int} {f : Nat} (ho : v % 128 = 27) (h3 : v / 4096 % 8 = (f : Int)) (_hf : f < 8) (hn : numwL.getD f 0 = 0) : opW v = eitV (v / 33554432) (shiwL.getD f 0) (oshiwL.getD f 0) :=
  eit_cases (fun h => opW_shiw0 ho h3 (by omega) hn h) (fun h => opW_shiw32 ho h3 (by omega) hn h) (fun h h' => opW_shiwx ho h3 (by omega) hn rfl h h')
theorem andn1 (s : Int) (h : 0 ≤ s ∧ s < 128) : bits .andNot .i64 s 1 = s / 2 * 2 := by
  obtain ⟨n, rfl⟩ := Int.eq_ofNat_of_zero_le h.1
  have : ∀ n : Fin 128, bits .andNot .i64 (n.val : Int) 1 = (n.val : Int) / 2 * 2 := by decide +kernel
  exact this ⟨n, by omega⟩
theorem f3_nat (v : Int) : ∃ f : Nat, v / 4096 % 8 = (f : Int) ∧ f < 8 := ⟨(v / 4096 % 8).toNat, by omega, by omega⟩

theorem drewN_below {w : World} (n : Nat) : Below w.heap.size w (w.drewN n) := ⟨rfl, rfl, rfl, Nat.le_refl _, fun _ _ => rfl⟩
end Go.Proofs.YtdpbiboldmoadaaDoor
namespace Go.Proofs.YtdpbiboldmoadaaDoor
open Go.RowKit

end Go.Proofs.YtdpbiboldmoadaaDoor
namespace Go.Proofs.YtdpbiboldmoadaaDoor
open Go.RowKit

theorem fen_50 : ∀ f : Fin 8, (fenceL.getD f.val 0 = 50 ∧ f.val = 0) ∨ (fenceL.getD f.val 0 = 0 ∧ f.val ≠ 0) := by decide
theorem at_sort : ∀ f : Fin 32, (f.val ≠ 2 → srt (atwL.getD f.val 0) ≠ 10 ∧ srt (atdL.getD f.val 0) ≠ 10) ∧ (-9223372036854775808 ≤ atwL.getD f.val 0 ∧ atwL.getD f.val 0 ≤ 9223372036854775807) ∧ (-9223372036854775808 ≤ atdL.getD f.val 0 ∧ atdL.getD f.val 0 ≤ 9223372036854775807) := by decide
end Go.Proofs.YtdpbiboldmoadaaDoor
