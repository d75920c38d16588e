/- What is asked of the program's nine functions of package ops (each proved of the code, at its round), and the laws on sorts, walked over it. -/
import Derived.Test.YtebpoladoimjgaaDoorRows
import Derived.Test.YtebpoladoimjgaaDoorSi
import Derived.Test.YtebpoladoimjgaaDoorTg
import Derived.WalkKit
import Derived.WalkLawsBesides
import Derived.Deep.QuietTactic
import Derived.BigQuiet
import Derived.WalkSmall
import Derived.WalkSpells
import Derived.Lib.Hide
import Derived.Below
import Derived.Deep.Cut
import Derived.LoopTactic
import Derived.Deep.RegionHeld3
import Derived.Deep.DeepCutAuto
namespace Go.Proofs.YtebpoladoimjgaaDoor
open Go.RowKit

def I64 (x : Int) : Prop := -9223372036854775808 ≤ x ∧ x ≤ 9223372036854775807
/-- The operation of a name; 0: none. -/
def bynm (l : List UInt8) : Int := if l ∈ nmL then (nmL.idxOf l : Int) + 1 else 0
def memB (op : Int) : Bool := decide (0 < siz op)
def ldsB (op : Int) : Bool := decide (srt op = 4 ∨ srt op = 10 ∨ srt op = 12)
def stsB (op : Int) : Bool := decide (srt op = 5 ∨ srt op = 11 ∨ srt op = 12)
/-- In every world behind W. -/
structure Cops (W : World) : Prop where
  sort : ∀ op w, BW W w → I64 op → Calls Tryd.prog 16 #[.int .i64 op] w fun e w' => e = .returned (.int .i64 (srt op)) ∧ Below w.heap.size w w'
  size : ∀ op w, BW W w → I64 op → Calls Tryd.prog 17 #[.int .i64 op] w fun e w' => e = .returned (.int .i64 (siz op)) ∧ Below w.heap.size w w'
  mem : ∀ op w, BW W w → I64 op → Calls Tryd.prog 20 #[.int .i64 op] w fun e w' => e = .returned (.bool (memB op)) ∧ Below w.heap.size w w'
  lds : ∀ op w, BW W w → I64 op → Calls Tryd.prog 21 #[.int .i64 op] w fun e w' => e = .returned (.bool (ldsB op)) ∧ Below w.heap.size w w'
  sts : ∀ op w, BW W w → I64 op → Calls Tryd.prog 22 #[.int .i64 op] w fun e w' => e = .returned (.bool (stsB op)) ∧ Below w.heap.size w w'
  name : ∀ op w, BW W w → I64 op → Calls Tryd.prog 15 #[.int .i64 op] w fun e w' => e = .returned (tx (nmO op)) ∧ Below w.heap.size w w'
  byname : ∀ q : ByteArray, ∀ w, BW W w → Calls Tryd.prog 14 #[.string q] w fun e w' => e = .returned (.int .i64 (bynm q.toList)) ∧ Below w.heap.size w w'
  sources : ∀ i w, BW W w → I64 i.op → Calls Tryd.prog 9 #[insV i] w (RetI w (srcs i))
  target : ∀ i w, BW W w → I64 i.op → Calls Tryd.prog 11 #[insV i] w fun e w' => e = .returned (.int .i64 (tgt i)) ∧ Below w.heap.size w w'

theorem Cops.on {W w : World} (C : Cops W) (h : BW W w) : Cops w :=
  ⟨fun op x hx => C.sort op x (h.on hx), fun op x hx => C.size op x (h.on hx), fun op x hx => C.mem op x (h.on hx), fun op x hx => C.lds op x (h.on hx), fun op x hx => C.sts op x (h.on hx), fun op x hx => C.name op x (h.on hx), fun q x hx => C.byname q x (h.on hx), fun i x hx => C.sources i x (h.on hx), fun i x hx => C.target i x (h.on hx)⟩
section
variable {W w : World} (C : Cops W) (h : BW W w)
include C h
theorem c_sort {op : Int} (ho : I64 op) : Calls Tryd.prog 16 #[.int .i64 op] w fun e w' => e = .returned (.int .i64 (srt op)) ∧ BW W w' := (C.sort op w h ho).mono fun _ _ ⟨he, hb⟩ => ⟨he, h.on hb⟩
theorem c_size {op : Int} (ho : I64 op) : Calls Tryd.prog 17 #[.int .i64 op] w fun e w' => e = .returned (.int .i64 (siz op)) ∧ BW W w' := (C.size op w h ho).mono fun _ _ ⟨he, hb⟩ => ⟨he, h.on hb⟩
theorem c_mem {op : Int} (ho : I64 op) : Calls Tryd.prog 20 #[.int .i64 op] w fun e w' => e = .returned (.bool (memB op)) ∧ BW W w' := (C.mem op w h ho).mono fun _ _ ⟨he, hb⟩ => ⟨he, h.on hb⟩
theorem c_lds {op : Int} (ho : I64 op) : Calls Tryd.prog 21 #[.int .i64 op] w fun e w' => e = .returned (.bool (ldsB op)) ∧ BW W w' := (C.lds op w h ho).mono fun _ _ ⟨he, hb⟩ => ⟨he, h.on hb⟩
theorem c_sts {op : Int} (ho : I64 op) : Calls Tryd.prog 22 #[.int .i64 op] w fun e w' => e = .returned (.bool (stsB op)) ∧ BW W w' := (C.sts op w h ho).mono fun _ _ ⟨he, hb⟩ => ⟨he, h.on hb⟩
theorem c_name {op : Int} (ho : I64 op) : Calls Tryd.prog 15 #[.int .i64 op] w fun e w' => e = .returned (tx (nmO op)) ∧ BW W w' := (C.name op w h ho).mono fun _ _ ⟨he, hb⟩ => ⟨he, h.on hb⟩
theorem c_byname (q : ByteArray) : Calls Tryd.prog 14 #[.string q] w fun e w' => e = .returned (.int .i64 (bynm q.toList)) ∧ BW W w' := (C.byname q w h).mono fun _ _ ⟨he, hb⟩ => ⟨he, h.on hb⟩
omit C in
theorem d_sort {op : Int} (ho : I64 op) : Calls Tryd.prog 18 #[.int .i64 op] w fun e w' => e = .returned (.int .i64 (srt op)) ∧ BW W w' := sort_bw W w h op ho.1 ho.2
omit C in
theorem d_size {op : Int} (ho : I64 op) : Calls Tryd.prog 19 #[.int .i64 op] w fun e w' => e = .returned (.int .i64 (siz op)) ∧ BW W w' := (rsize_any op ho.1 ho.2 w).mono fun _ _ ⟨he, hb⟩ => ⟨he, h.on hb⟩
omit C in
theorem d_name {op : Int} (ho : I64 op) : Calls Tryd.prog 23 #[.int .i64 op] w fun e w' => e = .returned (tx (nmO op)) ∧ BW W w' := name_bw W w h op ho.1 ho.2
end

set_option maxRecDepth 100000 in
theorem one_any {W : World} (C : Cops W) (op : Int) (ho : I64 op) (w : World) (h : BW W w) : Calls Tryd.prog 7 #[.int .i64 op] w fun e w' => e = .returned (.bool true) ∧ BW W w' := by
  have e1 : memB op = decide (0 < siz op) := rfl
  have e2 : ldsB op = decide (srt op = 4 ∨ srt op = 10 ∨ srt op = 12) := rfl
  have e3 : stsB op = decide (srt op = 5 ∨ srt op = 11 ∨ srt op = 12) := rfl
  have S := fun w (h : BW W w) => c_sort C h ho
  have Z := fun w (h : BW W w) => c_size C h ho
  have M := fun w (h : BW W w) => c_mem C h ho
  have L := fun w (h : BW W w) => c_lds C h ho
  have T := fun w (h : BW W w) => c_sts C h ho
  have N := fun w (h : BW W w) => c_name C h ho
  have dS := fun w (h : BW W w) => d_sort h ho
  have dZ := fun w (h : BW W w) => d_size h ho
  have dN := fun w (h : BW W w) => d_name h ho
  rw [e1] at M
  rw [e2] at L
  rw [e3] at T
  unfold tx at N dN
  generalize bs (nmO op) = q at *
  generalize siz op = z at *
  have hk := srt_spec op
  have hk' : 0 ≤ srt op ∧ srt op ≤ 12 := by omega
  clear hk e1 e2 e3
  generalize srt op = k at *
  have hc : k = 4 ∨ k = 10 ∨ k = 12 ∨ k = 5 ∨ k = 11 ∨ (k ≠ 4 ∧ k ≠ 10 ∧ k ≠ 12 ∧ k ≠ 5 ∧ k ≠ 11) := by omega
  rcases hc with rfl | rfl | rfl | rfl | rfl | ⟨n1, n2, n3, n4, n5⟩
  case' inr.inr.inr.inr.inr =>
    have f1 : decide (k = 4 ∨ k = 10 ∨ k = 12) = false := by simp; omega
    have f2 : decide (k = 5 ∨ k = 11 ∨ k = 12) = false := by simp; omega
    rw [f1] at L
    rw [f2] at T
    have b1 : (k == 4) = false := by simp; omega
    have b2 : (k == 10) = false := by simp; omega
    have b3 : (k == 12) = false := by simp; omega
    have b4 : (k == 5) = false := by simp; omega
    have b5 : (k == 11) = false := by simp; omega
    clear f1 f2 n1 n2 n3 n4 n5
  all_goals
    first | (rw [show decide ((4 : Int) = 4 ∨ (4 : Int) = 10 ∨ (4 : Int) = 12) = true by decide] at L; rw [show decide ((4 : Int) = 5 ∨ (4 : Int) = 11 ∨ (4 : Int) = 12) = false by decide] at T) | skip
    first | (rw [show decide ((10 : Int) = 4 ∨ (10 : Int) = 10 ∨ (10 : Int) = 12) = true by decide] at L; rw [show decide ((10 : Int) = 5 ∨ (10 : Int) = 11 ∨ (10 : Int) = 12) = false by decide] at T) | skip
    first | (rw [show decide ((12 : Int) = 4 ∨ (12 : Int) = 10 ∨ (12 : Int) = 12) = true by decide] at L; rw [show decide ((12 : Int) = 5 ∨ (12 : Int) = 11 ∨ (12 : Int) = 12) = true by decide] at T) | skip
    first | (rw [show decide ((5 : Int) = 4 ∨ (5 : Int) = 10 ∨ (5 : Int) = 12) = false by decide] at L; rw [show decide ((5 : Int) = 5 ∨ (5 : Int) = 11 ∨ (5 : Int) = 12) = true by decide] at T) | skip
    first | (rw [show decide ((11 : Int) = 4 ∨ (11 : Int) = 10 ∨ (11 : Int) = 12) = false by decide] at L; rw [show decide ((11 : Int) = 5 ∨ (11 : Int) = 11 ∨ (11 : Int) = 12) = true by decide] at T) | skip
    go_enter Tryd.func7, Tryd.ntmps7
    go_wp2_with (first
      | (go_at_call 16; refine (S _ (by assumption)).mono ?_; rintro e w' ⟨rfl, HB⟩)
      | (go_at_call 17; refine (Z _ (by assumption)).mono ?_; rintro e w' ⟨rfl, HB⟩)
      | (go_at_call 20; refine (M _ (by assumption)).mono ?_; rintro e w' ⟨rfl, HB⟩)
      | (go_at_call 21; refine (L _ (by assumption)).mono ?_; rintro e w' ⟨rfl, HB⟩)
      | (go_at_call 22; refine (T _ (by assumption)).mono ?_; rintro e w' ⟨rfl, HB⟩)
      | (go_at_call 15; refine (N _ (by assumption)).mono ?_; rintro e w' ⟨rfl, HB⟩)
      | (go_at_call 18; refine (dS _ (by assumption)).mono ?_; rintro e w' ⟨rfl, HB⟩)
      | (go_at_call 19; refine (dZ _ (by assumption)).mono ?_; rintro e w' ⟨rfl, HB⟩)
      | (go_at_call 23; refine (dN _ (by assumption)).mono ?_; rintro e w' ⟨rfl, HB⟩))
    all_goals go_ret
    all_goals exact ⟨by simp, by assumption⟩
end Go.Proofs.YtebpoladoimjgaaDoor
