/- The contract of the document's Size: operation by operation. The contracts of the document's Target and Sources. What is asked of the program's nine functions of package ops (each proved of the code, at its round), and the laws on sorts, walked over it. The laws on sorts and on registers, walked over what is asked of package ops. The law on names, walked over what is asked of package ops. The program's small functions of package ops: what they answer, over the two tables that the code lays. None of them writes or makes memory. The program's Size, Memory, Loads, Stores, Name, ByName, and what registers operations have, over its tables. -/
import Derived.Test.YtoaonoflekcccaaDoorRows
import Derived.Test.YtoaonoflekcccaaDoorSy
import Derived.WalkKit
import Derived.WalkLawsBesides
import Derived.Deep.QuietTactic
import Derived.BigQuiet
import Derived.WalkSmall
import Derived.WalkSpells
import Derived.Lib.Hide
import Derived.Below
import Derived.Test.YtoaonoflekcccaaDoorBa
import Derived.Deep.Cut
import Derived.OwnWalk
import Derived.Laws.AppendOwn
import Derived.LoopTactic
import Derived.Deep.RegionHeld3
import Derived.Deep.DeepCutAuto
import Derived.Deep.LoopGhost
import Derived.IntWalk
import Derived.Laws.Rows
set_option maxRecDepth 100000
namespace Go.Proofs.YtoaonoflekcccaaDoor
open Go.RowKit

end Go.Proofs.YtoaonoflekcccaaDoor
namespace Go.Proofs.YtoaonoflekcccaaDoor
open Go.RowKit

def tgt (i : Ins) : Int := if wrB i.op then regV i.rd else 0
theorem BW.past {w X w1 : World} (hB : Below w.heap.size w X) (h : BW X w1) : Below w.heap.size w w1 := hB.trans (Below.mono h hB.size)
/-- The registers that an instruction reads. -/
def srcs (i : Ins) : List Int := (if firB i.op && decide (1 ≤ i.rs1 ∧ i.rs1 ≤ 31) then [i.rs1] else []) ++ (if secB i.op && decide (1 ≤ i.rs2 ∧ i.rs2 ≤ 31) then [i.rs2] else [])
theorem reg_pos (r : Int) : (0 < regV r) = (1 ≤ r ∧ r ≤ 31) := by
  unfold regV
  split <;> (apply propext; constructor <;> intro h <;> omega)
def cellsI (l : List Int) : List Value := l.map (Value.int .i64)
/-- The call returns a list of registers, in new memory or none. -/
def RetI (w : World) (l : List Int) (e : Ending) (w' : World) : Prop := ∃ A cap, e = .returned (.slice A l.length cap) ∧ Rd w' w'.heap.size A (cellsI l) ∧ Below w.heap.size w w'
theorem RetI.of_own {w w' : World} {l : List Int} {base : Nat} {e : TypeId} {n : Nat} {v : Value} (h : w'.ownsRow base e 1 v n (cellsI l)) (hb : Below w.heap.size w w') : RetI w l (.returned v) w' := by
  obtain ⟨A, c, rfl, hr⟩ := own_form h
  have hn : n = l.length := by have := h.1; unfold cellsI at this; rw [List.length_map] at this; omega
  subst hn
  exact ⟨A, c, rfl, hr, hb⟩
/-- The same, where the memory is new. -/
def RetN (w : World) (l : List Int) (e : Ending) (w' : World) : Prop := ∃ A cap, e = .returned (.slice A l.length cap) ∧ Rd w' w'.heap.size A (cellsI l) ∧ Below w.heap.size w w' ∧ ∀ a, A = some a → w.heap.size ≤ a.block
theorem RetN.of_own {w w' : World} {l : List Int} {e : TypeId} {n : Nat} {v : Value} (h : w'.ownsRow w.heap.size e 1 v n (cellsI l)) (hb : Below w.heap.size w w') : RetN w l (.returned v) w' := by
  obtain ⟨A, c, rfl, hr⟩ := own_form h
  have hn : n = l.length := by have := h.1; unfold cellsI at this; rw [List.length_map] at this; omega
  subst hn
  exact ⟨A, c, rfl, hr, hb, fun a ha => (h.lt a.block (by subst ha; rfl)).1⟩
theorem RetN.toI {w w' : World} {l : List Int} {e : Ending} (h : RetN w l e w') : RetI w l e w' := by
  obtain ⟨A, c, he, hr, hb, _⟩ := h
  exact ⟨A, c, he, hr, hb⟩
theorem info_int : (Tryd.prog.info? 3).map (fun i => (i.zero, i.size, i.bytes)) = some (some (.int .i64 0), 1, 8) := by kernel_rfl
theorem cell_new (w : World) (v : Value) (t : TypeId) : ∀ j u, [v][j]? = some u → (w.alloc (.cells #[v] t)).cell? ((⟨w.heap.size, 0, none⟩ : Addr).add j) = some u := by
  intro j u h
  cases j with
  | zero => simp at h; subst h; simp [Addr.add]
  | succ j => simp at h

theorem grown_of {w w' : World} (h : Below w.heap.size w w') : w.grownBy w' none := ⟨h.os, h.tape, h.output, h.size, fun k hk _ => h.block k hk⟩
theorem past_grown {w w' : World} {o : Obj} (h : (w.alloc o).grownBy w' none) : Below w.heap.size w w' :=
  ((Below.refl _ _).alloc (Nat.le_refl _) _).grown h (by simp) (fun _ h => by cases h)
theorem own_on {w w' : World} {base : Nat} {e : TypeId} {n : Nat} {v : Value} {xs : List Value} (h : w.ownsRow base e 1 v n xs) (hb : Below w.heap.size w w') : w'.ownsRow base e 1 v n xs :=
  h.kept (grown_of hb) (by cases v.ownBlock <;> simp)
end Go.Proofs.YtoaonoflekcccaaDoor
namespace Go.Proofs.YtoaonoflekcccaaDoor
open Go.RowKit

/-- The operation of a name; 0: none. -/
def bynm (l : List UInt8) : Int := if l ∈ nmL then (nmL.idxOf l : Int) + 1 else 0
def memB (op : Int) : Bool := decide (0 < siz op)
def ldsB (op : Int) : Bool := decide (srt op = 4 ∨ srt op = 10 ∨ srt op = 12)
def stsB (op : Int) : Bool := decide (srt op = 5 ∨ srt op = 11 ∨ srt op = 12)
section
end

end Go.Proofs.YtoaonoflekcccaaDoor
namespace Go.Proofs.YtoaonoflekcccaaDoor
open Go.RowKit

end Go.Proofs.YtoaonoflekcccaaDoor
namespace Go.Proofs.YtoaonoflekcccaaDoor
open Go.RowKit

def nmA (k : Nat) : List UInt8 := nmL.getD k []
theorem idx_nm : ∀ k : Fin 75, nmL.idxOf (nmA k.val) = k.val := by decide +kernel
theorem bynm_idx (l : List UInt8) : bynm l = if nmL.idxOf l < 75 then (nmL.idxOf l : Int) + 1 else 0 := by
  unfold bynm
  have : l ∈ nmL ↔ nmL.idxOf l < 75 := (List.idxOf_lt_length_iff (l := nmL) (a := l)).symm
  by_cases h : l ∈ nmL
  · rw [if_pos h, if_pos (this.1 h)]
  · rw [if_neg h, if_neg (fun g => h (this.2 g))]
theorem bynm_at {k : Nat} (h : k < 75) : bynm (nmA k) = (k : Int) + 1 := by
  rw [bynm_idx, idx_nm ⟨k, h⟩, if_pos h]
/-- The operation of a name, of the first k. -/
def wantK (l : List UInt8) (k : Nat) : Int := if nmL.idxOf l < k then (nmL.idxOf l : Int) + 1 else 0
theorem wantK_zero (l : List UInt8) : wantK l 0 = 0 := by unfold wantK; rw [if_neg (by omega)]
theorem wantK_end (l : List UInt8) : wantK l 75 = bynm l := by rw [bynm_idx]; rfl
theorem nmA_eq {l : List UInt8} {k : Nat} (h : k < 75) : nmA k = l ↔ nmL.idxOf l = k := by
  constructor
  · intro e; rw [← e]; exact idx_nm ⟨k, h⟩
  · intro e
    have hlt : nmL.idxOf l < nmL.length := by rw [e, nmL_len]; exact h
    have := List.getElem_idxOf hlt
    unfold nmA
    rw [List.getD_eq_getElem?_getD, List.getElem?_eq_getElem (by rw [nmL_len]; exact h)]
    simp only [Option.getD_some]
    simp only [e] at this
    exact this
theorem wantK_yes {l : List UInt8} {k : Nat} (h : k < 75) (e : nmA k = l) : wantK l (k + 1) = (k : Int) + 1 := by
  have := (nmA_eq h).1 e
  unfold wantK; rw [this, if_pos (by omega)]
theorem wantK_no {l : List UInt8} {k : Nat} (h : k < 75) (e : nmA k ≠ l) : wantK l (k + 1) = wantK l k := by
  have h2 : nmL.idxOf l ≠ k := fun g => e ((nmA_eq h).2 g)
  unfold wantK
  by_cases g : nmL.idxOf l < k
  · rw [if_pos g, if_pos (by omega)]
  · rw [if_neg g, if_neg (by omega)]
theorem wantK_range (l : List UInt8) (k : Nat) (h : k ≤ 75) : 0 ≤ wantK l k ∧ wantK l k ≤ 75 := by
  unfold wantK; split <;> omega
theorem nmO_at {op : Int} (h : 1 ≤ op ∧ op ≤ 75) : nmO op = nmA (op.toNat - 1) := by unfold nmO; rw [if_pos h]; rfl
theorem nmO_no {op : Int} (h : ¬ (1 ≤ op ∧ op ≤ 75)) : nmO op = [] := by unfold nmO; rw [if_neg h]
theorem nmA_some : ∀ k : Fin 75, nmA k.val ≠ [] := by decide

/-- The names lie at block g. -/
def NmAt (g : Nat) (w : World) : Prop := g < w.heap.size ∧ ∀ k, k < 75 → w.cell? ⟨g, k, none⟩ = some (tx (nmA k))
theorem NmAt.on {g : Nat} {w w' : World} (h : NmAt g w) (hb : Below w.heap.size w w') : NmAt g w' :=
  ⟨Nat.lt_of_lt_of_le h.1 hb.size, fun k hk => (hb.cell (p := ⟨g, k, none⟩) h.1).trans (h.2 k hk)⟩
def GotN (W w0 : World) (e : Ending) (w' : World) : Prop := e = .returned (.slice (some ⟨w0.heap.size, 0, none⟩) 75 75) ∧ BW W w' ∧ NmAt w0.heap.size w'
def N3 (W : World) (g k : Nat) (r : ByteArray) (w : World) : Prop := BW W w ∧ NmAt g w ∧ w.cell? ⟨g, k, none⟩ = some (.string r)
theorem N3.on {W : World} {g k : Nat} {r : ByteArray} {w w' : World} (h : N3 W g k r w) (hb : Below w.heap.size w w') : N3 W g k r w' :=
  ⟨h.1.on hb, h.2.1.on hb, (hb.cell (p := ⟨g, k, none⟩) h.2.1.1).trans h.2.2⟩
theorem NmAt.drew {g : Nat} {w : World} (h : NmAt g w) : NmAt g w.drew := h
theorem BW.drew' {W w : World} (h : BW W w) : BW W w.drew := Below.drew h
end Go.Proofs.YtoaonoflekcccaaDoor
namespace Go.Proofs.YtoaonoflekcccaaDoor
open Go.RowKit

def lsL : List Int := [0, 2, 4, 10, 17, 21, 34, 49, 51, 53, 55, 57, 75]
def lsV : Array Value := (lsL.map (Value.int .i64)).toArray
def n0L : List (List UInt8) := [] :: nmL
def n0V : Array Value := (n0L.map tx).toArray
/-- The two tables, as the code lays them. -/
def TabL (w : World) : Prop := ∃ t fr, w.heap[0]? = some (.cells lsV t fr)
theorem TabL.below {W w : World} (h : TabL W) (hb : Below W.heap.size W w) : TabL w := by
  obtain ⟨t, fr, h1⟩ := h
  have z1 := (Array.getElem?_eq_some_iff.1 h1).1
  exact ⟨t, fr, by rw [hb.block _ z1]; exact h1⟩
theorem lsV_at {k : Nat} (h : k < 13) (w : World) : (Instr.index 50 (.agg lsV) (.int .i64 k)).run Tryd.prog w = .ok (.int .i64 (lsL.getD k 0)) w :=
  index_row Tryd.underlying50 Tryd.underlying3 rfl (by kernel_rfl) h (by
    unfold lsV
    rw [List.getElem?_toArray, List.getElem?_map, List.getD_eq_getElem?_getD, List.getElem?_eq_getElem (by simpa [lsL] using h)]
    rfl) w
theorem ls_range {k : Nat} (h : k < 13) : 0 ≤ lsL.getD k 0 ∧ lsL.getD k 0 ≤ 75 := by
  have h13 : k = 0 ∨ k = 1 ∨ k = 2 ∨ k = 3 ∨ k = 4 ∨ k = 5 ∨ k = 6 ∨ k = 7 ∨ k = 8 ∨ k = 9 ∨ k = 10 ∨ k = 11 ∨ k = 12 := by omega
  rcases h13 with rfl | rfl | rfl | rfl | rfl | rfl | rfl | rfl | rfl | rfl | rfl | rfl | rfl <;> decide
theorem ls_sort {k : Nat} (h : k < 13) {op : Int} (h1 : k = 0 ∨ lsL.getD (k - 1) 0 < op) (h2 : op ≤ lsL.getD k 0) : srt op = k := by
  have hs := srt_spec op
  have h13 : k = 0 ∨ k = 1 ∨ k = 2 ∨ k = 3 ∨ k = 4 ∨ k = 5 ∨ k = 6 ∨ k = 7 ∨ k = 8 ∨ k = 9 ∨ k = 10 ∨ k = 11 ∨ k = 12 := by omega
  rcases h13 with rfl | rfl | rfl | rfl | rfl | rfl | rfl | rfl | rfl | rfl | rfl | rfl | rfl <;> simp [lsL] at h1 h2 <;> omega
theorem ls_end {op : Int} (h : lsL.getD 12 0 < op) : srt op = 0 := by
  have hs := srt_spec op
  simp [lsL] at h
  omega

set_option maxRecDepth 100000 in
theorem sort_c (op : Int) (_ : I64 op) (w : World) (hT : TabL w) :
    Calls Tryd.prog 19 #[.int .i64 op] w fun e w' => e = .returned (.int .i64 (srt op)) ∧ w = w' := by
  obtain ⟨t, fr, hg⟩ := hT
  have HG := Lib.hid hg
  clear hg
  go_enter Tryd.func19, Tryd.ntmps19
  go_wp2_with (with_reducible refine wpList_load_row (o := ⟨some 5, _, _, _, _, _⟩) rfl 50 (.global 0) rfl 0 rfl t lsV fr _ HG.out Tryd.underlying50 rfl (by kernel_rfl) ?_)
  go_loop [6] (fun v => ∃ k : Nat, v = .int .i64 k ∧ k ≤ 13 ∧ Hid (k = 0 ∨ lsL.getD (k - 1) 0 < op)) (fun v => (13 - intOf v).toNat)
  case atStart => exact ⟨0, rfl, by omega, (show _ ∨ _ from .inl rfl)⟩
  case round =>
    obtain ⟨k, rfl, hk, HK⟩ := hrel
    by_cases hlt : k < 13
    · have hltI : (k : Int) < 13 := by omega
      have ix := lsV_at hlt
      have HS := Lib.hid (fun a b => ls_sort hlt (op := op) a b)
      have HR := Lib.hid (ls_range hlt)
      have HX : Hid (∀ z, lsL.getD k 0 = z → lsL.getD (k + 1 - 1) 0 = z) := fun z h => by rw [Nat.add_sub_cancel]; exact h
      generalize lsL.getD k 0 = z at *
      by_cases hz : op ≤ z
      · have HV := Lib.hid (HS.out HK.out hz)
        go_wp2
        go_ret
        exact ⟨ret_int HV.out.symm, rfl⟩
      · go_wp2
        go_round
        case rel => exact ⟨k + 1, by go_num, by omega, (show _ ∨ _ from .inr (by rw [HX.out _ rfl]; omega))⟩
        case measure => simp [intOf]; omega
    · obtain rfl : k = 13 := by omega
      have HV : Hid (srt op = 0) := ls_end (by have := HK.out; simpa using this)
      go_wp2
      go_ret
      exact ⟨ret_int HV.out.symm, rfl⟩
end Go.Proofs.YtoaonoflekcccaaDoor
namespace Go.Proofs.YtoaonoflekcccaaDoor
open Go.RowKit

theorem thirteen {k : Int} (h : 0 ≤ k ∧ k ≤ 12) : k = 0 ∨ k = 1 ∨ k = 2 ∨ k = 3 ∨ k = 4 ∨ k = 5 ∨ k = 6 ∨ k = 7 ∨ k = 8 ∨ k = 9 ∨ k = 10 ∨ k = 11 ∨ k = 12 := by omega
theorem srt_range (op : Int) : 0 ≤ srt op ∧ srt op ≤ 12 := by have := srt_spec op; omega
theorem siz_rest : ∀ k : Fin 75, (srt ((k.val : Int) + 1) ≠ 12 → ((k.val : Int) + 1 ≠ 11 ∧ (k.val : Int) + 1 ≠ 15 ∧ (k.val : Int) + 1 ≠ 18 ∧ (k.val : Int) + 1 ≠ 12 ∧ (k.val : Int) + 1 ≠ 16 ∧ (k.val : Int) + 1 ≠ 19 ∧ (k.val : Int) + 1 ≠ 13 ∧ (k.val : Int) + 1 ≠ 17 ∧ (k.val : Int) + 1 ≠ 20 ∧ (k.val : Int) + 1 ≠ 54 ∧ (k.val : Int) + 1 ≠ 56 ∧ (k.val : Int) + 1 ≠ 14 ∧ (k.val : Int) + 1 ≠ 21 ∧ (k.val : Int) + 1 ≠ 55 ∧ (k.val : Int) + 1 ≠ 57) → szL.getD k.val 0 = 0) ∧ (srt ((k.val : Int) + 1) = 12 → szL.getD k.val 0 = if (k.val : Int) + 1 < 67 then 4 else 8) := by decide
theorem siz_none {op : Int} (h : srt op ≠ 12) (hn : op ≠ 11 ∧ op ≠ 15 ∧ op ≠ 18 ∧ op ≠ 12 ∧ op ≠ 16 ∧ op ≠ 19 ∧ op ≠ 13 ∧ op ≠ 17 ∧ op ≠ 20 ∧ op ≠ 54 ∧ op ≠ 56 ∧ op ≠ 14 ∧ op ≠ 21 ∧ op ≠ 55 ∧ op ≠ 57) : siz op = 0 := by
  unfold siz
  split
  · rename_i hr
    have := (siz_rest ⟨op.toNat - 1, by omega⟩).1
    simp only [show ((op.toNat - 1 : Nat) : Int) + 1 = op by omega] at this
    exact this h (by omega)
  · rfl
theorem siz_atom {op : Int} (h : srt op = 12) : siz op = if op < 67 then 4 else 8 := by
  have hs := srt_spec op
  have hr : 1 ≤ op ∧ op ≤ 75 := by omega
  unfold siz
  rw [if_pos hr]
  have := (siz_rest ⟨op.toNat - 1, by omega⟩).2
  simp only [show ((op.toNat - 1 : Nat) : Int) + 1 = op by omega] at this
  exact this h

set_option maxRecDepth 100000 in
theorem size_c (op : Int) (ho : I64 op) (w : World) (hT : TabL w) :
    Calls Tryd.prog 29 #[.int .i64 op] w fun e w' => e = .returned (.int .i64 (siz op)) ∧ w = w' := by
  have hc : (op = 11 ∨ op = 15 ∨ op = 18 ∨ op = 12 ∨ op = 16 ∨ op = 19 ∨ op = 13 ∨ op = 17 ∨ op = 20 ∨ op = 54 ∨ op = 56 ∨ op = 14 ∨ op = 21 ∨ op = 55 ∨ op = 57) ∨ (op ≠ 11 ∧ op ≠ 15 ∧ op ≠ 18 ∧ op ≠ 12 ∧ op ≠ 16 ∧ op ≠ 19 ∧ op ≠ 13 ∧ op ≠ 17 ∧ op ≠ 20 ∧ op ≠ 54 ∧ op ≠ 56 ∧ op ≠ 14 ∧ op ≠ 21 ∧ op ≠ 55 ∧ op ≠ 57) := by omega
  rcases hc with hc | hn
  · rcases hc with rfl | rfl | rfl | rfl | rfl | rfl | rfl | rfl | rfl | rfl | rfl | rfl | rfl | rfl | rfl
    all_goals
      clear hT
      go_enter Tryd.func29, Tryd.ntmps29
      go_wp2_with fail
      go_ret
      exact ⟨ret_int (by decide), rfl⟩
  · have HN := Lib.hid hn
    obtain ⟨n11, n15, n18, n12, n16, n19, n13, n17, n20, n54, n56, n14, n21, n55, n57⟩ := hn
    have b11 : (op == 11) = false := by simpa using n11
    have b15 : (op == 15) = false := by simpa using n15
    have b18 : (op == 18) = false := by simpa using n18
    have b12 : (op == 12) = false := by simpa using n12
    have b16 : (op == 16) = false := by simpa using n16
    have b19 : (op == 19) = false := by simpa using n19
    have b13 : (op == 13) = false := by simpa using n13
    have b17 : (op == 17) = false := by simpa using n17
    have b20 : (op == 20) = false := by simpa using n20
    have b54 : (op == 54) = false := by simpa using n54
    have b56 : (op == 56) = false := by simpa using n56
    have b14 : (op == 14) = false := by simpa using n14
    have b21 : (op == 21) = false := by simpa using n21
    have b55 : (op == 55) = false := by simpa using n55
    have b57 : (op == 57) = false := by simpa using n57
    have HS := sort_c op ho w hT
    clear hT n11 n15 n18 n12 n16 n19 n13 n17 n20 n54 n56 n14 n21 n55 n57
    by_cases h12 : srt op = 12
    · rw [h12] at HS
      have HV := Lib.hid (siz_atom h12)
      clear h12
      by_cases h67 : op < 67
      · go_enter Tryd.func29, Tryd.ntmps29
        go_wp2_with (go_at_call 19; refine HS.mono ?_; rintro e w' ⟨rfl, rfl⟩)
        go_ret
        exact ⟨ret_int (by rw [HV.out, if_pos h67]), rfl⟩
      · go_enter Tryd.func29, Tryd.ntmps29
        go_wp2_with (go_at_call 19; refine HS.mono ?_; rintro e w' ⟨rfl, rfl⟩)
        go_ret
        exact ⟨ret_int (by rw [HV.out, if_neg (by omega)]), rfl⟩
    · have HV := Lib.hid (siz_none h12 HN.out)
      have hb : (srt op != 12) = true := by simpa using h12
      generalize srt op = k at *
      clear h12
      go_enter Tryd.func29, Tryd.ntmps29
      go_wp2_with (go_at_call 19; refine HS.mono ?_; rintro e w' ⟨rfl, rfl⟩)
      go_ret
      exact ⟨ret_int HV.out.symm, rfl⟩

theorem n0_at {k : Nat} (h : k < 76) : n0V[k]? = some (tx (n0L.getD k [])) := by
  unfold n0V
  rw [List.getElem?_toArray, List.getElem?_map, List.getD_eq_getElem?_getD, List.getElem?_eq_getElem (by simpa [n0L, nmL_len] using h)]
  rfl
theorem nmO_n0 {k : Nat} (h : k < 76) : nmO (k : Int) = n0L.getD k [] := by
  cases k with
  | zero => rfl
  | succ k =>
    unfold nmO
    rw [if_pos (by omega)]
    rfl
/-- The operation of a name that is the one of number k, and of one that is none of the 76. -/
theorem bynm_n0 {k : Nat} (h : k < 76) {l : List UInt8} (e : n0L.getD k [] = l) : bynm l = (k : Int) := by
  subst e
  cases k with
  | zero => rfl
  | succ k => exact bynm_at (by omega)
theorem bynm_none {l : List UInt8} (h : ∀ k, k < 76 → n0L.getD k [] ≠ l) : bynm l = 0 := by
  unfold bynm
  rw [if_neg]
  intro hm
  obtain ⟨i, hi, he⟩ := List.getElem_of_mem hm
  refine h (i + 1) (by rw [nmL_len] at hi; omega) ?_
  show nmL.getD i [] = l
  rw [List.getD_eq_getElem?_getD, List.getElem?_eq_getElem hi]
  exact he
def NoneTo (q : ByteArray) (k : Nat) : Prop := ∀ i, i < k → n0L.getD i [] ≠ q.toList
end Go.Proofs.YtoaonoflekcccaaDoor
