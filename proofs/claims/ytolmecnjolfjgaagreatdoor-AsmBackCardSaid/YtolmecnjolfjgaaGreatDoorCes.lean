/- The contract of the document's List. The contract of the document's Same. What is asked of the program's functions of package encode (each proved of the code, at its round); the laws on words, walked over it. -/
import Derived.Test.YtolmecnjolfjgaaGreatDoorRows
import Derived.Test.YtolmecnjolfjgaaGreatDoorBa
import Derived.Test.YtolmecnjolfjgaaGreatDoorJn
import Derived.Test.YtolmecnjolfjgaaGreatDoorCqd
import Derived.WalkKit
import Derived.WalkLawsBesides
import Derived.Deep.QuietTactic
import Derived.BigQuiet
import Derived.WalkSmall
import Derived.WalkSpells
import Derived.Lib.Hide
import Derived.IntWalk
import Derived.Below
import Derived.Outline
import Derived.LoopTactic
import Derived.Deep.LoopGhost
import Derived.Test.YtolmecnjolfjgaaGreatDoorEw
import Derived.Test.YtolmecnjolfjgaaGreatDoorRg
import Derived.Test.YtolmecnjolfjgaaGreatDoorWo
set_option maxRecDepth 100000
namespace Go.Proofs.YtolmecnjolfjgaaGreatDoor
open Go.RowKit

/-- The word of the four bytes from a place on. -/
def word4 (bs : List Int) (n : Nat) : Int := bs.getD n 0 + 256 * bs.getD (n + 1) 0 + 65536 * bs.getD (n + 2) 0 + 16777216 * bs.getD (n + 3) 0
/-- The instructions of the first 4 k bytes. -/
def lstK (bs : List Int) (k : Nat) : List Ins := (List.range k).map fun j => decI (word4 bs (4 * j))
theorem lstK_len (bs : List Int) (k : Nat) : (lstK bs k).length = k := by simp [lstK]
theorem lstK_succ (bs : List Int) (k : Nat) : lstK bs (k + 1) = lstK bs k ++ [decI (word4 bs (4 * k))] := by
  unfold lstK; rw [List.range_succ, List.map_append]; rfl
def lstI (bs : List Int) : List Ins := lstK bs (bs.length / 4)
def RetM (w : World) (l : List Ins) (e : Ending) (w' : World) : Prop := ∃ A cap, e = .returned (.slice A l.length cap) ∧ Rd w' w'.heap.size A (cellsN l) ∧ Below w.heap.size w w'

theorem w32 {x : Int} (h : 0 ≤ x ∧ x < 4294967296) : IntKind.u32.wrap x = x := by rw [IntKind.wrap_u32]; omega
theorem byte_at {bs : List Int} (hb : ∀ b ∈ bs, 0 ≤ b ∧ b < 256) {i : Nat} (hi : i < bs.length) : 0 ≤ bs.getD i 0 ∧ bs.getD i 0 < 256 := by
  rw [List.getD_eq_getElem?_getD, List.getElem?_eq_getElem hi]
  exact hb _ (List.getElem_mem hi)
theorem Rd.byte {w : World} {B : Nat} {A : Option Addr} {bs : List Int} (h : Rd w B A (bs.map (Value.int .u8))) {i : Nat} (hi : i < bs.length) : ∃ b off, A = some ⟨b, off, none⟩ ∧ b < B ∧ ∀ j, j < bs.length → w.cell? ⟨b, off + j, none⟩ = some (.int .u8 (bs.getD j 0)) := by
  rcases h with h | ⟨b, off, rfl, hb, hc⟩
  · have := congrArg List.length h; simp at this; rw [this] at hi; cases hi
  · refine ⟨b, off, rfl, hb, fun j hj => hc j _ ?_⟩
    rw [List.getElem?_map, List.getD_eq_getElem?_getD, List.getElem?_eq_getElem hj]
    rfl
theorem grown_of' {w w' : World} (h : Below w.heap.size w w') : w.grownBy w' none := ⟨h.os, h.tape, h.output, h.size, fun k hk _ => h.block k hk⟩
theorem row_on {w w' : World} {base : Nat} {e : TypeId} {z n : Nat} {v : Value} {xs : List Value} (h : w.ownsRow base e z v n xs) (hb : Below w.heap.size w w') : w'.ownsRow base e z v n xs :=
  h.kept (grown_of' hb) (by cases v.ownBlock <;> simp)
theorem drewN_belowL (w : World) (n : Nat) : Below w.heap.size w (w.drewN n) := ⟨rfl, rfl, rfl, Nat.le_refl _, fun _ _ => rfl⟩
theorem past_grown9 {w w' : World} {o : Obj} {r : Option Nat} {B : Nat} (h : (w.alloc o).grownBy w' r) (hB : B ≤ w.heap.size) (hr : ∀ k, r = some k → B ≤ k) : Below B w w' :=
  ((Below.refl B w).alloc hB o).grown h (by simp; omega) hr
theorem cells_new9 (d : Ins) (w : World) (t : TypeId) : ∀ j u, (insCells d).toList[j]? = some u → (w.alloc (.cells (insCells d) t)).cell? ((⟨w.heap.size, 0, none⟩ : Addr).add j) = some u := by
  intro j u hu
  have hadd : (⟨w.heap.size, 0, none⟩ : Addr).add j = ⟨w.heap.size, j, none⟩ := by unfold Addr.add; split <;> simp_all
  rw [hadd, (Blk.new (insCells d) t w).cell j]
  simpa using hu
theorem RetM.of_own {w w' : World} {l : List Ins} {base : Nat} {e : TypeId} {n : Nat} {v : Value} (hn : n = l.length) (h : w'.ownsRow base e 9 v n (cellsN l)) (hb : Below w.heap.size w w') : RetM w l (.returned v) w' := by
  obtain ⟨A, c, rfl, hr, _, _⟩ := row_form9 h
  subst hn
  exact ⟨A, c, rfl, hr, hb⟩
end Go.Proofs.YtolmecnjolfjgaaGreatDoor
namespace Go.Proofs.YtolmecnjolfjgaaGreatDoor
open Go.RowKit

theorem below_drewM {B : Nat} {a w : World} (h : Below B a w) (n : Nat) : Below B a (w.drewN n) := ⟨h.os, h.tape, h.output, h.size, h.block⟩
end Go.Proofs.YtolmecnjolfjgaaGreatDoor
namespace Go.Proofs.YtolmecnjolfjgaaGreatDoor
open Go.RowKit

/-- The word, and the error's number. -/
def encW (i : Ins) : Int := if rgtB i then wordV i else 0
def encE (i : Ins) : Int := if rgtB i then 0 else 1
/-- In every world behind W. -/
structure Cenc (W : World) : Prop where
  right : ∀ i w, BW W w → I64 i.op → Calls Tryz.prog 61 #[insV i] w fun e w' => e = .returned (.bool (rgtB i)) ∧ Below w.heap.size w w'
  encode : ∀ i w, BW W w → I64 i.op → Calls Tryz.prog 59 #[insV i] w fun e w' => e = .returned (.tuple #[.int .u32 (encW i), .int .i64 (encE i)]) ∧ Below w.heap.size w w'
  list : ∀ A cap (bs : List Int) w, BW W w → Rd w w.heap.size A (bs.map (Value.int .u8)) → (∀ b ∈ bs, 0 ≤ b ∧ b < 256) → bs.length ≤ 5000 → bs.length ≤ cap → cap ≤ 9223372036854775807 → Calls Tryz.prog 28 #[.slice A bs.length cap] w (RetM w (lstI bs))
theorem Cenc.on {W w : World} (C : Cenc W) (h : BW W w) : Cenc w :=
  ⟨fun i x hx => C.right i x (h.on hx), fun i x hx => C.encode i x (h.on hx), fun A c b x hx => C.list A c b x (h.on hx)⟩

theorem rgt_addi : rgtB ⟨22, 1, 0, 0, 10, false, false, 0, 0⟩ = true ∧ wordV ⟨22, 1, 0, 0, 10, false, false, 0, 0⟩ = 10485907 := by
  refine ⟨by decide, ?_⟩
  decide
theorem rgt_addi2 : rgtB ⟨22, 1, 0, 0, 2048, false, false, 0, 0⟩ = false := by decide
theorem rgt_ecall : rgtB ⟨52, 0, 0, 0, 0, false, false, 0, 0⟩ = true := by decide
end Go.Proofs.YtolmecnjolfjgaaGreatDoor
