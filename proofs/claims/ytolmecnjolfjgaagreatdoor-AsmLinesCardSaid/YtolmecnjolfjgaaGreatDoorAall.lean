/- The program's Assemble upon the texts that the statements' 'alive' bear. -/
import Derived.Test.YtolmecnjolfjgaaGreatDoorAbml
import Derived.Test.YtolmecnjolfjgaaGreatDoorArxl
set_option maxRecDepth 100000
namespace Go.Proofs.YtolmecnjolfjgaaGreatDoor
open Go.RowKit

def src10 : List UInt8 := [108, 111, 111, 112, 58, 10, 97, 100, 100, 105, 32, 120, 49, 44, 32, 120, 49, 44, 32, 45, 49, 10, 98, 110, 101, 32, 120, 49, 44, 32, 120, 48, 44, 32, 108, 111, 111, 112, 10, 104, 97, 108, 116, 32, 35, 32, 101, 110, 100]
theorem lines10 : linesT src10 = [[108, 111, 111, 112, 58], [97, 100, 100, 105, 32, 120, 49, 44, 32, 120, 49, 44, 32, 45, 49], [98, 110, 101, 32, 120, 49, 44, 32, 120, 48, 44, 32, 108, 111, 111, 112], [104, 97, 108, 116, 32, 35, 32, 101, 110, 100]] := by kernel_rfl
def addI10 : Ins := ⟨22, 1, 1, 0, -1, false, false, 0, 0⟩
def bneI10 : Ins := ⟨6, 0, 1, 0, 0, false, false, 0, 0⟩
def loopT : List UInt8 := [108, 111, 111, 112]
def ss10 (k : Nat) : Stm := [lblS loopT, instS addI10, jumpS bneI10 loopT, instS haltI].getD k noStm
def pl10 (k : Nat) : Int := [0, 0, 4, 8, 12].getD k 0
def lab10 (k : Nat) : Labs := [[], [(loopT, 0)], [(loopT, 0)], [(loopT, 0)], [(loopT, 0)]].getD k []
theorem add10 : readC [97, 100, 100, 105, 32, 120, 49, 44, 32, 120, 49, 44, 32, 45, 49] = some addI10 := (readC_iff _ _).2 ⟨(rgt_iff _).1 (by decide), by decide⟩
theorem bne10 : readC [98, 110, 101, 32, 120, 49, 44, 32, 120, 48, 44, 32, 48] = some bneI10 := (readC_iff _ _).2 ⟨(rgt_iff _).1 (by decide), by decide⟩
theorem bne10_no : readC [98, 110, 101, 32, 120, 49, 44, 32, 120, 48, 44, 32, 108, 111, 111, 112] = none := by kernel_rfl
theorem loop_name : NameT (bs loopT) := by decide
theorem prog10 (w : World) (T : Tab9 w) : Prog1 w src10 12 ss10 pl10 lab10 := by
  have h4 : (linesT src10).length = 4 := by rw [lines10]; rfl
  refine ⟨by decide, by decide, ?_, ?_, ?_, ?_, by decide⟩
  · intro k X hk hX
    rw [h4] at hk
    rw [lines10]
    have hk4 : k = 0 ∨ k = 1 ∨ k = 2 ∨ k = 3 := by omega
    rcases hk4 with rfl | rfl | rfl | rfl
    · exact read_label [108, 111, 111, 112, 58] loopT (by decide) (by decide) (by decide) loop_name X
    · exact read_inst [97, 100, 100, 105, 32, 120, 49, 44, 32, 120, 49, 44, 32, 45, 49] (by decide) (instS addI10) (by decide) (by decide) X (fun x hx => readInst_c _ (by decide) addI10 add10 x (T.below (hX.on hx)))
    · exact read_inst [98, 110, 101, 32, 120, 49, 44, 32, 120, 48, 44, 32, 108, 111, 111, 112] (by decide) (jumpS bneI10 loopT) (by decide) (by decide) X (fun x hx => readInst_jump _ [98, 110, 101, 32, 120, 49, 44, 32, 120, 48, 44, 32] loopT (by decide) bneI10 10 (by decide) (by decide) (by decide) (by decide) loop_name bne10_no bne10 (by decide) x (T.below (hX.on hx)))
    · exact read_halt X
  · intro k hk
    rw [h4] at hk
    have hk4 : k = 0 ∨ k = 1 ∨ k = 2 ∨ k = 3 := by omega
    rcases hk4 with rfl | rfl | rfl | rfl
    · exact .inr ⟨by decide, by decide, by decide, rfl⟩
    · exact .inl ⟨rfl, ⟨by decide, by decide, by decide, by decide⟩, rfl⟩
    · exact .inl ⟨rfl, ⟨by decide, by decide, by decide, by decide⟩, rfl⟩
    · exact .inl ⟨rfl, ⟨by decide, by decide, by decide, by decide⟩, rfl⟩
  · intro k hk
    rw [h4] at hk
    have hk4 : k = 0 ∨ k = 1 ∨ k = 2 ∨ k = 3 := by omega
    rcases hk4 with rfl | rfl | rfl | rfl <;> decide
  · intro k hk
    rw [h4] at hk
    have hk4 : k = 0 ∨ k = 1 ∨ k = 2 ∨ k = 3 := by omega
    rcases hk4 with rfl | rfl | rfl | rfl <;> decide
theorem puts10 : ∀ k, k < (linesT src10).length → Puts [(loopT, 0)] (pl10 k) (ss10 k) := by
  have h4 : (linesT src10).length = 4 := by rw [lines10]; rfl
  intro k hk
  rw [h4] at hk
  have hk4 : k = 0 ∨ k = 1 ∨ k = 2 ∨ k = 3 := by omega
  rcases hk4 with rfl | rfl | rfl | rfl
  · exact ⟨by decide, .inl ⟨by decide, by decide, by decide⟩⟩
  · exact ⟨by decide, .inr ⟨(rgt_iff _).1 (by decide), by decide, .inl rfl⟩⟩
  · exact ⟨by decide, .inr ⟨(rgt_iff _).1 (by decide), by decide, .inr ⟨by decide, by decide, by unfold I64; decide⟩⟩⟩
  · exact ⟨by decide, .inr ⟨(rgt_iff _).1 (by decide), by decide, .inl rfl⟩⟩
def img10 : List Int := [147, 128, 240, 255, 227, 158, 0, 254, 115, 0, 16, 0]
theorem image10 : imgS 12 [(loopT, 0)] ss10 pl10 4 = cellsB img10 := by kernel_rfl
theorem asm10 (w : World) (T : Tab9 w) (T7 : Tab7 w) : Calls Tryz.prog 16 #[tx src10, .int .i64 12] w (RetAsm w 12 [(loopT, 0)] (cellsB img10)) := by
  have h4 : (linesT src10).length = 4 := by rw [lines10]; rfl
  have h := asm_c src10 12 ss10 pl10 lab10 w (prog10 w T)
  rw [h4] at h
  have hl : lab10 4 = [(loopT, 0)] := rfl
  rw [hl] at h
  have h2 := h (fun k hk => puts10 k (by rw [h4]; exact hk)) T7
  rw [image10] at h2
  exact h2

end Go.Proofs.YtolmecnjolfjgaaGreatDoor
