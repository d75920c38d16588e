/- The program's Assemble upon the texts that the statements' 'alive' bear. What the hart of layer 11's 'alive' does: plain. The program's Assemble upon the texts of layer 11's SeqStores. Layer 11: what every right program answers. -/
import Derived.Test.YtolmecnjolfjgaaGreatDoorAbmu
import Derived.Test.YtolmecnjolfjgaaGreatDoorArxu
import Derived.Test.YtolmecnjolfjgaaGreatDoorQ0u
import Derived.Test.YtolmecnjolfjgaaGreatDoorQ9u
import Derived.Deep.AppendLies
set_option linter.unusedVariables false
set_option maxRecDepth 100000
namespace Go.Proofs.YtolmecnjolfjgaaGreatDoor
open Go.RowKit

def src10 : List UInt8 := [108, 111, 111, 112, 58, 10, 97, 100, 100, 105, 32, 120, 49, 44, 32, 120, 49, 44, 32, 45, 49, 10, 98, 110, 101, 32, 120, 49, 44, 32, 120, 48, 44, 32, 108, 111, 111, 112, 10, 104, 97, 108, 116, 32, 35, 32, 101, 110, 100]
def src11 : List UInt8 := [97, 100, 100, 105, 32, 120, 49, 44, 32, 120, 48, 44, 32, 53, 10, 115, 119, 32, 120, 49, 44, 32, 49, 50, 40, 120, 48, 41, 10, 104, 97, 108, 116, 10, 46, 119, 111, 114, 100, 32, 48]
theorem lines11 : linesT src11 = [[97, 100, 100, 105, 32, 120, 49, 44, 32, 120, 48, 44, 32, 53], [115, 119, 32, 120, 49, 44, 32, 49, 50, 40, 120, 48, 41], [104, 97, 108, 116], [46, 119, 111, 114, 100, 32, 48]] := by kernel_rfl
def addI11 : Ins := ⟨22, 1, 0, 0, 5, false, false, 0, 0⟩
def swI11 : Ins := ⟨20, 0, 0, 1, 12, false, false, 0, 0⟩
def ss11 (k : Nat) : Stm := [instS addI11, instS swI11, instS haltI, numS 4 0].getD k noStm
def pl11 (k : Nat) : Int := [0, 4, 8, 12, 16].getD k 0
theorem add11 : readC [97, 100, 100, 105, 32, 120, 49, 44, 32, 120, 48, 44, 32, 53] = some addI11 := (readC_iff _ _).2 ⟨(rgt_iff _).1 (by decide), by decide⟩
theorem sw11 : readC [115, 119, 32, 120, 49, 44, 32, 49, 50, 40, 120, 48, 41] = some swI11 := (readC_iff _ _).2 ⟨(rgt_iff _).1 (by decide), by decide⟩
theorem prog11 (w : World) (T : TabR w) : Prog1 w src11 16 ss11 pl11 (fun _ => []) := by
  have h4 : (linesT src11).length = 4 := by rw [lines11]; rfl
  refine ⟨by decide, by decide, ?_, ?_, ?_, ?_, by decide⟩
  · intro k X hk hX
    rw [h4] at hk
    rw [lines11]
    have hk4 : k = 0 ∨ k = 1 ∨ k = 2 ∨ k = 3 := by omega
    rcases hk4 with rfl | rfl | rfl | rfl
    · exact read_inst [97, 100, 100, 105, 32, 120, 49, 44, 32, 120, 48, 44, 32, 53] (by decide) (instS addI11) (by decide) (by decide) X (fun x hx => readInst_c _ (by decide) addI11 add11 x (T.below (hX.on hx)))
    · exact read_inst [115, 119, 32, 120, 49, 44, 32, 49, 50, 40, 120, 48, 41] (by decide) (instS swI11) (by decide) (by decide) X (fun x hx => readInst_c _ (by decide) swI11 sw11 x (T.below (hX.on hx)))
    · exact read_halt X
    · exact read_word [46, 119, 111, 114, 100, 32, 48] (by decide) 0 (by decide) (by decide) (by decide) X
  · intro k hk
    rw [h4] at hk
    have hk4 : k = 0 ∨ k = 1 ∨ k = 2 ∨ k = 3 := by omega
    rcases hk4 with rfl | rfl | rfl | rfl <;> exact .inl ⟨rfl, ⟨by decide, by decide, by decide, by decide⟩, rfl⟩
  · intro k hk
    rw [h4] at hk
    have hk4 : k = 0 ∨ k = 1 ∨ k = 2 ∨ k = 3 := by omega
    rcases hk4 with rfl | rfl | rfl | rfl <;> decide
  · intro k hk
    rw [h4] at hk
    have hk4 : k = 0 ∨ k = 1 ∨ k = 2 ∨ k = 3 := by omega
    rcases hk4 with rfl | rfl | rfl | rfl <;> decide
theorem puts11 : ∀ k, k < (linesT src11).length → Puts [] (pl11 k) (ss11 k) := by
  have h4 : (linesT src11).length = 4 := by rw [lines11]; rfl
  intro k hk
  rw [h4] at hk
  have hk4 : k = 0 ∨ k = 1 ∨ k = 2 ∨ k = 3 := by omega
  rcases hk4 with rfl | rfl | rfl | rfl
  · exact ⟨by decide, .inr ⟨(rgt_iff _).1 (by decide), by decide, .inl rfl⟩⟩
  · exact ⟨by decide, .inr ⟨(rgt_iff _).1 (by decide), by decide, .inl rfl⟩⟩
  · exact ⟨by decide, .inr ⟨(rgt_iff _).1 (by decide), by decide, .inl rfl⟩⟩
  · exact ⟨by decide, .inl ⟨by decide, by decide, by decide⟩⟩
def img11 : List Int := [147, 0, 80, 0, 35, 38, 16, 0, 115, 0, 16, 0, 0, 0, 0, 0]
theorem image11 : imgS 16 [] ss11 pl11 4 = cellsB img11 := by kernel_rfl
theorem asm11 (w : World) (T : TabR w) (T7 : Tab7 w) : Calls Tryz.prog 16 #[tx src11, .int .i64 16] w (RetAsm w 16 [] (cellsB img11)) := by
  have h4 : (linesT src11).length = 4 := by rw [lines11]; rfl
  have h := asm_c src11 16 ss11 pl11 (fun _ => []) w (prog11 w T)
  rw [h4] at h
  have h2 := h (fun k hk => puts11 k (by rw [h4]; exact hk)) T7
  rw [image11] at h2
  exact h2
end Go.Proofs.YtolmecnjolfjgaaGreatDoor
namespace Go.Proofs.YtolmecnjolfjgaaGreatDoor
open Go.RowKit

def zerH : Hrt := ⟨0, List.replicate 32 0, 0⟩
theorem fin11_pc : (aloK img11 zerH 10).h.pc = 8 := by kernel_rfl
theorem fin11_cause : (aloK img11 zerH 10).h.cause = 2 := by kernel_rfl
theorem fin11_x1 : xAt (aloK img11 zerH 10).h 1 = 5 := by kernel_rfl
theorem fin11_len : (aloK img11 zerH 10).done.length = 3 := by kernel_rfl
theorem fin11_xl : (aloK img11 zerH 10).h.x.length = 32 := by kernel_rfl
end Go.Proofs.YtolmecnjolfjgaaGreatDoor
namespace Go.Proofs.YtolmecnjolfjgaaGreatDoor
open Go.RowKit

def src11a : List UInt8 := [115, 98, 32, 120, 49, 44, 32, 48, 40, 120, 50, 41, 10, 108, 98, 117, 32, 120, 51, 44, 32, 48, 40, 120, 50, 41, 10, 104, 97, 108, 116]
theorem lines11a : linesT src11a = [[115, 98, 32, 120, 49, 44, 32, 48, 40, 120, 50, 41], [108, 98, 117, 32, 120, 51, 44, 32, 48, 40, 120, 50, 41], [104, 97, 108, 116]] := by kernel_rfl
def i11a_0 : Ins := ⟨18, 0, 2, 1, 0, false, false, 0, 0⟩
theorem r11a_0 : readC [115, 98, 32, 120, 49, 44, 32, 48, 40, 120, 50, 41] = some i11a_0 := (readC_iff _ _).2 ⟨(rgt_iff _).1 (by decide), by decide⟩
def i11a_1 : Ins := ⟨15, 3, 2, 0, 0, false, false, 0, 0⟩
theorem r11a_1 : readC [108, 98, 117, 32, 120, 51, 44, 32, 48, 40, 120, 50, 41] = some i11a_1 := (readC_iff _ _).2 ⟨(rgt_iff _).1 (by decide), by decide⟩
def ss11a (k : Nat) : Stm := [instS i11a_0, instS i11a_1, instS haltI].getD k noStm
def pl11a (k : Nat) : Int := [0, 4, 8, 12].getD k 0
theorem prog11a (w : World) (T : TabR w) : Prog1 w src11a 64 ss11a pl11a (fun _ => []) := by
  have h4 : (linesT src11a).length = 3 := by rw [lines11a]; rfl
  refine ⟨by decide, by decide, ?_, ?_, ?_, ?_, by decide⟩
  · intro k X hk hX
    rw [lines11a]
    rw [h4] at hk
    have hk4 : k = 0 ∨ k = 1 ∨ k = 2 := by omega
    rcases hk4 with rfl | rfl | rfl
    · exact read_inst [115, 98, 32, 120, 49, 44, 32, 48, 40, 120, 50, 41] (by decide) (instS i11a_0) (by decide) (by decide) X (fun x hx => readInst_c _ (by decide) i11a_0 r11a_0 x (T.below (hX.on hx)))
    · exact read_inst [108, 98, 117, 32, 120, 51, 44, 32, 48, 40, 120, 50, 41] (by decide) (instS i11a_1) (by decide) (by decide) X (fun x hx => readInst_c _ (by decide) i11a_1 r11a_1 x (T.below (hX.on hx)))
    · exact read_halt X
  · intro k hk
    rw [h4] at hk
    have hk4 : k = 0 ∨ k = 1 ∨ k = 2 := by omega
    rcases hk4 with rfl | rfl | rfl <;> exact .inl ⟨rfl, ⟨by decide, by decide, by decide, by decide⟩, rfl⟩
  · intro k hk
    rw [h4] at hk
    have hk4 : k = 0 ∨ k = 1 ∨ k = 2 := by omega
    rcases hk4 with rfl | rfl | rfl <;> decide
  · intro k hk
    rw [h4] at hk
    have hk4 : k = 0 ∨ k = 1 ∨ k = 2 := by omega
    rcases hk4 with rfl | rfl | rfl <;> decide
theorem puts11a : ∀ k, k < (linesT src11a).length → Puts [] (pl11a k) (ss11a k) := by
  have h4 : (linesT src11a).length = 3 := by rw [lines11a]; rfl
  intro k hk
  rw [h4] at hk
  have hk4 : k = 0 ∨ k = 1 ∨ k = 2 := by omega
  rcases hk4 with rfl | rfl | rfl
  · exact ⟨by decide, .inr ⟨(rgt_iff _).1 (by decide), by decide, .inl rfl⟩⟩
  · exact ⟨by decide, .inr ⟨(rgt_iff _).1 (by decide), by decide, .inl rfl⟩⟩
  · exact ⟨by decide, .inr ⟨(rgt_iff _).1 (by decide), by decide, .inl rfl⟩⟩
/-- The image, as the program's words put it. -/
def img11a : List Int := (List.range 3).flatMap (fun k => putB [] (pl11a k) (ss11a k)) ++ List.replicate (64 - 12) 0
theorem image11a : imgS 64 [] ss11a pl11a 3 = cellsB img11a := by kernel_rfl
theorem asm11a (w : World) (T : TabR w) (T7 : Tab7 w) : Calls Tryz.prog 16 #[tx src11a, .int .i64 64] w (RetAsm w 64 [] (cellsB img11a)) := by
  have h4 : (linesT src11a).length = 3 := by rw [lines11a]; rfl
  have h := asm_c src11a 64 ss11a pl11a (fun _ => []) w (prog11a w T)
  rw [h4] at h
  have h2 := h (fun k hk => puts11a k (by rw [h4]; exact hk)) T7
  rw [image11a] at h2
  exact h2

def src11b : List UInt8 := [115, 104, 32, 120, 49, 44, 32, 48, 40, 120, 50, 41, 10, 108, 104, 117, 32, 120, 51, 44, 32, 48, 40, 120, 50, 41, 10, 104, 97, 108, 116]
theorem lines11b : linesT src11b = [[115, 104, 32, 120, 49, 44, 32, 48, 40, 120, 50, 41], [108, 104, 117, 32, 120, 51, 44, 32, 48, 40, 120, 50, 41], [104, 97, 108, 116]] := by kernel_rfl
def i11b_0 : Ins := ⟨19, 0, 2, 1, 0, false, false, 0, 0⟩
theorem r11b_0 : readC [115, 104, 32, 120, 49, 44, 32, 48, 40, 120, 50, 41] = some i11b_0 := (readC_iff _ _).2 ⟨(rgt_iff _).1 (by decide), by decide⟩
def i11b_1 : Ins := ⟨16, 3, 2, 0, 0, false, false, 0, 0⟩
theorem r11b_1 : readC [108, 104, 117, 32, 120, 51, 44, 32, 48, 40, 120, 50, 41] = some i11b_1 := (readC_iff _ _).2 ⟨(rgt_iff _).1 (by decide), by decide⟩
def ss11b (k : Nat) : Stm := [instS i11b_0, instS i11b_1, instS haltI].getD k noStm
def pl11b (k : Nat) : Int := [0, 4, 8, 12].getD k 0
theorem prog11b (w : World) (T : TabR w) : Prog1 w src11b 64 ss11b pl11b (fun _ => []) := by
  have h4 : (linesT src11b).length = 3 := by rw [lines11b]; rfl
  refine ⟨by decide, by decide, ?_, ?_, ?_, ?_, by decide⟩
  · intro k X hk hX
    rw [lines11b]
    rw [h4] at hk
    have hk4 : k = 0 ∨ k = 1 ∨ k = 2 := by omega
    rcases hk4 with rfl | rfl | rfl
    · exact read_inst [115, 104, 32, 120, 49, 44, 32, 48, 40, 120, 50, 41] (by decide) (instS i11b_0) (by decide) (by decide) X (fun x hx => readInst_c _ (by decide) i11b_0 r11b_0 x (T.below (hX.on hx)))
    · exact read_inst [108, 104, 117, 32, 120, 51, 44, 32, 48, 40, 120, 50, 41] (by decide) (instS i11b_1) (by decide) (by decide) X (fun x hx => readInst_c _ (by decide) i11b_1 r11b_1 x (T.below (hX.on hx)))
    · exact read_halt X
  · intro k hk
    rw [h4] at hk
    have hk4 : k = 0 ∨ k = 1 ∨ k = 2 := by omega
    rcases hk4 with rfl | rfl | rfl <;> exact .inl ⟨rfl, ⟨by decide, by decide, by decide, by decide⟩, rfl⟩
  · intro k hk
    rw [h4] at hk
    have hk4 : k = 0 ∨ k = 1 ∨ k = 2 := by omega
    rcases hk4 with rfl | rfl | rfl <;> decide
  · intro k hk
    rw [h4] at hk
    have hk4 : k = 0 ∨ k = 1 ∨ k = 2 := by omega
    rcases hk4 with rfl | rfl | rfl <;> decide
theorem puts11b : ∀ k, k < (linesT src11b).length → Puts [] (pl11b k) (ss11b k) := by
  have h4 : (linesT src11b).length = 3 := by rw [lines11b]; rfl
  intro k hk
  rw [h4] at hk
  have hk4 : k = 0 ∨ k = 1 ∨ k = 2 := by omega
  rcases hk4 with rfl | rfl | rfl
  · exact ⟨by decide, .inr ⟨(rgt_iff _).1 (by decide), by decide, .inl rfl⟩⟩
  · exact ⟨by decide, .inr ⟨(rgt_iff _).1 (by decide), by decide, .inl rfl⟩⟩
  · exact ⟨by decide, .inr ⟨(rgt_iff _).1 (by decide), by decide, .inl rfl⟩⟩
/-- The image, as the program's words put it. -/
def img11b : List Int := (List.range 3).flatMap (fun k => putB [] (pl11b k) (ss11b k)) ++ List.replicate (64 - 12) 0
theorem image11b : imgS 64 [] ss11b pl11b 3 = cellsB img11b := by kernel_rfl
theorem asm11b (w : World) (T : TabR w) (T7 : Tab7 w) : Calls Tryz.prog 16 #[tx src11b, .int .i64 64] w (RetAsm w 64 [] (cellsB img11b)) := by
  have h4 : (linesT src11b).length = 3 := by rw [lines11b]; rfl
  have h := asm_c src11b 64 ss11b pl11b (fun _ => []) w (prog11b w T)
  rw [h4] at h
  have h2 := h (fun k hk => puts11b k (by rw [h4]; exact hk)) T7
  rw [image11b] at h2
  exact h2

def src11c : List UInt8 := [115, 119, 32, 120, 49, 44, 32, 48, 40, 120, 50, 41, 10, 108, 119, 117, 32, 120, 51, 44, 32, 48, 40, 120, 50, 41, 10, 104, 97, 108, 116]
theorem lines11c : linesT src11c = [[115, 119, 32, 120, 49, 44, 32, 48, 40, 120, 50, 41], [108, 119, 117, 32, 120, 51, 44, 32, 48, 40, 120, 50, 41], [104, 97, 108, 116]] := by kernel_rfl
def i11c_0 : Ins := ⟨20, 0, 2, 1, 0, false, false, 0, 0⟩
theorem r11c_0 : readC [115, 119, 32, 120, 49, 44, 32, 48, 40, 120, 50, 41] = some i11c_0 := (readC_iff _ _).2 ⟨(rgt_iff _).1 (by decide), by decide⟩
def i11c_1 : Ins := ⟨17, 3, 2, 0, 0, false, false, 0, 0⟩
theorem r11c_1 : readC [108, 119, 117, 32, 120, 51, 44, 32, 48, 40, 120, 50, 41] = some i11c_1 := (readC_iff _ _).2 ⟨(rgt_iff _).1 (by decide), by decide⟩
def ss11c (k : Nat) : Stm := [instS i11c_0, instS i11c_1, instS haltI].getD k noStm
def pl11c (k : Nat) : Int := [0, 4, 8, 12].getD k 0
theorem prog11c (w : World) (T : TabR w) : Prog1 w src11c 64 ss11c pl11c (fun _ => []) := by
  have h4 : (linesT src11c).length = 3 := by rw [lines11c]; rfl
  refine ⟨by decide, by decide, ?_, ?_, ?_, ?_, by decide⟩
  · intro k X hk hX
    rw [lines11c]
    rw [h4] at hk
    have hk4 : k = 0 ∨ k = 1 ∨ k = 2 := by omega
    rcases hk4 with rfl | rfl | rfl
    · exact read_inst [115, 119, 32, 120, 49, 44, 32, 48, 40, 120, 50, 41] (by decide) (instS i11c_0) (by decide) (by decide) X (fun x hx => readInst_c _ (by decide) i11c_0 r11c_0 x (T.below (hX.on hx)))
    · exact read_inst [108, 119, 117, 32, 120, 51, 44, 32, 48, 40, 120, 50, 41] (by decide) (instS i11c_1) (by decide) (by decide) X (fun x hx => readInst_c _ (by decide) i11c_1 r11c_1 x (T.below (hX.on hx)))
    · exact read_halt X
  · intro k hk
    rw [h4] at hk
    have hk4 : k = 0 ∨ k = 1 ∨ k = 2 := by omega
    rcases hk4 with rfl | rfl | rfl <;> exact .inl ⟨rfl, ⟨by decide, by decide, by decide, by decide⟩, rfl⟩
  · intro k hk
    rw [h4] at hk
    have hk4 : k = 0 ∨ k = 1 ∨ k = 2 := by omega
    rcases hk4 with rfl | rfl | rfl <;> decide
  · intro k hk
    rw [h4] at hk
    have hk4 : k = 0 ∨ k = 1 ∨ k = 2 := by omega
    rcases hk4 with rfl | rfl | rfl <;> decide
theorem puts11c : ∀ k, k < (linesT src11c).length → Puts [] (pl11c k) (ss11c k) := by
  have h4 : (linesT src11c).length = 3 := by rw [lines11c]; rfl
  intro k hk
  rw [h4] at hk
  have hk4 : k = 0 ∨ k = 1 ∨ k = 2 := by omega
  rcases hk4 with rfl | rfl | rfl
  · exact ⟨by decide, .inr ⟨(rgt_iff _).1 (by decide), by decide, .inl rfl⟩⟩
  · exact ⟨by decide, .inr ⟨(rgt_iff _).1 (by decide), by decide, .inl rfl⟩⟩
  · exact ⟨by decide, .inr ⟨(rgt_iff _).1 (by decide), by decide, .inl rfl⟩⟩
/-- The image, as the program's words put it. -/
def img11c : List Int := (List.range 3).flatMap (fun k => putB [] (pl11c k) (ss11c k)) ++ List.replicate (64 - 12) 0
theorem image11c : imgS 64 [] ss11c pl11c 3 = cellsB img11c := by kernel_rfl
theorem asm11c (w : World) (T : TabR w) (T7 : Tab7 w) : Calls Tryz.prog 16 #[tx src11c, .int .i64 64] w (RetAsm w 64 [] (cellsB img11c)) := by
  have h4 : (linesT src11c).length = 3 := by rw [lines11c]; rfl
  have h := asm_c src11c 64 ss11c pl11c (fun _ => []) w (prog11c w T)
  rw [h4] at h
  have h2 := h (fun k hk => puts11c k (by rw [h4]; exact hk)) T7
  rw [image11c] at h2
  exact h2

def src11d : List UInt8 := [115, 100, 32, 120, 49, 44, 32, 48, 40, 120, 50, 41, 10, 108, 100, 32, 120, 51, 44, 32, 48, 40, 120, 50, 41, 10, 104, 97, 108, 116]
theorem lines11d : linesT src11d = [[115, 100, 32, 120, 49, 44, 32, 48, 40, 120, 50, 41], [108, 100, 32, 120, 51, 44, 32, 48, 40, 120, 50, 41], [104, 97, 108, 116]] := by kernel_rfl
def i11d_0 : Ins := ⟨21, 0, 2, 1, 0, false, false, 0, 0⟩
theorem r11d_0 : readC [115, 100, 32, 120, 49, 44, 32, 48, 40, 120, 50, 41] = some i11d_0 := (readC_iff _ _).2 ⟨(rgt_iff _).1 (by decide), by decide⟩
def i11d_1 : Ins := ⟨14, 3, 2, 0, 0, false, false, 0, 0⟩
theorem r11d_1 : readC [108, 100, 32, 120, 51, 44, 32, 48, 40, 120, 50, 41] = some i11d_1 := (readC_iff _ _).2 ⟨(rgt_iff _).1 (by decide), by decide⟩
def ss11d (k : Nat) : Stm := [instS i11d_0, instS i11d_1, instS haltI].getD k noStm
def pl11d (k : Nat) : Int := [0, 4, 8, 12].getD k 0
theorem prog11d (w : World) (T : TabR w) : Prog1 w src11d 64 ss11d pl11d (fun _ => []) := by
  have h4 : (linesT src11d).length = 3 := by rw [lines11d]; rfl
  refine ⟨by decide, by decide, ?_, ?_, ?_, ?_, by decide⟩
  · intro k X hk hX
    rw [lines11d]
    rw [h4] at hk
    have hk4 : k = 0 ∨ k = 1 ∨ k = 2 := by omega
    rcases hk4 with rfl | rfl | rfl
    · exact read_inst [115, 100, 32, 120, 49, 44, 32, 48, 40, 120, 50, 41] (by decide) (instS i11d_0) (by decide) (by decide) X (fun x hx => readInst_c _ (by decide) i11d_0 r11d_0 x (T.below (hX.on hx)))
    · exact read_inst [108, 100, 32, 120, 51, 44, 32, 48, 40, 120, 50, 41] (by decide) (instS i11d_1) (by decide) (by decide) X (fun x hx => readInst_c _ (by decide) i11d_1 r11d_1 x (T.below (hX.on hx)))
    · exact read_halt X
  · intro k hk
    rw [h4] at hk
    have hk4 : k = 0 ∨ k = 1 ∨ k = 2 := by omega
    rcases hk4 with rfl | rfl | rfl <;> exact .inl ⟨rfl, ⟨by decide, by decide, by decide, by decide⟩, rfl⟩
  · intro k hk
    rw [h4] at hk
    have hk4 : k = 0 ∨ k = 1 ∨ k = 2 := by omega
    rcases hk4 with rfl | rfl | rfl <;> decide
  · intro k hk
    rw [h4] at hk
    have hk4 : k = 0 ∨ k = 1 ∨ k = 2 := by omega
    rcases hk4 with rfl | rfl | rfl <;> decide
theorem puts11d : ∀ k, k < (linesT src11d).length → Puts [] (pl11d k) (ss11d k) := by
  have h4 : (linesT src11d).length = 3 := by rw [lines11d]; rfl
  intro k hk
  rw [h4] at hk
  have hk4 : k = 0 ∨ k = 1 ∨ k = 2 := by omega
  rcases hk4 with rfl | rfl | rfl
  · exact ⟨by decide, .inr ⟨(rgt_iff _).1 (by decide), by decide, .inl rfl⟩⟩
  · exact ⟨by decide, .inr ⟨(rgt_iff _).1 (by decide), by decide, .inl rfl⟩⟩
  · exact ⟨by decide, .inr ⟨(rgt_iff _).1 (by decide), by decide, .inl rfl⟩⟩
/-- The image, as the program's words put it. -/
def img11d : List Int := (List.range 3).flatMap (fun k => putB [] (pl11d k) (ss11d k)) ++ List.replicate (64 - 12) 0
theorem image11d : imgS 64 [] ss11d pl11d 3 = cellsB img11d := by kernel_rfl
theorem asm11d (w : World) (T : TabR w) (T7 : Tab7 w) : Calls Tryz.prog 16 #[tx src11d, .int .i64 64] w (RetAsm w 64 [] (cellsB img11d)) := by
  have h4 : (linesT src11d).length = 3 := by rw [lines11d]; rfl
  have h := asm_c src11d 64 ss11d pl11d (fun _ => []) w (prog11d w T)
  rw [h4] at h
  have h2 := h (fun k hk => puts11d k (by rw [h4]; exact hk)) T7
  rw [image11d] at h2
  exact h2

end Go.Proofs.YtolmecnjolfjgaaGreatDoor
namespace Go.Proofs.YtolmecnjolfjgaaGreatDoor
open Go.RowKit

/-- The tables that layer 11's laws reach. -/
structure TabQ (w : World) : Prop where
  rd : TabR w
  t7 : Tab7 w
  t11 : Tab11 w
theorem img_blk {x : World} {g n : Nat} {B : List Int} (h : Blk (cellsB B).toArray 5 g x) (hn : B.length = n) (hb : ∀ b ∈ B, 0 ≤ b ∧ b < 256) (hl : n ≤ 1024) : ImgAt x (some ⟨g, 0, none⟩) n B :=
  ⟨.inr ⟨g, 0, rfl, h.lt, fun i v hv => by rw [Nat.zero_add, h.cell i]; simpa using hv⟩, hb, by omega, by omega, by omega⟩
theorem zer_wh0 : Wh zerH := by
  refine ⟨⟨by decide, by decide⟩, rfl, fun r => ?_, ⟨by decide, by decide⟩⟩
  have : (List.replicate 32 (0 : Int)).getD r 0 = 0 := by
    rw [List.getD_eq_getElem?_getD, List.getElem?_replicate]
    split <;> rfl
  show U64 ((List.replicate 32 (0 : Int)).getD r 0)
  rw [this]
  exact ⟨by decide, by decide⟩
theorem done11 : (cellsD (aloK img11 zerH 10).done)[30]? = some (.int .u64 5) := by kernel_rfl
theorem mem11 : (cellsB (aloK img11 zerH 10).mem)[12]? = some (.int .u8 5) := by kernel_rfl
theorem meml11 : (aloK img11 zerH 10).mem.length = 16 := by kernel_rfl
/-- What the hart of 'alive' comes to. -/
theorem alone11 (x : World) (g : Nat) (T : Tab11 x) (h : Blk (cellsB img11).toArray 5 g x) :
    Calls Tryz.prog 23 #[.agg (hrtCells zerH), .slice (some ⟨g, 0, none⟩) 16 16, .int .i64 10] x fun e w' =>
      ∃ b q c, e = .returned (.tuple #[.agg (hrtCells (aloK img11 zerH 10).h), .slice (some ⟨b, 0, none⟩) 16 16, .slice (some ⟨q, 0, none⟩) 3 c]) ∧ w'.cell? ⟨b, 12, none⟩ = some (.int .u8 5) ∧ w'.cell? ⟨q, 30, none⟩ = some (.int .u64 5) ∧ b < w'.heap.size ∧ q < w'.heap.size ∧ BW x w' := by
  refine (alone_c zerH (some ⟨g, 0, none⟩) 16 img11 10 x T (img_blk h rfl (by decide) (by decide)) zer_wh0 (by decide)).mono ?_
  rintro e w' ⟨v, n, rfl, hn, hm, hl, hb⟩
  rw [show (10 : Int).toNat = 10 from rfl] at *
  rw [meml11] at hn
  subst hn
  rw [fin11_len] at hl
  obtain ⟨q, c, rfl, hq, hq2⟩ := hl.form (by decide)
  refine ⟨_, q, c, rfl, ?_, ?_, hm.lt, hq2, hb⟩
  · rw [hm.cell 12, List.getElem?_toArray]
    exact mem11
  · rw [hl.cellAt 30 (by decide)]
    exact done11
set_option maxHeartbeats 4000000 in
theorem alive11_any {W : World} (T : TabQ W) (w : World) (h : BW W w) : Calls Tryz.prog 18 #[] w fun e w' => e = .returned (.bool true) ∧ BW W w' ∧ Below w.heap.size w w' := by
  have KA : Calls Tryz.prog 16 #[.string ⟨#[97, 100, 100, 105, 32, 120, 49, 44, 32, 120, 48, 44, 32, 53, 10, 115, 119, 32, 120, 49, 44, 32, 49, 50, 40, 120, 48, 41, 10, 104, 97, 108, 116, 10, 46, 119, 111, 114, 100, 32, 48]⟩, .int .i64 16] w (RetAsm w 16 [] (cellsB img11)) :=
    asm11 w (T.rd.below h) (T.t7.below h)
  have KQ := fun x g (hx : Below w.heap.size w x) hg => alone11 x g (T.t11.below (h.on hx)) hg
  obtain ⟨fh, hfh⟩ : ∃ fh, (aloK img11 zerH 10).h = fh := ⟨_, rfl⟩
  have f1 := fin11_pc
  have f2 := fin11_cause
  have f3 := fin11_x1
  have f4 := fin11_xl
  rw [hfh] at KQ f1 f2 f3 f4
  clear hfh T
  have HI := Lib.hid (hrt_info f4)
  have HF : Hid ((hrtCells fh)[0]? = some (.int .u64 8) ∧ (hrtCells fh)[33]? = some (.int .i64 2) ∧ (hrtCells fh)[2]? = some (.int .u64 5)) := by
    refine ⟨?_, ?_, ?_⟩
    · rw [hrtC_pc, f1]
    · rw [hrtC_cause f4, f2]
    · have := hrtC_x f4 (r := 1) (by decide)
      rw [show fh.x.getD 1 0 = 5 from f3] at this
      exact this
  have KP := fun w3 : World => (Has.of (Blk.new (hrtCells zerH) 38 w3) (n := 34) rfl).put (P := Tryz.prog) (hrtCells fh) (hrtC_size f4) (hrt_one fh) (ty := 38) (hrt_info f4)
  clear f1 f2 f3 f4
  go_enter Tryz.func18, Tryz.ntmps18
  go_upto_region 2 with (go_at_call 16; refine KA.mono ?_; rintro e w2 ⟨g, v, rfl, hc, hg, hrow, hb⟩)
  clear hrow hg KA
  have HB2 := Lib.hid hb
  have HC2 := Lib.hid (show Blk (cellsB img11).toArray 5 g w2 from hc)
  clear hb hc
  go_upto_region 3 with (first
    | (go_at_call 23; refine (KQ _ g HB2.out HC2.out).mono ?_; rintro e w3 ⟨b, q, c, rfl, hq1, hq2, hb1, hb2, hbw⟩; obtain ⟨w4, e4, b4, k4⟩ := KP w3)
    | (refine store_blk (o := ⟨none, .store _ (.tmp 5) (.tmp 18), _, _, _, _⟩) rfl 38 (.tmp 5) (.tmp 18) rfl rfl rfl e4 ?_))
  have hb34 : Below w3.heap.size w3 w4 := ((Below.refl w3.heap.size w3).alloc (Nat.le_refl _) _).grown k4 (by simp) (fun r hr => by cases hr; exact Nat.le_refl _)
  have q0 := (b4.cell 0).trans HF.out.1
  have q33 := (b4.cell 33).trans HF.out.2.1
  have q2 := (b4.cell 2).trans HF.out.2.2
  have q12 := (Below.cell hb34 (p := ⟨b, 12, none⟩) hb1).trans hq1
  have q30 := (Below.cell hb34 (p := ⟨q, 30, none⟩) hb2).trans hq2
  have HBF : Hid (Below w.heap.size w w4) := ((show BW w w2 from HB2.out).on hbw).on hb34
  clear hb34 hbw hb1 hb2 hq1 hq2 k4 b4 e4 KQ KP HF HI HC2 HB2
  go_wp2
  go_ret
  exact ⟨rfl, h.on HBF.out, HBF.out⟩
end Go.Proofs.YtolmecnjolfjgaaGreatDoor
