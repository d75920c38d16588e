/- What is asked of the program's three functions of package decode (each proved of the code, at its round), and 'one', walked over it. -/
import Derived.Test.YtbnacdhhacafkaaDoorRows
import Derived.Test.YtbnacdhhacafkaaDoorCq
import Derived.Test.YtbnacdhhacafkaaDoorOc
import Derived.Test.YtbnacdhhacafkaaDoorSeq
import Derived.Test.YtbnacdhhacafkaaDoorBlk
import Derived.WalkKit
import Derived.WalkLawsBesides
import Derived.Deep.QuietTactic
import Derived.BigQuiet
import Derived.WalkSmall
import Derived.WalkSpells
import Derived.Lib.Hide
import Derived.Below
import Derived.LoopTactic
import Derived.Outline
namespace Go.Proofs.YtbnacdhhacafkaaDoor
open Go.RowKit

/-- An instruction without the registers that its operation hasn't. -/
def clnI (i : Ins) : Ins := { i with rd := if wrB i.op then i.rd else 0, rs1 := if firB i.op then i.rs1 else 0, rs2 := if secB i.op then i.rs2 else 0 }
/-- In every world behind W. -/
structure Cdec (W : World) : Prop where
  decode : AskDecode W
  opcode : ∀ op w, BW W w → I64 op → Calls Tryd.prog 10 #[.int .i64 op] w fun e w' => e = .returned (.int .u32 (ocV op)) ∧ Below w.heap.size w w'
  clean : ∀ i w, BW W w → I64 i.op → Calls Tryd.prog 15 #[insV i] w fun e w' => e = .returned (insV (clnI i)) ∧ Below w.heap.size w w'
theorem Cdec.on {W w : World} (C : Cdec W) (h : BW W w) : Cdec w :=
  ⟨fun v x hx hv => C.decode v x (h.on hx) hv, fun op x hx => C.opcode op x (h.on hx), fun i x hx => C.clean i x (h.on hx)⟩

theorem one_any {W : World} (C : Cdec W) (v : Int) (hv : U32 v) (w : World) (h : BW W w) : Calls Tryd.prog 8 #[.int .u32 v] w fun e w' => e = .returned (.bool true) ∧ BW W w' := by
  have HP := fun w (h : BW W w) => past h (C.decode v w h hv)
  have HD := fun w (h : BW W w) => d_decode v hv h
  have hE : decE v = if decB v then 0 else 2 := rfl
  cases hb : decB v
  all_goals
    rw [hb] at hE HD
    rw [hE] at HP
    simp only [if_true, Bool.false_eq_true, if_false] at HP
    clear hb hE
    unfold insV at HP HD
    generalize decI v = i at *
    have heq := fun w => run_eql_same (P := Tryd.prog) (xs := insCells i) w 29 (by kernel_rfl) (by kernel_rfl) (by kernel_rfl)
    unfold insCells at heq
    obtain ⟨op, rd, rs1, rs2, imm, aq, rl, pred, succ⟩ := i
    simp only at heq HP HD
    go_enter Tryd.func8, Tryd.ntmps8
    go_wp2_with (first
      | (go_at_call 16; refine (HP _ (by assumption)).mono ?_; rintro e w1 ⟨rfl, hb1, hq⟩; clear hq)
      | (go_at_call 17; refine (HD _ (hb1.new _)).mono ?_; rintro e w2 ⟨rfl, hb2, hq⟩; have HJ := (Blk.new _ _ w1).on hq)
      | (with_reducible refine load_blk (o := ⟨some 17, _, _, _, _, _⟩) rfl 29 (.tmp 3) rfl (HJ.alloc _) rfl Tryd.underlying29 rfl (by kernel_rfl) ?_)
      | (with_reducible refine load_blk (o := ⟨some 18, _, _, _, _, _⟩) rfl 29 (.tmp 5) rfl (Blk.new _ _ w2) rfl Tryd.underlying29 rfl (by kernel_rfl) ?_))
    go_ret
    exact ⟨rfl, by first | assumption | exact hb2.new _⟩
end Go.Proofs.YtbnacdhhacafkaaDoor
