/- Of stage 11. -/
import Derived.Test.YtmamblgpekafbaaGreatDoorBapa
import Derived.WalkLawsBesides
import Derived.Deep.LoopGhost
import Derived.Lib.Hide
set_option maxRecDepth 100000
namespace Go.Proofs.YtmamblgpekafbaaGreatDoor
open Go.RowKit
def alg (a n:Int):Bool:=decide ((n=1∨n=2∨n=4∨n=8)∧0≤a∧a % n=0)
theorem alg_eq (a n:Int) (c:Bool) (h:c=true↔((n=1∨n=2∨n=4∨n=8)∧0≤a∧a % n=0)):c=alg a n:=by
 unfold alg
 rw [Bool.eq_iff_iff,h,decide_eq_true_eq]
theorem zP3 (a n:Int) (ha:a≤9223372036854775807) (w:World) :
  Calls Tryz.prog 79 #[.int .i64 a,.int .i64 n] w fun e w'=>e=.returned (.bool (alg a n))∧w=w':=by
 by_cases h1:n=1∨n=2∨n=4∨n=8
 ·rcases h1 with rfl | rfl | rfl | rfl
  all_goals
   go_enter Tryz.func79,Tryz.ntmps79
   go_wp2
  all_goals go_ret
  all_goals refine ⟨zb0 (alg_eq a _ _ ?_),rfl⟩
  all_goals simp
  all_goals omega
 ·have b1:(n == 1)=false:=beq_eq_false_iff_ne.2 (by omega)
  have b2:(n == 2)=false:=beq_eq_false_iff_ne.2 (by omega)
  have b4:(n == 4)=false:=beq_eq_false_iff_ne.2 (by omega)
  have b8:(n == 8)=false:=beq_eq_false_iff_ne.2 (by omega)
  have H1:=Lib.hid h1;clear h1
  go_enter Tryz.func79,Tryz.ntmps79
  go_wp2
  go_ret
  exact ⟨zb0 (alg_eq a n _ (by have:=H1.out;simp;omega)),rfl⟩
end Go.Proofs.YtmamblgpekafbaaGreatDoor
