/- Of stage 11. -/
import Derived.Test.YtmamblgpekafbaaGreatDoorQapa
set_option linter.unusedVariables false
set_option maxRecDepth 100000
namespace Go.Proofs.YtmamblgpekafbaaGreatDoor
def valR (op imm pc ra rb read:Int) (failed:Bool):Int:=if ldsB op=true then loaV op read else if srt op=11 then (if failed=true then 1 else 0) else resV op imm pc ra rb
def redL (op read:Int):Int:=if ldsB op=true then zx read (8 * siz op).toNat else 0
def faiL (op:Int) (failed:Bool):Bool:=failed && decide (srt op=11)
def wroL (op read rb:Int) (failed:Bool):Int:=if (stsB op && !faiL op failed)=true then stoV op read rb else 0
theorem sc_res {op imm pc a b:Int} (h:srt op=11):resV op imm pc a b=0:=by
 apply zb1
 intro hr
 have h1:∀ k:Nat,k<50→srt (k:Int)≠11:=by decide +kernel
 have hk:=h1 op.toNat (by omega)
 rw [Int.toNat_of_nonneg (by omega)] at hk
 exact hk h
theorem sxz_low (x:Int) (n:Nat):sx (zx x n) n=sx x n:=by
 unfold sx
 by_cases h0:n=0
 ·rw [if_pos h0,if_pos h0]
 ·rw [if_neg h0,if_neg h0,zJ4 x (Nat.le_refl n)]
  have e:zx x n / 2 ^ (n - 1) % 2=x / 2 ^ (n - 1) % 2:=by
   obtain ⟨m,rfl⟩:∃ m,n=m + 1:=⟨n - 1,by omega⟩
   rw [show m + 1 - 1=m from rfl]
   unfold zx
   have hp:(2:Int) ^ m≠0:=by have:=zc0 m;omega
   have hx:x=x % 2 ^ (m + 1) + 2 ^ m * (2 * (x / 2 ^ (m + 1))):=by
    rw [← Int.mul_assoc,← Int.pow_succ]
    exact (Int.emod_add_mul_ediv x (2 ^ (m + 1))).symm
   have h2:x / 2 ^ m=x % 2 ^ (m + 1) / 2 ^ m + 2 * (x / 2 ^ (m + 1)):=by
    conv=>lhs;rw [hx]
    rw [Int.add_mul_ediv_left _ _ hp]
   rw [h2,Int.add_mul_emod_self_left]
  rw [e]
theorem loa_red (op read:Int):loaV op (zx read (8 * siz op).toNat)=loaV op read:=by
 unfold loaV
 rw [zJ4 read (Nat.le_refl _),sxz_low]
theorem val_eq (h:Hrt) (i:Ins) (pc ad read:Int) (failed:Bool):valW h ⟨pc,i,0,0,ad,0,0,false⟩ read failed=valR i.op i.imm pc (xAt h i.rs1) (xAt h i.rs2) read failed:=by
 unfold valW valR redV faiB
 by_cases hl:ldsB i.op=true
 ·simp only [hl,if_true]
  exact loa_red _ _
 ·simp only [hl]
  by_cases h11:srt i.op=11
  ·rw [sc_res h11]
   cases failed <;> simp [h11]
  ·simp [h11]
theorem Zb2 {h:Hrt} {B:List Int} (hcz:h.cause=0) {i:Ins} {ad:Int} (hb:begD (zerX h) B=⟨h.pc,i,0,0,ad,0,0,false⟩) (read:Int) (failed:Bool) :
  stpH h B read failed=⟨nxtV i.op i.imm h.pc (xAt (zerX h) i.rs1) (xAt (zerX h) i.rs2),if tgt i=0 then (zerX h).x else (zerX h).x.set (tgt i).toNat (valR i.op i.imm h.pc (xAt (zerX h) i.rs1) (xAt (zerX h) i.rs2) read failed),(zerX h).cause⟩ ∧
  stpD h B read failed=⟨h.pc,i,0,if tgt i=0 then 0 else valR i.op i.imm h.pc (xAt (zerX h) i.rs1) (xAt (zerX h) i.rs2) read failed,ad,redL i.op read,wroL i.op read (xAt (zerX h) i.rs2) failed,faiL i.op failed⟩:=by
 unfold stpH stpD
 rw [if_pos hcz,if_pos hcz,hb]
 unfold doH doD
 rw [if_pos rfl,if_pos rfl]
 rw [val_eq]
 constructor <;> first | rfl | trivial
end Go.Proofs.YtmamblgpekafbaaGreatDoor
