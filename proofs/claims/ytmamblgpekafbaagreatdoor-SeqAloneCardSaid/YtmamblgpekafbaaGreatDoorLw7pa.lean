/- Of stage 11. -/
import Derived.Test.YtmamblgpekafbaaGreatDoorCespa
import Derived.Test.YtmamblgpekafbaaGreatDoorEhpa
set_option maxRecDepth 100000
namespace Go.Proofs.YtmamblgpekafbaaGreatDoor
open Go.RowKit
open Go.RowKit
theorem dec_ways {v:Int} (hv:U32 v):decE v=2∨(decE v=0∧rgtB (decI v)=true∧I64 (decI v).op∧zd9 (decI v)=ownV v (decI v).op∧Isw v (decI v).op):=by
 by_cases h0:opW v=0
 ·left;unfold decE decB;rw [h0];rfl
 ·right
  obtain ⟨h1,h2⟩:=zu4 h0
  obtain ⟨g1,g2⟩:=dec_enc h1 hv.1 hv.2 h2
  have e:decI v=zd8 v (opW v):=by unfold decI;rw [if_neg h0]
  have e2:(decI v).op=opW v:=by rw [e,insOf_op]
  refine ⟨zw1 h0,?_,?_,?_,?_⟩
  ·rw [e];exact (zj3 _).2 g1
  ·rw [e2];exact ⟨by omega,by omega⟩
  ·rw [e2,e];exact g2
  ·rw [e2];exact h2
open Go.RowKit
open Go.RowKit
open Go.RowKit
open Go.RowKit
theorem Zp6 (i:Ins) (ho:I64 i.op) (hn:rgtB i=false) (w:World) (T:Tab7 w) :
  Calls Tryz.prog 54 #[insV i] w fun e w'=>e=.returned (.tuple #[.int .u32 0,.int .i64 1])∧Below w.heap.size w w':=by
 have HJ0:=zs2 i w
 have KR:=fun g x (h:Jn w i g x)=>(zM7 i ho x (T.dec.below h.1)).mono fun e w' hh=>(⟨hh.1,h.on hh.2⟩:_∧Jn w i g w')
 rw [hn] at KR
 clear hn T
 obtain ⟨op,rd,rs1,rs2,imm,aq,rl,pred,succ⟩:=i
 unfold insV za0 at *
 simp only at HJ0 KR ⊢
 go_enter Tryz.func54,Tryz.ntmps54
 go_upto_region 1 with (fail)
 generalize w.alloc (.cells _ 39)=w1 at *
 obtain ⟨g,hg⟩:∃ g,w.heap.size=g:=⟨_,rfl⟩
 have HJ:Jn w ⟨op,rd,rs1,rs2,imm,aq,rl,pred,succ⟩ g w1:=by rw [← hg];exact HJ0
 rw [hg]
 clear hg HJ0
 obtain ⟨c0,c1,c2,c3,c4,c5,c6,c7,c8⟩:=HJ.cells
 simp only at c0 c1 c2 c3 c4 c5 c6 c7 c8
 go_wp2_with (first
  | (go_at_call 93;refine (KR g _ HJ).mono ?_;rintro e w2 ⟨rfl,HJ2⟩))
 go_ret2
 exact ⟨rfl,HJ2.1⟩
theorem zQ3 (i:Ins) (ho:I64 i.op) (w:World) (T:Tab7 w) :
  Calls Tryz.prog 54 #[insV i] w fun e w'=>e=.returned (.tuple #[.int .u32 (encW i),.int .i64 (encE i)])∧Below w.heap.size w w':=by
 unfold encW encE
 cases hb:rgtB i
 ·exact Zp6 i ho hb w T
 ·have hR:=(zj3 i).1 hb
  have him:imB i.op i.imm=true:=by
   have h:=zG6 i
   rw [hb] at h
   simp only [eq_comm (a:=true),Bool.and_eq_true] at h
   exact h.1
  refine zY9 i hR w (fun g x h=>(T.dec.below h.1).lasts) (fun g x h=>?_) (fun g x h=>?_) (fun g x h=>opcode_c i.op ho x (T.dec.below h.1))
  ·have:=zM7 i ho x (T.dec.below h.1)
   rw [hb] at this
   exact this.mono fun _ _ hh=>⟨hh.1,h.on hh.2⟩
  ·have:=imme_c i.op i.imm ho x (T.dec.below h.1)
   rw [him,show imW i.op i.imm=immW i.op i.imm by unfold imW;rw [him];rfl] at this
   exact this.mono fun _ _ hh=>⟨hh.1,h.on hh.2⟩
open Go.RowKit
theorem ofB4 (a b c d:Int):ofB [a,b,c,d]=a + 256 * b + 65536 * c + 16777216 * d:=by
 show a + 256 * (b + 256 * (c + 256 * (d + 256 * 0)))=_
 omega
open Go.RowKit
end Go.Proofs.YtmamblgpekafbaaGreatDoor
