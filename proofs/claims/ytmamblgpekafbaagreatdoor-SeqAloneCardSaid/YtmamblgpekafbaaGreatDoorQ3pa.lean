/- Of stage 11. -/
import Derived.Test.YtmamblgpekafbaaGreatDoorQ1pa
set_option linter.unusedVariables false
set_option maxHeartbeats 1000000
set_option maxRecDepth 100000
namespace Go.Proofs.YtmamblgpekafbaaGreatDoor
open Go.RowKit
def Dj (W0:World) (d:Dn) (g:Nat) (w:World):Prop:=BW W0 w∧Blk (za3 d) 41 g w∧W0.heap.size≤g
section
variable {W0 w w':World} {d:Dn} {g:Nat}
theorem Dj.on (h:Dj W0 d g w) (hb:Below w.heap.size w w'):Dj W0 d g w':=⟨h.1.on hb,h.2.1.on hb,h.2.2⟩
theorem Dj.drew (h:Dj W0 d g w):Dj W0 d g w.drew:=⟨Below.drew h.1,h.2.1.drew,h.2.2⟩
theorem Dj.st (h:Dj W0 d g w) (k:Nat) (v:Value) (d':Dn) (e:(za3 d).setIfInBounds k v=za3 d'):Dj W0 d' g (w.setCell ⟨g,k,none⟩ v) :=
 ⟨Below.setCell h.1 h.2.2 v,by have:=h.2.1.set k v;rw [e] at this;exact this,h.2.2⟩
theorem Dj.new (d:Dn) (w:World):Dj w d w.heap.size (w.alloc (.cells (za3 d) 41)):=⟨BW.new (Below.refl _ _) _,Blk.new _ _ _,Nat.le_refl _⟩
theorem Dj.cells (h:Dj W0 d g w):w.cell? ⟨g,0,none⟩=some (.int .u64 d.pc)∧w.cell? ⟨g,1,none⟩=some (.int .i64 d.inst.op)∧w.cell? ⟨g,2,none⟩=some (.int .i64 d.inst.rd)∧w.cell? ⟨g,3,none⟩=some (.int .i64 d.inst.rs1) ∧
  w.cell? ⟨g,4,none⟩=some (.int .i64 d.inst.rs2)∧w.cell? ⟨g,5,none⟩=some (.int .i64 d.inst.imm)∧w.cell? ⟨g,6,none⟩=some (.bool d.inst.aq)∧w.cell? ⟨g,7,none⟩=some (.bool d.inst.rl)∧w.cell? ⟨g,8,none⟩=some (.int .i64 d.inst.pred)∧w.cell? ⟨g,9,none⟩=some (.int .i64 d.inst.succ) ∧
  w.cell? ⟨g,10,none⟩=some (.int .i64 d.cause)∧w.cell? ⟨g,11,none⟩=some (.int .u64 d.val)∧w.cell? ⟨g,12,none⟩=some (.int .u64 d.addr)∧w.cell? ⟨g,13,none⟩=some (.int .u64 d.read)∧w.cell? ⟨g,14,none⟩=some (.int .u64 d.wrote)∧w.cell? ⟨g,15,none⟩=some (.bool d.failed) :=
 ⟨h.2.1.cell 0,h.2.1.cell 1,h.2.1.cell 2,h.2.1.cell 3,h.2.1.cell 4,h.2.1.cell 5,h.2.1.cell 6,h.2.1.cell 7,h.2.1.cell 8,h.2.1.cell 9,h.2.1.cell 10,h.2.1.cell 11,h.2.1.cell 12,h.2.1.cell 13,h.2.1.cell 14,h.2.1.cell 15⟩
theorem Dj.frees (h:Dj W0 d g w):w.frozen? ⟨g,1,none⟩=false∧w.frozen? ⟨g,2,none⟩=false∧w.frozen? ⟨g,3,none⟩=false∧w.frozen? ⟨g,4,none⟩=false∧w.frozen? ⟨g,5,none⟩=false∧w.frozen? ⟨g,6,none⟩=false∧w.frozen? ⟨g,7,none⟩=false∧w.frozen? ⟨g,8,none⟩=false∧w.frozen? ⟨g,9,none⟩=false ∧
  w.frozen? ⟨g,10,none⟩=false∧w.frozen? ⟨g,11,none⟩=false∧w.frozen? ⟨g,12,none⟩=false∧w.frozen? ⟨g,13,none⟩=false∧w.frozen? ⟨g,14,none⟩=false∧w.frozen? ⟨g,15,none⟩=false :=
 ⟨h.2.1.free 1,h.2.1.free 2,h.2.1.free 3,h.2.1.free 4,h.2.1.free 5,h.2.1.free 6,h.2.1.free 7,h.2.1.free 8,h.2.1.free 9,h.2.1.free 10,h.2.1.free 11,h.2.1.free 12,h.2.1.free 13,h.2.1.free 14,h.2.1.free 15⟩
end
def valQ (d:Dn) (a b:Int):Int:=if ldsB d.inst.op=true then loaV d.inst.op d.read else if d.failed=true then 1 else resV d.inst.op d.inst.imm d.pc a b
theorem value_c (d:Dn) (a b:Int) (ho:I64 d.inst.op) (hp:U64 d.pc) (hr:U64 d.read) (ha:U64 a) (hb:U64 b) (w:World) (T:Tab11 w) :
  Calls Tryz.prog 37 #[.agg (za3 d),.int .u64 a,.int .u64 b] w fun e w'=>e=.returned (.int .u64 (valQ d a b))∧Below w.heap.size w w':=by
 have HJ0:=Dj.new d w
 have KL:=fun x (h:BW w x)=>lds_c d.inst.op ho x (T.below h).t6.lasts
 have KO:=fun x (h:BW w x)=>loaded_c d.inst.op d.read ho hr x (T.below h).t6.lasts
 have KR:=fun x (h:BW w x)=>result_c d.inst d.pc a b ho ha hb x (T.below h).t8
 have HV:Hid (valQ d a b=if ldsB d.inst.op=true then loaV d.inst.op d.read else if d.failed=true then 1 else resV d.inst.op d.inst.imm d.pc a b):=rfl
 clear ho hp hr ha hb T
 obtain ⟨pc,⟨op,rd,rs1,rs2,imm,aq,rl,pred,succ⟩,cause,val,addr,read,wrote,failed⟩:=d
 unfold za3 at HJ0 ⊢
 simp only at HJ0 KL KO KR HV ⊢
 unfold insV at KR
 simp only at KR
 generalize valQ _ a b=v at *
 generalize loaV op read=lv at *
 generalize resV op imm pc a b=rv at *
 cases hl:ldsB op
 all_goals
  rw [hl] at KL HV
  clear hl
 ·cases failed
  all_goals
   have HX:=Lib.hid HV.out
   simp only [Bool.false_eq_true,if_false,if_true] at HX
   clear HV
   go_enter Tryz.func37,Tryz.ntmps37
   go_upto_region 1 with (fail)
   generalize w.alloc (.cells _ 41)=w1 at *
   obtain ⟨g,hg⟩:∃ g,w.heap.size=g:=⟨_,rfl⟩
   rw [hg] at HJ0 ⊢
   have HG:=Lib.hid hg
   clear hg
   have HJ:=HJ0
   clear HJ0
   obtain ⟨c0,c1,c2,c3,c4,c5,c6,c7,c8,c9,c10,c11,c12,c13,c14,c15⟩:=HJ.cells
   simp only at c0 c1 c2 c3 c4 c5 c6 c7 c8 c9 c10 c11 c12 c13 c14 c15
   go_wp2_with (first
    | (go_at_call 32;refine (KL _ HJ.1).mono ?_;rintro e w2 ⟨rfl,rfl⟩)
    | (go_at_call 62;refine (KR _ HJ.1).mono ?_;rintro e w2 ⟨rfl,hq⟩))
   go_ret
   first
    | exact ⟨za1 HX.out.symm,HJ.1⟩
    | exact ⟨za1 HX.out.symm,HJ.1.on hq⟩
 ·have HX:=Lib.hid HV.out
  simp only [if_true] at HX
  clear HV
  go_enter Tryz.func37,Tryz.ntmps37
  go_upto_region 1 with (fail)
  generalize w.alloc (.cells _ 41)=w1 at *
  obtain ⟨g,hg⟩:∃ g,w.heap.size=g:=⟨_,rfl⟩
  rw [hg] at HJ0 ⊢
  have HG:=Lib.hid hg
  clear hg
  have HJ:=HJ0
  clear HJ0
  obtain ⟨c0,c1,c2,c3,c4,c5,c6,c7,c8,c9,c10,c11,c12,c13,c14,c15⟩:=HJ.cells
  simp only at c0 c1 c2 c3 c4 c5 c6 c7 c8 c9 c10 c11 c12 c13 c14 c15
  go_wp2_with (first
   | (go_at_call 32;refine (KL _ HJ.1).mono ?_;rintro e w2 ⟨rfl,rfl⟩)
   | (go_at_call 61;refine (KO _ HJ.1).mono ?_;rintro e w2 ⟨rfl,rfl⟩))
  go_ret
  exact ⟨za1 HX.out.symm,HJ.1⟩
open Go.RowKit
def zb5 (a s:Int):Array Value:=#[.int .u64 a,.int .i64 s]
theorem reach_c (d:Dn) (ho:I64 d.inst.op) (w:World) (T:TabL w) :
  Calls Tryz.prog 12 #[.agg (za3 d)] w fun e w'=>e=.returned (.agg (zb5 (reaA d) (reaS d)))∧Below w.heap.size w w':=by
 have HJ0:=Dj.new d w
 have KS:=fun x (h:BW w x)=>zm5 d.inst.op ho x (T.below h)
 by_cases hc:d.cause=0
 ·have e1:reaA d=d.addr:=by unfold reaA;rw [if_pos hc]
  have e2:reaS d=siz d.inst.op:=by unfold reaS;rw [if_pos hc]
  rw [e1,e2]
  have bc:(d.cause != 0)=false:=by simpa using hc
  obtain ⟨pc,⟨op,rd,rs1,rs2,imm,aq,rl,pred,succ⟩,cause,val,addr,read,wrote,failed⟩:=d
  clear e1 e2 hc ho T
  unfold za3 at HJ0 ⊢
  simp only at HJ0 KS bc ⊢
  generalize siz op=z at *
  go_enter Tryz.func12,Tryz.ntmps12
  go_upto_region 1 with (fail)
  have HP:=Blk.new (zb5 0 0) 44 (w.alloc (.cells (za3 ⟨pc,⟨op,rd,rs1,rs2,imm,aq,rl,pred,succ⟩,cause,val,addr,read,wrote,failed⟩) 41))
  have HJ1:Dj w ⟨pc,⟨op,rd,rs1,rs2,imm,aq,rl,pred,succ⟩,cause,val,addr,read,wrote,failed⟩ w.heap.size ((w.alloc (.cells (za3 ⟨pc,⟨op,rd,rs1,rs2,imm,aq,rl,pred,succ⟩,cause,val,addr,read,wrote,failed⟩) 41)).alloc (.cells (zb5 0 0) 44)) :=
   ⟨BW.new HJ0.1 _,HJ0.2.1.alloc _,Nat.le_refl _⟩
  have hz:(w.alloc (.cells (za3 ⟨pc,⟨op,rd,rs1,rs2,imm,aq,rl,pred,succ⟩,cause,val,addr,read,wrote,failed⟩) 41)).heap.size=w.heap.size + 1:=by simp
  rw [hz] at HP
  unfold za3 zb5 at HP HJ1
  simp only at HP HJ1
  clear hz HJ0
  generalize (w.alloc (.cells _ 41)).alloc (.cells _ 44)=w1 at *
  obtain ⟨g,hg⟩:∃ g,w.heap.size=g:=⟨_,rfl⟩
  rw [hg] at HJ1 HP ⊢
  have HG:=Lib.hid hg
  clear hg
  obtain ⟨c0,c1,c2,c3,c4,c5,c6,c7,c8,c9,c10,c11,c12,c13,c14,c15⟩:=HJ1.cells
  simp only at c0 c1 c2 c3 c4 c5 c6 c7 c8 c9 c10 c11 c12 c13 c14 c15
  go_upto_region 3 with (fail)
  refine wp_region_still_tail 7 (by kernel_rfl) (by kernel_rfl) ?_
  change wpStill _ _ w1.drew (fun a'=>wpList _ _ _ _ a' w1.drew) _ _
  have HJ2:=HJ1.drew
  have HP2:=HP.drew
  clear c0 c1 c2 c3 c4 c5 c6 c7 c8 c9 c10 c11 c12 c13 c14 c15 HJ1 HP
  generalize w1.drew=w2 at *
  obtain ⟨c0,c1,c2,c3,c4,c5,c6,c7,c8,c9,c10,c11,c12,c13,c14,c15⟩:=HJ2.cells
  simp only at c0 c1 c2 c3 c4 c5 c6 c7 c8 c9 c10 c11 c12 c13 c14 c15
  have A0:Calls Tryz.prog 31 #[.int .i64 op] w2 fun e w'=>e=.returned (.int .i64 z)∧w'=w2:=(KS w2 HJ2.1).mono fun _ _ hh=>⟨hh.1,hh.2.symm⟩
  simp only [List.take_succ_cons,List.take_zero,List.drop_succ_cons,List.drop_zero]
  still_step
  still_step
  still_step
  still_step
  still_step
  still_call A0
  still_step
  refine wpStill_nil ?_
  clear A0 c0 c1 c2 c3 c4 c5 c6 c7 c8 c9 c10 c11 c12 c13 c14 c15
  obtain ⟨w9,hs,hb9,hk9⟩:=(Has.of HP2 rfl).put (P:=Tryz.prog) (zb5 addr z) rfl (by intro v hv;simp [zb5] at hv;rcases hv with rfl | rfl <;> rfl) (ty:=44) (by kernel_rfl)
  go_wp2_with (with_reducible refine zc4 (o:=⟨none,.store _ (.tmp 2) (.tmp 13),_,_,_,_⟩) rfl 44 (.tmp 2) (.tmp 13) rfl rfl rfl hs ?_)
  refine bodyPost_ret (zb7 rfl rfl hb9 Tryz.underlying44 rfl (by kernel_rfl)) rfl ?_
  refine ⟨rfl,?_⟩
  exact Below.stored HJ2.1 hk9 (by have:=HG.out;omega) (Below.size HJ2.1)
 ·have e1:reaA d=0:=by unfold reaA;rw [if_neg hc]
  have e2:reaS d=0:=by unfold reaS;rw [if_neg hc]
  rw [e1,e2]
  have bc:(d.cause != 0)=true:=by simpa using hc
  obtain ⟨pc,⟨op,rd,rs1,rs2,imm,aq,rl,pred,succ⟩,cause,val,addr,read,wrote,failed⟩:=d
  clear e1 e2 hc ho T KS
  unfold za3 at HJ0 ⊢
  simp only at HJ0 bc ⊢
  go_enter Tryz.func12,Tryz.ntmps12
  go_upto_region 1 with (fail)
  have HP:=Blk.new (zb5 0 0) 44 (w.alloc (.cells (za3 ⟨pc,⟨op,rd,rs1,rs2,imm,aq,rl,pred,succ⟩,cause,val,addr,read,wrote,failed⟩) 41))
  have HJ1:Dj w ⟨pc,⟨op,rd,rs1,rs2,imm,aq,rl,pred,succ⟩,cause,val,addr,read,wrote,failed⟩ w.heap.size ((w.alloc (.cells (za3 ⟨pc,⟨op,rd,rs1,rs2,imm,aq,rl,pred,succ⟩,cause,val,addr,read,wrote,failed⟩) 41)).alloc (.cells (zb5 0 0) 44)) :=
   ⟨BW.new HJ0.1 _,HJ0.2.1.alloc _,Nat.le_refl _⟩
  have hz:(w.alloc (.cells (za3 ⟨pc,⟨op,rd,rs1,rs2,imm,aq,rl,pred,succ⟩,cause,val,addr,read,wrote,failed⟩) 41)).heap.size=w.heap.size + 1:=by simp
  rw [hz] at HP
  unfold za3 zb5 at HP HJ1
  simp only at HP HJ1
  clear hz HJ0
  generalize (w.alloc (.cells _ 41)).alloc (.cells _ 44)=w1 at *
  obtain ⟨g,hg⟩:∃ g,w.heap.size=g:=⟨_,rfl⟩
  rw [hg] at HJ1 HP ⊢
  have HG:=Lib.hid hg
  clear hg
  obtain ⟨c0,c1,c2,c3,c4,c5,c6,c7,c8,c9,c10,c11,c12,c13,c14,c15⟩:=HJ1.cells
  simp only at c0 c1 c2 c3 c4 c5 c6 c7 c8 c9 c10 c11 c12 c13 c14 c15
  obtain ⟨w9,hs,hb9,hk9⟩:=(Has.of HP rfl).put (P:=Tryz.prog) (zb5 0 0) rfl (by intro v hv;simp [zb5] at hv;rcases hv with rfl | rfl <;> rfl) (ty:=44) (by kernel_rfl)
  go_wp2_with (with_reducible refine zc4 (o:=⟨none,.store _ (.tmp 2) (.tmp 6),_,_,_,_⟩) rfl 44 (.tmp 2) (.tmp 6) rfl rfl rfl hs ?_)
  refine bodyPost_ret (zb7 rfl rfl hb9 Tryz.underlying44 rfl (by kernel_rfl)) rfl ?_
  refine ⟨rfl,?_⟩
  exact Below.stored HJ1.1 hk9 (by have:=HG.out;omega) (Below.size HJ1.1)
def Mem8 (w:World) (A:Option Addr) (cap:Nat) (M:List Int):Prop:=Rd w w.heap.size A (za4 M)∧(∀ b ∈ M,0≤b∧b<256)∧M.length≤1024∧M.length≤cap∧cap≤9223372036854775807
theorem Zr2 (M:List Int):numM M 0 0=0:=by unfold numM;simp;rfl
theorem of_mem {w:World} {b off cap:Nat} {M:List Int} (h:Mem8 w (some ⟨b,off,none⟩) cap M) (k z:Nat) (hk:k + z≤M.length) (c:Nat) (hb:b<w.heap.size) (hcell:∀ j,j<M.length→w.cell? ⟨b,off + j,none⟩=some (.int .u8 (M.getD j 0))) :
  ∀ x,BW w x→Calls Tryz.prog 39 #[.slice (some ⟨b,off + k,none⟩) z c] x fun e w'=>e=.returned (.int .u64 (numM M k z))∧x=w':=fun x hx=>by
 have hl:((M.drop k).take z).length=z:=by simp;omega
 have g:=Zb0 (some ⟨b,off + k,none⟩) c ((M.drop k).take z) x (by have:=h.2.2.1;omega) (fun v hv=>h.2.1 v (List.mem_of_mem_drop (List.mem_of_mem_take hv))) (.inr ⟨b,off + k,rfl,Nat.lt_of_lt_of_le hb (Below.size hx),fun i v hv=>by
  have hi:i<z:=by
   have:=(List.getElem?_eq_some_iff.1 hv).1
   simp [za4] at this
   omega
  rw [Below.cell hx (p:=⟨b,off + k + i,none⟩) hb,Nat.add_assoc,hcell (k + i) (by omega)]
  unfold za4 at hv
  rw [List.getElem?_map,List.getElem?_take_of_lt hi,List.getElem?_drop] at hv
  rw [List.getD_eq_getElem?_getD]
  cases hq:M[k + i]? with
  | none=>rw [hq] at hv;cases hv
  | some y=>rw [hq] at hv;exact hv⟩)
 rw [hl] at g
 unfold numM
 exact g
theorem zZ8 (b off cap:Nat) (M:List Int) (k z:Nat) (w:World) (h:Mem8 w (some ⟨b,off,none⟩) cap M) (hb:b<w.heap.size) (hcell:∀ j,j<M.length→w.cell? ⟨b,off + j,none⟩=some (.int .u8 (M.getD j 0))) (hk:k + z≤M.length) (hz:1≤z) :
  Calls Tryz.prog 14 #[.agg (zb5 k z),.slice (some ⟨b,off,none⟩) M.length cap] w fun e w'=>e=.returned (.int .u64 (numM M k z))∧BW w w':=by
 have KO:=of_mem h k z hk (cap - k) hb hcell
 have hn:=h.2.2.1
 have hc:=h.2.2.2.1
 have hc2:=h.2.2.2.2
 generalize numM M k z=v at *
 clear h hb hcell
 generalize M.length=n at *
 have g1:(k:Int)≤n:=by omega
 have g2:(n:Int)≤cap:=by omega
 have g3:¬ cap=k:=by omega
 have g4:(z:Int)≤(cap:Int) - k:=by omega
 have g5:(cap:Int)≤9223372036854775807:=by omega
 have HB:Hid (BW w (w.alloc (.cells (zb5 k z) 44))):=BW.new (Below.refl _ _) _
 have c0:(w.alloc (.cells (zb5 k z) 44)).cell? ⟨w.heap.size,0,none⟩=some (.int .u64 k):=Blk.cell (Blk.new _ _ _) 0
 have c1:(w.alloc (.cells (zb5 k z) 44)).cell? ⟨w.heap.size,1,none⟩=some (.int .i64 z):=Blk.cell (Blk.new _ _ _) 1
 unfold zb5 at HB c0 c1 ⊢
 clear hk hz hn hc hc2
 go_enter Tryz.func14,Tryz.ntmps14
 go_upto_region 1 with (fail)
 generalize w.alloc (.cells _ 44)=w1 at *
 generalize w.heap.size=g at *
 go_quiet (first
  | (go_at_call 39;refine Calls.quiet_of_same ((KO _ (BW.on HB.out (zg1 _))).mono (fun _ _ ⟨he,hw⟩=>⟨he,hw.symm⟩))))
 go_wp2
 go_ret
 exact ⟨rfl,BW.on HB.out (zg1 _)⟩
theorem of_none (A:Option Addr) (c:Nat) (x:World):Calls Tryz.prog 39 #[.slice A 0 c] x fun e w'=>e=.returned (.int .u64 0)∧x=w':=Zb0 A c [] x (by simp) (fun z hz=>by cases hz) Rd.nil
theorem zO5 (A:Option Addr) (n cap:Nat) (w:World) (hn:n≤cap) (hc:cap≤9223372036854775807) (hA:A=none→cap=0) (hp:∀ a,A=some a→∃ b off,a=⟨b,off,none⟩) :
  Calls Tryz.prog 14 #[.agg (zb5 0 0),.slice A n cap] w fun e w'=>e=.returned (.int .u64 0)∧BW w w':=by
 have HB:Hid (BW w (w.alloc (.cells (zb5 0 0) 44))):=BW.new (Below.refl _ _) _
 have c0:(w.alloc (.cells (zb5 0 0) 44)).cell? ⟨w.heap.size,0,none⟩=some (.int .u64 0):=Blk.cell (Blk.new _ _ _) 0
 have c1:(w.alloc (.cells (zb5 0 0) 44)).cell? ⟨w.heap.size,1,none⟩=some (.int .i64 0):=Blk.cell (Blk.new _ _ _) 1
 unfold zb5 at HB c0 c1 ⊢
 have hw:(A=none∧n=0∧cap=0)∨(∃ b off,A=some ⟨b,off,none⟩∧cap=0∧n=0)∨(∃ b off,A=some ⟨b,off,none⟩∧¬ cap=0):=by
  cases A with
  | none=>exact .inl ⟨rfl,by have:=hA rfl;omega,hA rfl⟩
  | some a =>
   obtain ⟨b,off,rfl⟩:=hp a rfl
   by_cases h0:cap=0
   ·exact .inr (.inl ⟨b,off,rfl,h0,by omega⟩)
   ·exact .inr (.inr ⟨b,off,rfl,h0⟩)
 have g1:(n:Int)≤cap:=by omega
 have g2:(cap:Int)≤9223372036854775807:=by omega
 clear hA hp hn hc
 rcases hw with ⟨rfl,rfl,rfl⟩ | ⟨b,off,rfl,rfl,rfl⟩ | ⟨b,off,rfl,h0⟩
 all_goals
  go_enter Tryz.func14,Tryz.ntmps14
  go_upto_region 1 with (fail)
  generalize w.alloc (.cells _ 44)=w1 at *
  generalize w.heap.size=g at *
  go_quiet (first
   | (go_at_call 39;refine Calls.quiet_of_same ((of_none _ _ _).mono (fun _ _ ⟨he,hw⟩=>⟨he,hw.symm⟩))))
  go_wp2
  go_ret
  exact ⟨rfl,BW.on HB.out (zg1 _)⟩
end Go.Proofs.YtmamblgpekafbaaGreatDoor
