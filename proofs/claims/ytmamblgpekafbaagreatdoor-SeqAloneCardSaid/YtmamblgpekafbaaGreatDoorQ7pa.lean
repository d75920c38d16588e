/- Of stage 11. -/
import Derived.Test.YtmamblgpekafbaaGreatDoorQ5pa
set_option linter.unusedVariables false
set_option maxRecDepth 100000
set_option maxHeartbeats 8000000
namespace Go.Proofs.YtmamblgpekafbaaGreatDoor
open Go.RowKit
structure Dok (W:World) (h:Hrt) (d:Dn) (i:Ins) (g:Nat) (w:World):Prop where
  j:Doj W h d g w
  ins:Blk (za0 i) 39 (g + 4) w
section
variable {W w w':World} {h:Hrt} {d:Dn} {i:Ins} {g:Nat}
theorem Dok.on (k:Dok W h d i g w) (hb:Below w.heap.size w w'):Dok W h d i g w':=⟨k.j.on hb,k.ins.on hb⟩
theorem Dok.sh (k:Dok W h d i g w) (n:Nat) (v:Value) (h':Hrt) (e:(za2 h).setIfInBounds n v=za2 h'):Dok W h' d i g (w.setCell ⟨g,n,none⟩ v):=⟨k.j.sh n v h' e,k.ins.other (by show g + 4≠g;omega) v⟩
theorem Dok.sd (k:Dok W h d i g w) (n:Nat) (v:Value) (d':Dn) (e:(za3 d).setIfInBounds n v=za3 d'):Dok W h d' i g (w.setCell ⟨g + 1,n,none⟩ v):=⟨k.j.sd n v d' e,k.ins.other (by show g + 4≠g + 1;omega) v⟩
end
theorem zx_UO (x:Int) (op:Int):U64 (zx x (8 * siz op).toNat):=by
  have h1:=zi3 x (8 * siz op).toNat
  have h2:=zD9 x (8 * siz op).toNat
  have h3:=(zg0 op).2
  have h4:(2:Int) ^ (8 * siz op).toNat≤2 ^ 64:=ze7 (by omega)
  exact ⟨h1, by have : (2 : Int) ^ 64 = 18446744073709551616 := by decide
                omega⟩
theorem Zn2 (i:Ins):0≤tgt i∧tgt i≤31:=by
  unfold tgt regV
  split
  · split <;> omega
  · omega
theorem do_yes (h : Hrt) (d : Dn) (read : Int) (failed : Bool) (w : World) (T : Tab11 w) (hw : Wh h) (hc : d.cause = 0) (ho : I64 d.inst.op) (h1 : 0 ≤ d.inst.rs1 ∧ d.inst.rs1 ≤ 31) (h2 : 0 ≤ d.inst.rs2 ∧ d.inst.rs2 ≤ 31) (hr : U64 read) (hp : U64 d.pc) (hd : U64 d.read) :
    Calls Tryz.prog 13 #[.agg (za2 h),.agg (za3 d),.int .u64 read,.bool failed] w (zs5 w (doH h d read failed) (doD h d read failed)):=by
  obtain ⟨pc,⟨op,rd,rs1,rs2,imm,aq,rl,pred,succ⟩,cause,val,addr,rea,wrote,fl⟩:=d
  simp only at hc ho h1 h2 hp hd
  subst hc
  obtain ⟨k1,rfl⟩:∃ k:Nat,rs1=(k:Int):=⟨rs1.toNat,by omega⟩
  obtain ⟨k2,rfl⟩:∃ k:Nat,rs2=(k:Int):=⟨rs2.toNat,by omega⟩
  obtain ⟨kt,hkt⟩:∃ k:Nat,tgt ⟨op,rd,(k1:Int),(k2:Int),imm,aq,rl,pred,succ⟩=(k:Int):=⟨(tgt ⟨op,rd,(k1:Int),(k2:Int),imm,aq,rl,pred,succ⟩).toNat,by have:=Zn2 ⟨op,rd,(k1:Int),(k2:Int),imm,aq,rl,pred,succ⟩;omega⟩
  have hktl:kt≤31:=by have:=Zn2 ⟨op,rd,(k1:Int),(k2:Int),imm,aq,rl,pred,succ⟩;omega
  -- what comes
  have HE1:Hid (doD h ⟨pc,⟨op,rd,(k1:Int),(k2:Int),imm,aq,rl,pred,succ⟩,0,val,addr,rea,wrote,fl⟩ read failed =
      ⟨pc,⟨op,rd,(k1:Int),(k2:Int),imm,aq,rl,pred,succ⟩,0,if (kt:Int)=0 then val else valW h ⟨pc,⟨op,rd,(k1:Int),(k2:Int),imm,aq,rl,pred,succ⟩,0,val,addr,rea,wrote,fl⟩ read failed,addr,redV ⟨pc,⟨op,rd,(k1:Int),(k2:Int),imm,aq,rl,pred,succ⟩,0,val,addr,rea,wrote,fl⟩ read,wroV h ⟨pc,⟨op,rd,(k1:Int),(k2:Int),imm,aq,rl,pred,succ⟩,0,val,addr,rea,wrote,fl⟩ read failed,faiB ⟨pc,⟨op,rd,(k1:Int),(k2:Int),imm,aq,rl,pred,succ⟩,0,val,addr,rea,wrote,fl⟩ failed⟩):=by
    show _=_;unfold doD;rw [if_pos rfl];simp only;rw [hkt]
  have HE2:Hid (doH h ⟨pc,⟨op,rd,(k1:Int),(k2:Int),imm,aq,rl,pred,succ⟩,0,val,addr,rea,wrote,fl⟩ read failed =
      ⟨nxtV op imm h.pc (xAt h k1) (xAt h k2),if (kt:Int)=0 then h.x else h.x.set kt (valW h ⟨pc,⟨op,rd,(k1:Int),(k2:Int),imm,aq,rl,pred,succ⟩,0,val,addr,rea,wrote,fl⟩ read failed),h.cause⟩):=by
    show _=_;unfold doH;rw [if_pos rfl];simp only;rw [hkt];rfl
  have hred:U64 (redV ⟨pc,⟨op,rd,(k1:Int),(k2:Int),imm,aq,rl,pred,succ⟩,0,val,addr,rea,wrote,fl⟩ read):=by
    unfold redV;simp only;split
    · exact zx_UO read op
    · exact hd
  have HRD:Hid (redV ⟨pc,⟨op,rd,(k1:Int),(k2:Int),imm,aq,rl,pred,succ⟩,0,val,addr,rea,wrote,fl⟩ read=if ldsB op=true then zx read (8 * siz op).toNat else rea):=rfl
  have HWR:Hid (wroV h ⟨pc,⟨op,rd,(k1:Int),(k2:Int),imm,aq,rl,pred,succ⟩,0,val,addr,rea,wrote,fl⟩ read failed=if (stsB op && !faiB ⟨pc,⟨op,rd,(k1:Int),(k2:Int),imm,aq,rl,pred,succ⟩,0,val,addr,rea,wrote,fl⟩ failed)=true then stoV op read (xAt h k2) else wrote):=rfl
  have HFA:Hid (faiB ⟨pc,⟨op,rd,(k1:Int),(k2:Int),imm,aq,rl,pred,succ⟩,0,val,addr,rea,wrote,fl⟩ failed=(failed && decide (srt op=11))):=rfl
  -- the callees
  have hx1:=hw.x k1
  have hx2:=hw.x k2
  have KS:=fun x (hx:BW w x)=>zh2 op ho x (T.below hx).t6.lasts
  have KL:=fun x (hx:BW w x)=>lds_c op ho x (T.below hx).t6.lasts
  have KST:=fun x (hx:BW w x)=>sts_c op ho x (T.below hx).t6.lasts
  have KZ:=fun x (hx:BW w x)=>zm5 op ho x (T.below hx).t6.lasts
  have KX:=fun x=>zo7 read (8 * siz op) hr.1 hr.lt x
  rw [(zg0 op).1] at KX
  have hz8:=(zg0 op).2
  have KSD:=fun x (hx:BW w x)=>stored_c op read (xAt h k2) ho hr hx2 x (T.below hx).t6.lasts
  have KT:=fun x (hx:BW w x)=>zQ9 ⟨op,rd,(k1:Int),(k2:Int),imm,aq,rl,pred,succ⟩ ho x (T.below hx).t6.lasts
  rw [hkt] at KT
  have KV:∀ x,BW w x→∀ v:Int,Calls Tryz.prog 37 #[.agg (za3 ⟨pc,⟨op,rd,(k1:Int),(k2:Int),imm,aq,rl,pred,succ⟩,0,v,addr,redV ⟨pc,⟨op,rd,(k1:Int),(k2:Int),imm,aq,rl,pred,succ⟩,0,val,addr,rea,wrote,fl⟩ read,wroV h ⟨pc,⟨op,rd,(k1:Int),(k2:Int),imm,aq,rl,pred,succ⟩,0,val,addr,rea,wrote,fl⟩ read failed,faiB ⟨pc,⟨op,rd,(k1:Int),(k2:Int),imm,aq,rl,pred,succ⟩,0,val,addr,rea,wrote,fl⟩ failed⟩),.int .u64 (xAt h k1),.int .u64 (xAt h k2)] x fun e w'=>e=.returned (.int .u64 (valW h ⟨pc,⟨op,rd,(k1:Int),(k2:Int),imm,aq,rl,pred,succ⟩,0,val,addr,rea,wrote,fl⟩ read failed))∧Below x.heap.size x w' :=
    fun x hx v=>value_c ⟨pc,⟨op,rd,(k1:Int),(k2:Int),imm,aq,rl,pred,succ⟩,0,v,addr,redV ⟨pc,⟨op,rd,(k1:Int),(k2:Int),imm,aq,rl,pred,succ⟩,0,val,addr,rea,wrote,fl⟩ read,wroV h ⟨pc,⟨op,rd,(k1:Int),(k2:Int),imm,aq,rl,pred,succ⟩,0,val,addr,rea,wrote,fl⟩ read failed,faiB ⟨pc,⟨op,rd,(k1:Int),(k2:Int),imm,aq,rl,pred,succ⟩,0,val,addr,rea,wrote,fl⟩ failed⟩ (xAt h k1) (xAt h k2) ho hp hred hx1 hx2 x (T.below hx)
  have KN:=fun x (hx:BW w x)=>next_c ⟨op,rd,(k1:Int),(k2:Int),imm,aq,rl,pred,succ⟩ h.pc (xAt h k1) (xAt h k2) hx1 hx2 x
  -- cells
  have HJ:=Zo2 h ⟨pc,⟨op,rd,(k1:Int),(k2:Int),imm,aq,rl,pred,succ⟩,0,val,addr,rea,wrote,fl⟩ hw.len w
  have HC1:=zl4 hw.len (r:=k1) (by omega)
  have HC2:=zl4 hw.len (r:=k2) (by omega)
  have HC0:=zu3 h
  have HCT:=zl4 hw.len (r:=kt) (by omega)
  have HXL:Hid ((if (kt:Int)=0 then h.x else h.x.set kt (valW h ⟨pc,⟨op,rd,(k1:Int),(k2:Int),imm,aq,rl,pred,succ⟩,0,val,addr,rea,wrote,fl⟩ read failed)).length=32):=by
    show _=_;split <;> simp [hw.len]
  have HST:=Lib.hid (fun v=>zl8 hw.len (r:=kt) (by omega) v)
  have hlen:=Lib.hid hw.len
  generalize hVV:valW h ⟨pc,⟨op,rd,(k1:Int),(k2:Int),imm,aq,rl,pred,succ⟩,0,val,addr,rea,wrote,fl⟩ read failed=V at *
  generalize hRR:redV ⟨pc,⟨op,rd,(k1:Int),(k2:Int),imm,aq,rl,pred,succ⟩,0,val,addr,rea,wrote,fl⟩ read=rv at *
  generalize hWW:wroV h ⟨pc,⟨op,rd,(k1:Int),(k2:Int),imm,aq,rl,pred,succ⟩,0,val,addr,rea,wrote,fl⟩ read failed=wv at *
  generalize hFF:faiB ⟨pc,⟨op,rd,(k1:Int),(k2:Int),imm,aq,rl,pred,succ⟩,0,val,addr,rea,wrote,fl⟩ failed=fb at *
  generalize doD h ⟨pc,⟨op,rd,(k1:Int),(k2:Int),imm,aq,rl,pred,succ⟩,0,val,addr,rea,wrote,fl⟩ read failed=dE at *
  generalize doH h ⟨pc,⟨op,rd,(k1:Int),(k2:Int),imm,aq,rl,pred,succ⟩,0,val,addr,rea,wrote,fl⟩ read failed=hE at *
  clear hVV hRR hWW hFF hkt hred hx1 hx2 hd hp hr ho T
  generalize hxx1:xAt h (k1:Int)=x1 at *
  generalize hxx2:xAt h (k2:Int)=x2 at *
  rw [show h.x.getD k1 0=x1 from hxx1] at HC1
  rw [show h.x.getD k2 0=x2 from hxx2] at HC2
  clear hxx1 hxx2
  generalize zx read (8 * siz op).toNat=zv at *
  generalize siz op=zs at *
  generalize stoV op read x2=sv at *
  generalize nxtV op imm h.pc x1 x2=nx at *
  generalize h.x.getD kt 0=xt at *
  generalize hvv:(if (kt:Int)=0 then val else V)=vv at *
  generalize hxs:(if (kt:Int)=0 then h.x else h.x.set kt V)=xs at *
  have HVV:=Lib.hid hvv
  have HXS:=Lib.hid hxs
  clear hvv hxs
  have k1I:(k1:Int)<32:=by omega
  have k2I:(k2:Int)<32:=by omega
  have ktI:(kt:Int)<32:=by omega
  have e8:wrap64 (8 * zs)=8 * zs:=by rw [ze2,IntKind.wrap_i64];omega
  obtain ⟨z0,z8⟩:=hz8
  clear h1 h2 hktl
  have HJ0:Hid (Doj w h ⟨pc,⟨op,rd,(k1:Int),(k2:Int),imm,aq,rl,pred,succ⟩,0,val,addr,rea,wrote,fl⟩ w.heap.size ((((w.alloc (.cells (za2 h) 25)).alloc (.cells #[.int .u64 pc,.int .i64 op,.int .i64 rd,.int .i64 (k1:Int),.int .i64 (k2:Int),.int .i64 imm,.bool aq,.bool rl,.int .i64 pred,.int .i64 succ,.int .i64 0,.int .u64 val,.int .u64 addr,.int .u64 rea,.int .u64 wrote,.bool fl] 41)).alloc (.cells #[.int .u64 0,.int .u64 0,.int .u64 0,.int .u64 0,.int .u64 0,.int .u64 0,.int .u64 0,.int .u64 0,.int .u64 0,.int .u64 0,.int .u64 0,.int .u64 0,.int .u64 0,.int .u64 0,.int .u64 0,.int .u64 0,.int .u64 0,.int .u64 0,.int .u64 0,.int .u64 0,.int .u64 0,.int .u64 0,.int .u64 0,.int .u64 0,.int .u64 0,.int .u64 0,.int .u64 0,.int .u64 0,.int .u64 0,.int .u64 0,.int .u64 0,.int .u64 0,.int .u64 0,.int .i64 0] 25)).alloc (.cells #[.int .u64 0,.int .i64 0,.int .i64 0,.int .i64 0,.int .i64 0,.int .i64 0,.bool false,.bool false,.int .i64 0,.int .i64 0,.int .i64 0,.int .u64 0,.int .u64 0,.int .u64 0,.int .u64 0,.bool false] 41))):=HJ
  clear HJ hw
  unfold za3
  simp only
  go_enter Tryz.func13,Tryz.ntmps13
  go_upto_region 1 with (fail)
  have hsz:((((w.alloc (.cells (za2 h) 25)).alloc (.cells #[.int .u64 pc,.int .i64 op,.int .i64 rd,.int .i64 (k1:Int),.int .i64 (k2:Int),.int .i64 imm,.bool aq,.bool rl,.int .i64 pred,.int .i64 succ,.int .i64 0,.int .u64 val,.int .u64 addr,.int .u64 rea,.int .u64 wrote,.bool fl] 41)).alloc (.cells #[.int .u64 0,.int .u64 0,.int .u64 0,.int .u64 0,.int .u64 0,.int .u64 0,.int .u64 0,.int .u64 0,.int .u64 0,.int .u64 0,.int .u64 0,.int .u64 0,.int .u64 0,.int .u64 0,.int .u64 0,.int .u64 0,.int .u64 0,.int .u64 0,.int .u64 0,.int .u64 0,.int .u64 0,.int .u64 0,.int .u64 0,.int .u64 0,.int .u64 0,.int .u64 0,.int .u64 0,.int .u64 0,.int .u64 0,.int .u64 0,.int .u64 0,.int .u64 0,.int .u64 0,.int .i64 0] 25)).alloc (.cells #[.int .u64 0,.int .i64 0,.int .i64 0,.int .i64 0,.int .i64 0,.int .i64 0,.bool false,.bool false,.int .i64 0,.int .i64 0,.int .i64 0,.int .u64 0,.int .u64 0,.int .u64 0,.int .u64 0,.bool false] 41)).heap.size=w.heap.size + 4:=by simp
  generalize ((((w.alloc _).alloc _).alloc _).alloc _)=w0 at *
  rw [show w.heap.size + 1 + 1 + 1=w.heap.size + 3 from rfl,show w.heap.size + 1 + 1=w.heap.size + 2 from rfl]
  obtain ⟨g,hg⟩:∃ g,w.heap.size=g:=⟨_,rfl⟩
  rw [hg] at HJ0 hsz ⊢
  clear hg
  have q0:=HJ0.out.dn.cell 1
  have q1:w0.cell? ⟨g + 1,1,none⟩=some (.int .i64 op):=HJ0.out.dn.cell 1
  have q2:w0.cell? ⟨g + 1,2,none⟩=some (.int .i64 rd):=HJ0.out.dn.cell 2
  have q3:w0.cell? ⟨g + 1,3,none⟩=some (.int .i64 (k1:Int)):=HJ0.out.dn.cell 3
  have q4:w0.cell? ⟨g + 1,4,none⟩=some (.int .i64 (k2:Int)):=HJ0.out.dn.cell 4
  have q5:w0.cell? ⟨g + 1,5,none⟩=some (.int .i64 imm):=HJ0.out.dn.cell 5
  have q6:w0.cell? ⟨g + 1,6,none⟩=some (.bool aq):=HJ0.out.dn.cell 6
  have q7:w0.cell? ⟨g + 1,7,none⟩=some (.bool rl):=HJ0.out.dn.cell 7
  have q8:w0.cell? ⟨g + 1,8,none⟩=some (.int .i64 pred):=HJ0.out.dn.cell 8
  have q9:w0.cell? ⟨g + 1,9,none⟩=some (.int .i64 succ):=HJ0.out.dn.cell 9
  have q10:w0.cell? ⟨g + 1,10,none⟩=some (.int .i64 0):=HJ0.out.dn.cell 10
  clear q0
  go_upto_region 5 with (fail)
  have HK0:Dok w h ⟨pc,⟨op,rd,(k1:Int),(k2:Int),imm,aq,rl,pred,succ⟩,0,val,addr,rea,wrote,fl⟩ ⟨op,rd,(k1:Int),(k2:Int),imm,aq,rl,pred,succ⟩ g (w0.alloc (.cells (za0 ⟨op,rd,(k1:Int),(k2:Int),imm,aq,rl,pred,succ⟩) 39)):=⟨HJ0.out.on (BW.new (Below.refl w0.heap.size w0) _),by rw [← hsz];exact Blk.new _ _ _⟩
  clear hsz q1 q2 q3 q4 q5 q6 q7 q8 q9 q10 HJ0
  unfold za0 at HK0
  simp only at HK0
  generalize w0.alloc (.cells _ 39)=w1 at *
  have q2:w1.cell? ⟨g + 4,2,none⟩=some (.int .i64 (k1:Int)):=HK0.ins.cell 2
  have q3:w1.cell? ⟨g + 4,3,none⟩=some (.int .i64 (k2:Int)):=HK0.ins.cell 3
  have h1:=(HK0.j.hart.cell (1 + k1)).trans HC1
  have h2:=(HK0.j.hart.cell (1 + k2)).trans HC2
  go_quiet (fail)
  go_upto_region 6 with (fail)
  have HK1:Dok w h ⟨pc,⟨op,rd,(k1:Int),(k2:Int),imm,aq,rl,pred,succ⟩,0,val,addr,rea,wrote,fl⟩ ⟨op,rd,(k1:Int),(k2:Int),imm,aq,rl,pred,succ⟩ g (w1.drewN _):=HK0.on (zg1 nq)
  clear HK0 q2 q3 h1 h2 HC1 HC2
  generalize w1.drewN nq=w2 at *
  -- failed
  go_cut [34] (fun s34 wx=>Dok w h ⟨pc,⟨op,rd,(k1:Int),(k2:Int),imm,aq,rl,pred,succ⟩,0,val,addr,rea,wrote,fb⟩ ⟨op,rd,(k1:Int),(k2:Int),imm,aq,rl,pred,succ⟩ g wx)
  case first =>
    have c15:w2.cell? ⟨g + 1,15,none⟩=some (.bool fl):=HK1.j.dn.cell 15
    have f15:=HK1.j.dn.free 15
    have i0:w2.cell? ⟨g + 4,0,none⟩=some (.int .i64 op):=HK1.ins.cell 0
    clear KL KST KZ KX KSD KT KV KN HST HRD HWR HE1 HE2 HC0
    cases failed
    · have HF2:Hid (fb=false):=HFA.out
      clear HFA KS i0
      go_wp2
      go_meet
      case rel =>
        have:=HK1.sd 15 (.bool false) ⟨pc,⟨op,rd,(k1:Int),(k2:Int),imm,aq,rl,pred,succ⟩,0,val,addr,rea,wrote,false⟩ rfl
        rw [HF2.out];exact this
    · have HF2:Hid (fb=decide (srt op=11)):=HFA.out
      clear HFA
      have eS:(srt op == 11)=decide (srt op=11):=rfl
      generalize srt op=so at *
      go_wp2_with (go_at_call 15;refine (KS _ HK1.j.bw).mono ?_;rintro e w3 ⟨rfl,rfl⟩)
      go_meet
      case rel =>
        have:=HK1.sd 15 (.bool (decide (so=11))) ⟨pc,⟨op,rd,(k1:Int),(k2:Int),imm,aq,rl,pred,succ⟩,0,val,addr,rea,wrote,decide (so=11)⟩ rfl
        rw [HF2.out];exact this
  case rest =>
    clear HK1 KS HFA
    have HK2:=hcut
    clear hcut w2 w1 w0 nq
    -- read
    have i0:wc.cell? ⟨g + 4,0,none⟩=some (.int .i64 op):=HK2.ins.cell 0
    go_upto_if 44 with (first
      | (go_at_call 32;refine (KL _ HK2.j.bw).mono ?_;rintro e w3 ⟨rfl,rfl⟩))
    generalize hl:ldsB op=lb at *
    go_cut [34] (fun s34 wx=>Dok w h ⟨pc,⟨op,rd,(k1:Int),(k2:Int),imm,aq,rl,pred,succ⟩,0,val,addr,rv,wrote,fb⟩ ⟨op,rd,(k1:Int),(k2:Int),imm,aq,rl,pred,succ⟩ g wx)
    case first =>
      have c13:wc.cell? ⟨g + 1,13,none⟩=some (.int .u64 rea):=HK2.j.dn.cell 13
      have f13:=HK2.j.dn.free 13
      clear KST KSD KT KV KN HST HWR HE1 HE2 HC0 KL hl
      cases lb
      · have HR2:Hid (rv=rea):=HRD.out
        clear HRD i0 KZ KX c13 f13
        go_wp2
        go_meet
        case rel=>rw [HR2.out];exact HK2
      · have HR2:Hid (rv=zv):=HRD.out
        clear HRD
        go_wp2_with (first
          | (go_at_call 31;refine (KZ _ HK2.j.bw).mono ?_;rintro e w3 ⟨rfl,rfl⟩)
          | (go_at_call 33;refine (KX _).mono ?_;rintro e w3 ⟨rfl,rfl⟩))
        go_meet
        case rel =>
          have:=HK2.sd 13 (.int .u64 zv) ⟨pc,⟨op,rd,(k1:Int),(k2:Int),imm,aq,rl,pred,succ⟩,0,val,addr,zv,wrote,fb⟩ rfl
          rw [HR2.out];exact this
    case rest =>
      clear HK2 KL HRD i0 KZ KX hl e8 z0 z8
      have HK3:=hcut
      clear hcut
      -- written
      go_upto_region 9 with (fail)
      generalize hs:stsB op=sb at *
      go_cut [59] (fun s59 wx=>s59=.bool (sb && !fb)∧Dok w h ⟨pc,⟨op,rd,(k1:Int),(k2:Int),imm,aq,rl,pred,succ⟩,0,val,addr,rv,wrote,fb⟩ ⟨op,rd,(k1:Int),(k2:Int),imm,aq,rl,pred,succ⟩ g wx)
      case first =>
        have i0:wc.cell? ⟨g + 4,0,none⟩=some (.int .i64 op):=HK3.ins.cell 0
        have c15:wc.cell? ⟨g + 1,15,none⟩=some (.bool fb):=HK3.j.dn.cell 15
        clear KSD KT KV KN HST HWR HE1 HE2 HC0 HCT hs
        cases sb
        all_goals
          go_wp2_with (go_at_call 34;refine (KST _ HK3.j.bw).mono ?_;rintro e w3 ⟨rfl,rfl⟩)
          go_meet
          case rel=>exact ⟨rfl,HK3⟩
      case rest =>
        obtain ⟨rfl,HK4⟩:=hcut
        clear HK3 KST hs
        generalize htb:(sb && !fb)=tb at *
        clear htb
        go_upto_if 59 with (fail)
        go_cut [34] (fun s34 wx=>Dok w h ⟨pc,⟨op,rd,(k1:Int),(k2:Int),imm,aq,rl,pred,succ⟩,0,val,addr,rv,wv,fb⟩ ⟨op,rd,(k1:Int),(k2:Int),imm,aq,rl,pred,succ⟩ g wx)
        case first =>
          have i0:wc.cell? ⟨g + 4,0,none⟩=some (.int .i64 op):=HK4.ins.cell 0
          have c14:wc.cell? ⟨g + 1,14,none⟩=some (.int .u64 wrote):=HK4.j.dn.cell 14
          have f14:=HK4.j.dn.free 14
          clear KT KV KN HST HE1 HE2 HC0 HCT
          cases tb
          · have HR2:Hid (wv=wrote):=HWR.out
            clear HWR i0 KSD c14 f14
            go_wp2
            go_meet
            case rel=>rw [HR2.out];exact HK4
          · have HR2:Hid (wv=sv):=HWR.out
            clear HWR
            go_wp2_with (first
              | (go_at_call 35;refine (KSD _ HK4.j.bw).mono ?_;rintro e w3 ⟨rfl,rfl⟩))
            go_meet
            case rel =>
              have:=HK4.sd 14 (.int .u64 sv) ⟨pc,⟨op,rd,(k1:Int),(k2:Int),imm,aq,rl,pred,succ⟩,0,val,addr,rv,sv,fb⟩ rfl
              rw [HR2.out];exact this
        case rest =>
          clear HK4 KSD HWR
          have HK5:=hcut
          clear hcut
          -- the register
          unfold insV at KT KN
          simp only at KT KN
          have HI5:=HK5.ins
          go_upto_if 69 with (first
            | (with_reducible refine za8 (o:=⟨some 66,_,_,_,_,_⟩) rfl 39 (.tmp 10) rfl HI5 rfl Tryz.underlying39 rfl (by kernel_rfl) ?_)
            | (go_at_call 36;refine (KT _ HK5.j.bw).mono ?_;rintro e w3 ⟨rfl,hb⟩;have HK6:=HK5.on hb;clear hb))
          clear HK5 HI5 KT
          go_cut [34] (fun s34 wx=>Dok w ⟨h.pc,xs,h.cause⟩ ⟨pc,⟨op,rd,(k1:Int),(k2:Int),imm,aq,rl,pred,succ⟩,0,vv,addr,rv,wv,fb⟩ ⟨op,rd,(k1:Int),(k2:Int),imm,aq,rl,pred,succ⟩ g wx)
          case first =>
            clear KN HE1 HE2 HC0
            by_cases hk0:kt=0
            · have b0:((kt:Int) != 0)=false:=by simp [hk0]
              have e1:Hid (vv=val):=by show _=_;rw [← HVV.out,if_pos (by omega)]
              have e2:Hid (xs=h.x):=by show _=_;rw [← HXS.out,if_pos (by omega)]
              clear HVV HXS hk0 KV HST HCT
              go_wp2
              go_meet
              case rel=>rw [e1.out,e2.out];exact HK6
            · have b0:((kt:Int) != 0)=true:=by simp;omega
              have e1:Hid (vv=V):=by show _=_;rw [← HVV.out,if_neg (by omega)]
              have e2:Hid (xs=h.x.set kt V):=by show _=_;rw [← HXS.out,if_neg (by omega)]
              clear HVV HXS hk0
              have HD6:=HK6.j.dn
              go_wp2_with (first
                | (with_reducible refine za8 (o:=⟨some 70,_,_,_,_,_⟩) rfl 41 (.tmp 5) rfl HD6 rfl Tryz.underlying41 rfl (by kernel_rfl) ?_)
                | (go_at_call 37;refine (KV _ HK6.j.bw val).mono ?_;rintro e w4 ⟨rfl,hb⟩;have HK7:=HK6.on hb;clear hb;have c11:w4.cell? ⟨g + 1,11,none⟩=some (.int .u64 val):=HK7.j.dn.cell 11;have f11:=HK7.j.dn.free 11;have ct:=(HK7.j.hart.cell (1 + kt)).trans HCT;have ft:=HK7.j.hart.free (1 + kt)))
              go_meet
              case rel =>
                have:=(HK7.sd 11 (.int .u64 V) ⟨pc,⟨op,rd,(k1:Int),(k2:Int),imm,aq,rl,pred,succ⟩,0,V,addr,rv,wv,fb⟩ rfl).sh (1 + kt) _ _ (HST.out V)
                rw [e1.out,e2.out];exact this
          case rest =>
            clear HK6 KV HST HCT HC0 HVV HXS ktI k1I k2I
            have HK7:=hcut
            clear hcut
            have HI7:=HK7.ins
            have c0:wc.cell? ⟨g,0,none⟩=some (.int .u64 h.pc):=HK7.j.hart.cell 0
            go_upto_region 16 with (first
              | (with_reducible refine za8 (o:=⟨some 80,_,_,_,_,_⟩) rfl 39 (.tmp 10) rfl HI7 rfl Tryz.underlying39 rfl (by kernel_rfl) ?_)
              | (go_at_call 38;refine (KN _ HK7.j.bw).mono ?_;rintro e w4 ⟨rfl,hb⟩;have HK8:=HK7.on hb;clear hb;have d0:w4.cell? ⟨g,0,none⟩=some (.int .u64 h.pc):=HK8.j.hart.cell 0;have f0:=HK8.j.hart.free 0))
            have HJ1:=HK8.j.sh 0 (.int .u64 nx) ⟨nx,xs,h.cause⟩ (zt7 ⟨h.pc,xs,h.cause⟩ nx)
            have HI:Hid ((Tryz.prog.info? 25).map (·.size)=some (za2 ⟨nx,xs,h.cause⟩).size):=zb3 HXL.out
            have HS:Hid ((za2 ⟨nx,xs,h.cause⟩).size=34):=zb6 HXL.out
            have HO:=Lib.hid (zg5 ⟨nx,xs,h.cause⟩)
            clear HK7 HK8 c0 d0 f0 HI7 KN
            have HJ2:=HJ1.drew
            clear HJ1
            refine wp_region_held (S:=fun x=>Doj w ⟨nx,xs,h.cause⟩ ⟨pc,⟨op,rd,(k1:Int),(k2:Int),imm,aq,rl,pred,succ⟩,0,vv,addr,rv,wv,fb⟩ g x) (by kernel_rfl) ?_
            change wpAnyH _ _ _ _ _ _ _ _ (World.drew _)
            generalize World.drew _=w5 at *
            refine zc8 (i:=0) (oi:=⟨some 87,.load 25 (.tmp 4),_,_,_,_⟩) rfl (by kernel_rfl) (by kernel_rfl) (by kernel_rfl) (fun _ _ _ h=>h) rfl 25 (.tmp 4) rfl rfl (fun x hx=>hx.hart) Tryz.underlying25 rfl HI.out HJ2 ?_
            simp only [Act.put,List.setIfInBounds_toArray,List.set_cons_zero,List.set_cons_succ]
            refine zc8 (i:=1) (oi:=⟨some 88,.load 41 (.tmp 5),_,_,_,_⟩) rfl (by kernel_rfl) (by kernel_rfl) (by kernel_rfl) (fun _ _ _ h=>h) rfl 41 (.tmp 5) rfl rfl (fun x hx=>hx.dn) Tryz.underlying41 rfl (by kernel_rfl) HJ2 ?_
            simp only [Act.put,List.setIfInBounds_toArray,List.set_cons_zero,List.set_cons_succ]
            refine zo1 (i:=2) (by kernel_rfl) rfl rfl rfl 25 (.tmp 8) (.tmp 87) rfl rfl rfl HI.out HS.out HO.out HJ2 (fun x hx=>hx.r1) (fun u u' hu hg hh=>hu.put2 hg hh) ?_
            intro w6 HJ3 hb1 hk1
            refine zo1 (i:=3) (by kernel_rfl) rfl rfl rfl 41 (.tmp 9) (.tmp 88) rfl rfl rfl (by kernel_rfl) rfl (zj0 _) HJ3 (fun x hx=>hx.r2) (fun u u' hu hg hh=>hu.put3 hg hh) ?_
            intro w7 HJ4 hb2 hk2
            refine wpAnyH_done (by kernel_rfl) ?_ _
            have hb1:=hb1.far hk2 (by omega)
            clear HJ2 HJ3 hk1 hk2
            go_wp2
            refine bodyPost_ret (zd6 rfl rfl rfl hb1 hb2 Tryz.underlying25 rfl HI.out Tryz.underlying41 rfl (by kernel_rfl)) rfl ?_
            exact ⟨by rw [HE1.out,HE2.out],HJ4.bw⟩
theorem do_c (h:Hrt) (d:Dn) (read:Int) (failed:Bool) (w:World) (T:Tab11 w) (hw:Wh h) (ho:I64 d.inst.op) (h1:0≤d.inst.rs1∧d.inst.rs1≤31) (h2:0≤d.inst.rs2∧d.inst.rs2≤31) (hr:U64 read) (hp:U64 d.pc) (hd:U64 d.read) :
    Calls Tryz.prog 13 #[.agg (za2 h),.agg (za3 d),.int .u64 read,.bool failed] w (zs5 w (doH h d read failed) (doD h d read failed)):=by
  by_cases hc:d.cause=0
  · exact do_yes h d read failed w T hw hc ho h1 h2 hr hp hd
  · exact do_no h d read failed w hw hc
end Go.Proofs.YtmamblgpekafbaaGreatDoor
