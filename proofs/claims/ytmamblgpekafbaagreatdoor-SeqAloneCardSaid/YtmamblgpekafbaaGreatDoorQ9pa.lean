/- Of stage 11. -/
import Derived.Test.YtmamblgpekafbaaGreatDoorQapa
set_option linter.unusedVariables false
set_option maxRecDepth 100000
set_option maxHeartbeats 4000000
namespace Go.Proofs.YtmamblgpekafbaaGreatDoor
open Go.RowKit
theorem Zh2 (h:Hrt) (A:Option Addr) (cap:Nat) (B:List Int) (most:Int) (w:World) (T:Tab11 w) (hi:ImgAt w A cap B) (hw:Wh h) (hm:most≤100000) :
  Calls Tryz.prog 5 #[.agg (za2 h),.slice A B.length cap,.int .i64 most] w (RetAl w (aloK B h most.toNat)):=by
 obtain ⟨i0,gi,gz0,gz1,gz2⟩:=info_parts Tryz.info5
 obtain ⟨j0,ji,jz0,jz1,jz2⟩:=info_parts Zg4
 have KI:=fun x=>zC4 A B.length cap hi.2.2.1 hi.2.2.2.1 hi.2.2.2.2 x
 have HC1:=zl4 hw.len (r:=0) (by omega)
 have HZ:Hid ((za2 h).setIfInBounds 1 (.int .u64 0)=za2 (zerX h)):=zl8 hw.len (r:=0) (by omega) 0
 have H1:=Blk.new (za2 h) 25 w
 have z1:(w.alloc (.cells (za2 h) 25)).heap.size=w.heap.size + 1:=by simp
 have b1:BW w (w.alloc (.cells (za2 h) 25)):=BW.new (Below.refl _ _) _
 have HA:Hid (Blk (za2 h) 25 w.heap.size ((w.alloc (.cells (za2 h) 25)).alloc (.cells #[.int .u64 0,.int .u64 0,.int .u64 0,.int .u64 0,.int .u64 0,.int .u64 0,.int .u64 0,.int .u64 0,.int .u64 0,.int .u64 0,.int .u64 0,.int .u64 0,.int .u64 0,.int .u64 0,.int .u64 0,.int .u64 0,.int .u64 0,.int .u64 0,.int .u64 0,.int .u64 0,.int .u64 0,.int .u64 0,.int .u64 0,.int .u64 0,.int .u64 0,.int .u64 0,.int .u64 0,.int .u64 0,.int .u64 0,.int .u64 0,.int .u64 0,.int .u64 0,.int .u64 0,.int .i64 0] 25))):=H1.alloc _
 have HB:Hid (Has 34 25 (w.heap.size + 1) ((w.alloc (.cells (za2 h) 25)).alloc (.cells #[.int .u64 0,.int .u64 0,.int .u64 0,.int .u64 0,.int .u64 0,.int .u64 0,.int .u64 0,.int .u64 0,.int .u64 0,.int .u64 0,.int .u64 0,.int .u64 0,.int .u64 0,.int .u64 0,.int .u64 0,.int .u64 0,.int .u64 0,.int .u64 0,.int .u64 0,.int .u64 0,.int .u64 0,.int .u64 0,.int .u64 0,.int .u64 0,.int .u64 0,.int .u64 0,.int .u64 0,.int .u64 0,.int .u64 0,.int .u64 0,.int .u64 0,.int .u64 0,.int .u64 0,.int .i64 0] 25))):=by
  have:=Has.of (Blk.new (za2 ⟨0,List.replicate 32 0,0⟩) 25 (w.alloc (.cells (za2 h) 25))) (n:=34) (zb6 (by simp))
  rw [z1] at this
  exact this
 have HW:Hid (BW w ((w.alloc (.cells (za2 h) 25)).alloc (.cells #[.int .u64 0,.int .u64 0,.int .u64 0,.int .u64 0,.int .u64 0,.int .u64 0,.int .u64 0,.int .u64 0,.int .u64 0,.int .u64 0,.int .u64 0,.int .u64 0,.int .u64 0,.int .u64 0,.int .u64 0,.int .u64 0,.int .u64 0,.int .u64 0,.int .u64 0,.int .u64 0,.int .u64 0,.int .u64 0,.int .u64 0,.int .u64 0,.int .u64 0,.int .u64 0,.int .u64 0,.int .u64 0,.int .u64 0,.int .u64 0,.int .u64 0,.int .u64 0,.int .u64 0,.int .i64 0] 25))):=b1.new _
 have HSZ:Hid (((w.alloc (.cells (za2 h) 25)).alloc (.cells #[.int .u64 0,.int .u64 0,.int .u64 0,.int .u64 0,.int .u64 0,.int .u64 0,.int .u64 0,.int .u64 0,.int .u64 0,.int .u64 0,.int .u64 0,.int .u64 0,.int .u64 0,.int .u64 0,.int .u64 0,.int .u64 0,.int .u64 0,.int .u64 0,.int .u64 0,.int .u64 0,.int .u64 0,.int .u64 0,.int .u64 0,.int .u64 0,.int .u64 0,.int .u64 0,.int .u64 0,.int .u64 0,.int .u64 0,.int .u64 0,.int .u64 0,.int .u64 0,.int .u64 0,.int .i64 0] 25)).heap.size=w.heap.size + 2):=by show _=_;simp
 have HN:Hid (B.length≤1024∧B.length≤cap):=⟨hi.2.2.1,hi.2.2.2.1⟩
 clear H1 z1 b1
 go_enter Tryz.func5,Tryz.ntmps5
 go_upto_region 1 with (fail)
 generalize ((w.alloc _).alloc _)=w0 at *
 obtain ⟨g,hg⟩:∃ g,w.heap.size=g:=⟨_,rfl⟩
 rw [hg] at HA HB HSZ ⊢
 have HG:=Lib.hid hg
 clear hg
 have q1:=(HA.out.cell (1 + 0)).trans HC1
 have f1:=HA.out.free 1
 rw [show 1 + 0=1 from rfl] at q1
 go_step3
 go_upto_region 2 with (fail)
 have HA2:Hid (Blk (za2 (zerX h)) 25 g (w0.setCell ⟨g,1,none⟩ (.int .u64 0))):=by
  have:=HA.out.set 1 (.int .u64 0)
  rw [HZ.out] at this
  exact this
 have HB2:=Lib.hid (HB.out.other (a:=⟨g,1,none⟩) (by show g + 1≠g;omega) (.int .u64 0))
 have HW2:Hid (BW w (w0.setCell ⟨g,1,none⟩ (.int .u64 0))):=Below.setCell HW.out (by have:=HG.out;show _≤g;omega) _
 have HS2:Hid ((w0.setCell ⟨g,1,none⟩ (.int .u64 0)).heap.size=g + 2):=by show _=_;rw [← HSZ.out];simp
 clear q1 f1 HA HB HW HSZ HZ HC1
 generalize w0.setCell _ _=w1 at *
 obtain ⟨n,hn⟩:∃ n,B.length=n:=⟨_,rfl⟩
 have HNE:=Lib.hid hn
 rw [hn] at KI ⊢
 clear hn
 go_upto_region 3 with (first
  | (go_at_call 10;refine (KI _).mono ?_;rintro e w2 ⟨rfl,rfl⟩))
 clear KI
 go_upto_region 4 with (first
  | (at_make;refine wpList_make_full _ rfl _ _ 26 rfl w.heap.size 5 i0 (.int .u8 0) 1 Tryz.underlying26 gi gz0 gz1 .i64 .i64 _ _ n rfl rfl rfl rfl ?_ ?_ ?_ ?_))
 ·rw [gz2];have:=HN.out.1;have:=HNE.out;omega
 ·unfold maxLen;have:=HN.out.1;have:=HNE.out;omega
 ·have:=HG.out;have:=HS2.out;omega
 intro w2 hown hgrow
 have hk2:Below (g + 2) w1 w2:=Below.grown (Below.refl _ _) hgrow (by have:=HS2.out;omega) (fun _ h=>by cases h)
 have hA3:=HA2.out.within hk2 (by omega)
 have hB3:Has 34 25 (g + 1) w2:=by
  obtain ⟨cs,e1,e2⟩:=HB2.out
  exact ⟨cs,e1,e2.within hk2 (by omega)⟩
 rw [HS2.out] at hown ⊢
 have hrow:=own_row1 hown rfl
 rw [zi5 n] at hrow
 have hW3:BW w w2:=Below.trans HW2.out (hk2.mono (by have:=HW2.out.size;have:=HS2.out;omega))
 have HI3:=Lib.hid (hi.on hW3)
 clear hown hgrow hk2 HA2 HB2 HW2 HS2
 have HIS:(Tryz.prog.info? 5).map (·.size)=some 1:=by kernel_rfl
 have HN1:Hid ((za4 B).length=Nat.min n n):=by
  show _=_
  rw [show Nat.min n n=n from Nat.min_self n,← HNE.out];simp [za4]
 have HF1:Hid (0 + (za4 B).length≤(zf7 n).length):=by
  show _≤_
  rw [HN1.out,show Nat.min n n=n from Nat.min_self n];simp [zf7]
 have HS3:Hid (g + 2<w2.heap.size):=hrow.lt
 have hrw:w2.heap[g + 2]?=some (.cells (zf7 n).toArray 5 (0,0)):=hrow
 have hbr:Below (g + 2) w2 w2:=Below.refl _ _
 go_upto_region 5 with (first
  | (with_reducible refine wpList_copy_splice (o:=⟨some 23,_,_,_,_,_⟩) rfl (.tmp 21) (.tmp 22) 26 26 rfl 5 Tryz.underlying26 HIS _ _ _ _ _ _ rfl rfl (g + 2) 0 (zf7 n) 5 hrw (za4 B) HN1.out (fun hp=>⟨rfl,zO6 HI3.out hp⟩) HF1.out (zl1 B) (g + 2) w2 hbr (Nat.le_refl _) ?_;intro w3 HG3 hk3))
 have hM4:Blk (za4 B).toArray 5 (g + 2) w3:=by
  have:=HG3.out
  rw [Za4 (by rw [HN1.out];exact Nat.min_self n)] at this
  exact this
 have hA4:=hA3.within hk3 (by omega)
 have hB4:Has 34 25 (g + 1) w3:=by
  obtain ⟨cs,e1,e2⟩:=hB3
  exact ⟨cs,e1,e2.within hk3 (by omega)⟩
 have hW4:BW w w3:=Below.trans hW3 (hk3.mono (by have:=HG.out;omega))
 have hS4:g + 2<w3.heap.size:=hM4.lt
 have HAL:Aln w (aloK B h 0) g w3.heap.size (.slice none 0 0) (w3.alloc (.cells (zb5 0 0) 44)) :=
  ⟨HG.out,hS4,hW4.new _,hA4.alloc _,hB4.on (BW.new (Below.refl w3.heap.size w3) _),hM4.alloc _,Blk.new _ _ _,World.ownsRow_nil _ _ _ _⟩
 clear hA3 hB3 hrow hrw hbr hW3 HI3 HN1 HF1 HS3 HG3 hk3 hM4 hA4 hB4 hW4 hS4
 unfold zb5 at HAL
 go_wp2
 obtain ⟨gp,hgp⟩:∃ k,w3.heap.size=k:=⟨_,rfl⟩
 rw [hgp] at HAL ⊢
 clear hgp
 generalize w3.alloc (.cells _ 44)=w4 at *
 have HOK:Hid (zw4 (aloK B h 0) n):=⟨zR9 hw,HNE.out,hi.2.1⟩
 have hmN:most.toNat≤100000:=by omega
 go_step3
 go_wp2
 go_loopg [10] most.toNat (fun gg v10 wr=>∃ k:Nat,k + gg=most.toNat∧Hid ((aloK B h k).done.length=k)∧Hid (zw4 (aloK B h k) n)∧Hid (Aln w (aloK B h k) g gp v10 wr))
 case atStart=>exact ⟨0,by omega,(show Hid _ from rfl),HOK,HAL⟩
 case round =>
  clear HAL HOK
  obtain ⟨k,hk,HDL,HOK,HAL⟩:=hrel
  obtain ⟨w5,rfl⟩:∃ w5:World,w5=wr:=⟨_,rfl⟩
  have HK:=Lib.hid hk
  clear hk
  obtain ⟨A10,c10,rfl⟩:∃ A c,u10=.slice A k c:=by
   have:=zv8 HAL.out.list
   rw [HDL.out] at this
   exact this
  have hm1:¬ (100000:Int)<most:=by omega
  have q33:=(HAL.out.hart.cell 33).trans (zg3 HOK.out.h.len)
  by_cases hgo:(aloK B h k).h.cause=0∧(k:Int)<most
  ·obtain ⟨hc0,hkm⟩:=hgo
   have HNX:=Lib.hid (zv6 hc0)
   have hb0:((aloK B h k).h.cause == 0)=true:=by simpa using hc0
   have hsw:=HOK.out.h
   have hok:=zU5 (B:=B) hsw hi.2.1
   have hre:=zB8 (B:=B) hsw
   rw [HNE.out] at hre
   have hn1:n≤1024:=by have:=HN.out.1;have:=HNE.out;omega
   have KB:=fun x (hx:BW w x)=>begun_c (aloK B h k).h A cap B x (T.below hx) (hi.on hx) hsw
   have KR:=fun x (hx:BW w x)=>reach_c (begD (aloK B h k).h B) hok.1 x (T.below hx).t6.lasts
   have KN:=fun (x:World) (hM:Blk (za4 (aloK B h k).mem).toArray 5 (g + 2) x)=>Zn5 hM HOK.out.len hn1 HOK.out.byts hre
   have hnu:=num_U HOK.out.byts (reaA (begD (aloK B h k).h B)) (reaS (begD (aloK B h k).h B))
   have KD:=fun x (hx:BW w x)=>do_c (aloK B h k).h (begD (aloK B h k).h B) (numM (aloK B h k).mem (reaA (begD (aloK B h k).h B)) (reaS (begD (aloK B h k).h B))) (!(decide (reaA (begD (aloK B h k).h B)=(aloK B h k).ra) && decide (reaS (begD (aloK B h k).h B)=(aloK B h k).rs))) x (T.below hx) hsw hok.1 hok.2.1 hok.2.2.1 hnu hok.2.2.2.1 (by rw [hok.2.2.2.2];exact ⟨by decide,by decide⟩)
   have hih:(doH (aloK B h k).h (begD (aloK B h k).h B) (numM (aloK B h k).mem (reaA (begD (aloK B h k).h B)) (reaS (begD (aloK B h k).h B))) (!(decide (reaA (begD (aloK B h k).h B)=(aloK B h k).ra) && decide (reaS (begD (aloK B h k).h B)=(aloK B h k).rs))))=nowH B (aloK B h k):=rfl
   have hid':(doD (aloK B h k).h (begD (aloK B h k).h B) (numM (aloK B h k).mem (reaA (begD (aloK B h k).h B)) (reaS (begD (aloK B h k).h B))) (!(decide (reaA (begD (aloK B h k).h B)=(aloK B h k).ra) && decide (reaS (begD (aloK B h k).h B)=(aloK B h k).rs))))=nowD B (aloK B h k):=rfl
   rw [hih,hid'] at KD
   rw [← plcEq_of] at KD
   have hnw:Wh (nowH B (aloK B h k)):=do_wh hsw _ (zx0 _ _) _ _
   have hXL:=hsw.len
   have HII:=Lib.hid (zb3 hXL)
   have HE:Hid (∀ v wr,Aln w (aloS B (aloK B h k)) g gp v wr→∃ k':Nat,k' + (gk - 1)=most.toNat∧Hid ((aloK B h k').done.length=k')∧Hid (zw4 (aloK B h k') n)∧Hid (Aln w (aloK B h k') g gp v wr)):=by
    intro v wr ha
    refine ⟨k + 1,by have:=HK.out;omega,?_,?_,?_⟩
    ·show _=_
     rw [HNX.out,zM9,HDL.out]
    ·show zw4 _ _
     rw [HNX.out]
     exact Zp0 HOK.out HNE.out
    ·show Aln _ _ _ _ _ _
     rw [HNX.out]
     exact ha
   have KS:=fun x (hx:BW w x)=>zh2 (nowD B (aloK B h k)).inst.op (by rw [zT9];exact hok.1) x (T.below hx).t6.lasts
   have KY:=fun x=>zs6 (nowD B (aloK B h k)).wrote (reaS (begD (aloK B h k).h B)) (Zo5 B (aloK B h k)) x
   have O1:=Lib.hid (@alo_res B (aloK B h k))
   have O2:=Lib.hid (@alo_bad B (aloK B h k))
   have O3:=Lib.hid (@alo_con B (aloK B h k))
   have O4:=Lib.hid (@alo_sto B (aloK B h k))
   have O5:=Lib.hid (@alo_no B (aloK B h k))
   rw [HNE.out] at KB
   clear hih hid' hok hnu hc0
   generalize hsv:aloK B h k=s at *
   have HSV:=Lib.hid hsv
   clear hsv
   generalize hrdv:numM s.mem (reaA (begD s.h B)) (reaS (begD s.h B))=rdv at *
   generalize hpa:reaA (begD s.h B)=pa at *
   generalize hps:reaS (begD s.h B)=ps at *
   have HPA:=Lib.hid hpa
   have HPS:=Lib.hid hps
   clear hrdv hpa hps
   generalize hbd:begD s.h B=bd at *
   have HBD:=Lib.hid hbd
   clear hbd
   have HX:=HAL.out.hart
   obtain ⟨pc,⟨op,rd,rs1,rs2,imm,aq,rl,pred,succ⟩,cause,val,addr,rea,wrote,fl⟩:=bd
   unfold RetD za3 at KB
   simp only at KB
   go_upto_region 9 with (first
    | (with_reducible refine za8 (o:=⟨some 34,_,_,_,_,_⟩) rfl 25 (.tmp 3) rfl HX rfl Tryz.underlying25 rfl HII.out ?_)
    | (go_at_call 11;refine (KB _ HAL.out.bw).mono ?_;rintro e w6 ⟨rfl,hb⟩;have HAL6:=Lib.hid (HAL.out.on hb);clear hb))
   clear KB HX q33 HAL
   have HD7:=Blk.new (za3 ⟨pc,⟨op,rd,rs1,rs2,imm,aq,rl,pred,succ⟩,cause,val,addr,rea,wrote,fl⟩) 41 w6
   have HAL7:=HAL6.out.on (BW.new (Below.refl w6.heap.size w6) (.cells (za3 ⟨pc,⟨op,rd,rs1,rs2,imm,aq,rl,pred,succ⟩,cause,val,addr,rea,wrote,fl⟩) 41))
   have hd7:gp<w6.heap.size:=HAL6.out.plc.lt
   have hl7:∀ b,Value.ownBlock (.slice A10 k c10)=some b→b<w6.heap.size:=fun b e=>(HAL6.out.list.lt _ e).2
   clear HAL6
   unfold za3 at HD7 HAL7
   simp only at HD7 HAL7
   generalize w6.alloc (.cells _ 41)=w7 at *
   generalize w6.heap.size=gd at *
   have HD7':Blk (za3 ⟨pc,⟨op,rd,rs1,rs2,imm,aq,rl,pred,succ⟩,cause,val,addr,rea,wrote,fl⟩) 41 gd w7:=HD7
   unfold zb5 at KR
   go_upto_region 10 with (first
    | (with_reducible refine za8 (o:=⟨some 37,_,_,_,_,_⟩) rfl 41 (.tmp 12) rfl HD7' rfl Tryz.underlying41 rfl (by kernel_rfl) ?_)
    | (go_at_call 12;refine (KR _ HAL7.bw).mono ?_;rintro e w8 ⟨rfl,hb⟩;have HAL8:=Lib.hid (HAL7.on hb);have HD8:=HD7'.on hb;clear hb))
   have HR9:Alr w s g gp (.slice A10 k c10) ⟨pc,⟨op,rd,rs1,rs2,imm,aq,rl,pred,succ⟩,cause,val,addr,rea,wrote,fl⟩ gd pa ps w8.heap.size (w8.alloc (.cells (zb5 pa ps) 44)) :=
    ⟨HAL8.out.on (BW.new (Below.refl w8.heap.size w8) _),HD8.alloc _,Blk.new _ _ _,hd7,HD8.lt⟩
   clear HD7 HD7' HAL7 HAL8 HD8 hd7 KR
   unfold zb5 at HR9
   generalize w8.alloc (.cells _ 44)=w9 at *
   generalize w8.heap.size=gq at *
   have HR10:=HR9.drew
   clear HR9
   refine zk1 (fun x=>Alr w s g gp (.slice A10 k c10) ⟨pc,⟨op,rd,rs1,rs2,imm,aq,rl,pred,succ⟩,cause,val,addr,rea,wrote,fl⟩ gd pa ps gq x) 8 (by kernel_rfl) ?_
   change zh5 _ _ _ _ _ _ _ _ _ (World.drew _)
   generalize World.drew _=w10 at *
   refine zl7 (i:=0) (oi:=⟨some 40,.load 25 (.tmp 3),_,_,_,_⟩) [8] rfl (by kernel_rfl) (by kernel_rfl) (by kernel_rfl) (by kernel_rfl) (by kernel_rfl) rfl (fun _ _ _ h=>h) rfl 25 (.tmp 3) rfl rfl (fun x hx=>hx.a.hart) Tryz.underlying25 rfl HII.out HR10 ?_
   simp only [Act.put,List.setIfInBounds_toArray,List.set_cons_zero,List.set_cons_succ]
   refine zl7 (i:=1) (oi:=⟨some 41,.load 41 (.tmp 12),_,_,_,_⟩) [8] rfl (by kernel_rfl) (by kernel_rfl) (by kernel_rfl) (by kernel_rfl) (by kernel_rfl) rfl (fun _ _ _ h=>h) rfl 41 (.tmp 12) rfl rfl (fun x hx=>hx.dn) Tryz.underlying41 rfl (by kernel_rfl) HR10 ?_
   simp only [Act.put,List.setIfInBounds_toArray,List.set_cons_zero,List.set_cons_succ]
   refine zl7 (i:=2) (oi:=⟨some 42,.load 44 (.tmp 13),_,_,_,_⟩) [4,8] rfl (by kernel_rfl) (by kernel_rfl) (by kernel_rfl) (by kernel_rfl) (by kernel_rfl) rfl (fun _ _ _ h=>h) rfl 44 (.tmp 13) rfl rfl (fun x hx=>hx.q) Tryz.underlying44 rfl (by kernel_rfl) HR10 ?_
   simp only [Act.put,List.setIfInBounds_toArray,List.set_cons_zero,List.set_cons_succ]
   refine zc1 (i:=3) (oi:=⟨some 43,.move (.tmp 9),_,_,_,_⟩) [4,8] (.slice (some ⟨g + 2,0,none⟩) n n) rfl (by kernel_rfl) (by kernel_rfl) (by kernel_rfl) (by kernel_rfl) (by kernel_rfl) rfl (fun _ _ _ h=>h) rfl (fun _ _=>rfl) HR10 ?_
   simp only [Act.put,List.setIfInBounds_toArray,List.set_cons_zero,List.set_cons_succ]
   refine zl7 (i:=5) (oi:=⟨some 45,.load 44 (.tmp 13),_,_,_,_⟩) [7,8] rfl (by kernel_rfl) (by kernel_rfl) (by kernel_rfl) (by kernel_rfl) (by kernel_rfl) rfl (fun _ _ _ h=>h) rfl 44 (.tmp 13) rfl rfl (fun x hx=>hx.q) Tryz.underlying44 rfl (by kernel_rfl) HR10 ?_
   simp only [Act.put,List.setIfInBounds_toArray,List.set_cons_zero,List.set_cons_succ]
   refine zl7 (i:=6) (oi:=⟨some 46,.load 44 (.tmp 11),_,_,_,_⟩) [7,8] rfl (by kernel_rfl) (by kernel_rfl) (by kernel_rfl) (by kernel_rfl) (by kernel_rfl) rfl (fun _ _ _ h=>h) rfl 44 (.tmp 11) rfl rfl (fun x hx=>hx.a.plc) Tryz.underlying44 rfl (by kernel_rfl) HR10 ?_
   simp only [Act.put,List.setIfInBounds_toArray,List.set_cons_zero,List.set_cons_succ]
   refine zc1 (i:=7) (oi:=⟨some 47,.binOp .neq _ (.tmp 45) (.tmp 46) _,_,_,_,_⟩) [8] (.bool (!Zk6 pa ps s.ra s.rs)) rfl (by kernel_rfl) (by kernel_rfl) (by kernel_rfl) (by kernel_rfl) (by kernel_rfl) rfl (fun _ _ _ h=>h) rfl (fun w _=>zR7 rfl (by kernel_rfl) rfl rfl (zM6 pa ps s.ra s.rs w)) HR10 ?_
   simp only [Act.put,List.setIfInBounds_toArray,List.set_cons_zero,List.set_cons_succ]
   refine zl2 (i:=4) (oi:=⟨some 44,.call _,_,_,_,_⟩) (by kernel_rfl) rfl rfl (by first | rfl | kernel_rfl) (KN _ HR10.a.mem) ?_
   rintro e w11 ⟨rfl,hb⟩
   have HR11:=HR10.on hb
   refine ⟨_,rfl,.inr HR11,?_⟩
   simp only [Act.put,List.setIfInBounds_toArray,List.set_cons_zero,List.set_cons_succ]
   clear hb HR10 KN
   refine zl2 (i:=8) (oi:=⟨some 48,.call _,_,_,_,_⟩) (by kernel_rfl) rfl rfl (by first | rfl | kernel_rfl) (KD _ HR11.a.bw) ?_
   rintro e w12 ⟨rfl,hb⟩
   have HR12:=HR11.on hb
   refine ⟨_,rfl,.inl (by kernel_rfl),?_⟩
   simp only [Act.put,List.setIfInBounds_toArray,List.set_cons_zero,List.set_cons_succ]
   clear hb HR11 KD
   refine zj8 _ _ _ _ (by kernel_rfl) ?_
   refine zd5 (i:=9) (oi:=⟨some 39,.move (.tmp 48),_,_,_,_⟩) (.tuple #[.agg (za2 (nowH B s)),.agg (za3 (nowD B s))]) rfl (by kernel_rfl) (by kernel_rfl) (by kernel_rfl) (fun _ _ _ h=>h) rfl (fun _ _=>rfl) trivial ?_
   simp only [Act.put,List.setIfInBounds_toArray,List.set_cons_zero,List.set_cons_succ]
   refine zd5 (i:=10) (oi:=⟨some 49,.extract (.tmp 39) 0,_,_,_,_⟩) (.agg (za2 (nowH B s))) rfl (by kernel_rfl) (by kernel_rfl) (by kernel_rfl) (fun _ _ _ h=>h) rfl (fun _ _=>rfl) trivial ?_
   simp only [Act.put,List.setIfInBounds_toArray,List.set_cons_zero,List.set_cons_succ]
   refine zd5 (i:=11) (oi:=⟨some 50,.extract (.tmp 39) 1,_,_,_,_⟩) (.agg (za3 (nowD B s))) rfl (by kernel_rfl) (by kernel_rfl) (by kernel_rfl) (fun _ _ _ h=>h) rfl (fun _ _=>rfl) trivial ?_
   simp only [Act.put,List.setIfInBounds_toArray,List.set_cons_zero,List.set_cons_succ]
   refine zA7 (i:=12) (by kernel_rfl) rfl rfl rfl 25 (.tmp 3) (.tmp 49) rfl rfl rfl (zb3 hnw.len) (zb6 hnw.len) (zg5 _) (Has.of HR12.a.hart (zb6 hXL)) ?_
   intro w13 hb13 hk13
   refine zA7 (i:=13) (by kernel_rfl) rfl rfl rfl 41 (.tmp 12) (.tmp 50) rfl rfl rfl (by kernel_rfl) rfl (zj0 _) ((Has.of HR12.dn (n:=16) rfl).far hk13 (by have:=HR12.a.atp;have:=HR12.hd;omega)) ?_
   intro w14 hb14 hk14
   refine wpAnyH_done (by kernel_rfl) ?_ _
   have HR14:Alr w ⟨nowH B s,s.mem,s.ra,s.rs,s.done⟩ g gp (.slice A10 k c10) (nowD B s) gd pa ps gq w14:=HR12.two hl7 hb13 hk13 hb14 hk14
   clear HR12 hb13 hk13 hb14 hk14
   clear HII hXL hnw
   generalize nowH B s=nh at *
   generalize nowD B s=nd at *
   have HD:=HR14.dn
   unfold za3 at HD
   have HKK:Hid (s.done.length=k∧k≤100000):=⟨HDL.out,by have:=HK.out;omega⟩
   go_wp2_with (first
    | (with_reducible refine za8 (o:=⟨some 52,_,_,_,_,_⟩) rfl 41 (.tmp 12) rfl HD rfl Tryz.underlying41 rfl (by kernel_rfl) ?_)
    | (at_builtin;refine wpList_append_own _ rfl _ _ 28 rfl (gp + 1) 41 j0 (.agg (za3 noDn)) 16 120 Tryz.underlying28 ji jz0 jz1 jz2 rfl (by decide) _ s.done.length (zf4 s.done) rfl (HR14.a.list.alloc _) ⟨w14.heap.size,0,none⟩ 1 1 (za3 nd).toList rfl rfl (zx1 nd _ _) (zj0 nd) (by have:=HKK.out;unfold maxLen;omega) (by have:=HKK.out;omega) (by have:=HR14.dn.lt;have:=HR14.hd;simp;omega) ?_))
   intro v15 w15 hown hgrow hnn
   have HR15:=HR14.app hl7 rfl rfl hown hgrow
   clear hnn hown hgrow HD HR14 hl7
   have q1:w15.cell? ⟨gd,1,none⟩=some (.int .i64 nd.inst.op):=HR15.dn.cell 1
   have KSS:=KS _ HR15.a.bw
   generalize srt nd.inst.op=sq at *
   go_upto_region 13 with (first
    | (go_at_call 15;refine KSS.mono ?_;rintro e w16 ⟨rfl,rfl⟩))
   clear KSS KS q1
   have HML:Hid (s.mem.length=n):=HOK.out.len
   clear HOK HSV HNX HDL HKK
   have hcp:cap8 ps=ps.toNat:=cap_way hre
   rw [hcp] at KY
   clear hcp
   by_cases h10:sq=10
   ·subst h10
    obtain ⟨w16,e16,b16,k16⟩:=(Has.of HR15.a.plc (n:=2) rfl).put (P:=Tryz.prog) (zb5 pa ps) rfl (Zn8 _ _) (ty:=44) (by kernel_rfl)
    have HR16:=HR15.plc b16 k16
    have HF:=Lib.hid (HE.out v15 w16 (by rw [O1.out rfl];exact HR16.a))
    have HQ:=HR15.q
    clear HR15 HR16 HE O1 O2 O3 O4 O5 b16 k16 KY
    unfold zb5 at HQ e16
    go_wp2_with (first
     | (with_reducible refine za8 (o:=⟨some 66,_,_,_,_,_⟩) rfl 44 (.tmp 13) rfl HQ rfl Tryz.underlying44 rfl (by kernel_rfl) ?_)
     | (with_reducible refine zc4 (o:=⟨none,.store _ (.tmp 11) (.tmp 66),_,_,_,_⟩) rfl 44 (.tmp 11) (.tmp 66) rfl rfl rfl e16 ?_))
    go_roundg (gk - 1)
    case measure=>have:=HK.out;omega
    case rel=>exact HF.out
   have b10:(sq == 10)=false:=by simpa using h10
   by_cases h11:sq=11
   ·subst h11
    obtain ⟨w16,e16,b16,k16⟩:=(Has.of HR15.a.plc (n:=2) rfl).put (P:=Tryz.prog) (zb5 0 0) rfl (Zn8 _ _) (ty:=44) (by kernel_rfl)
    have HR16:=HR15.plc b16 k16
    have q2:w16.cell? ⟨gd,15,none⟩=some (.bool nd.failed):=HR16.dn.cell 15
    clear HR15 O1 O4 O5 b16 k16
    unfold zb5 at e16
    obtain ⟨ff,hff⟩:∃ ff,nd.failed=ff:=⟨_,rfl⟩
    rw [hff] at q2
    rw [hff] at O2 O3
    clear hff
    cases ff
    ·have OC:=Lib.hid (O3.out rfl rfl)
     clear O2 O3
     go_upto_region 20 with (first
      | (with_reducible refine zc4 (o:=⟨none,.store _ (.tmp 11) (.tmp 67),_,_,_,_⟩) rfl 44 (.tmp 11) (.tmp 67) rfl rfl rfl e16 ?_))
     clear e16 q2
     have HR17:=HR16.drew
     refine zk1 (fun x=>Alr w ⟨nh,s.mem,0,0,s.done ++ [nd]⟩ g gp v15 nd gd pa ps gq x) 9 (by kernel_rfl) ?_
     change zh5 _ _ _ _ _ _ _ _ _ (World.drew _)
     generalize World.drew _=w17 at *
     refine zc1 (i:=0) (oi:=⟨some 70,.move (.tmp 9),_,_,_,_⟩) [3,9] (.slice (some ⟨g + 2,0,none⟩) n n) rfl (by kernel_rfl) (by kernel_rfl) (by kernel_rfl) (by kernel_rfl) (by kernel_rfl) rfl (fun _ _ _ h=>h) rfl (fun _ _=>rfl) HR17 ?_
     simp only [Act.put,List.setIfInBounds_toArray,List.set_cons_zero,List.set_cons_succ]
     refine zc1 (i:=1) (oi:=⟨some 71,.fieldAddr _ (.tmp 13) 0,_,_,_,_⟩) [2,3,9] (.pointer (some ⟨gq,0,none⟩)) rfl (by kernel_rfl) (by kernel_rfl) (by kernel_rfl) (by kernel_rfl) (by kernel_rfl) rfl (fun _ _ _ h=>h) rfl (fun _ _=>by kernel_rfl) HR17 ?_
     simp only [Act.put,List.setIfInBounds_toArray,List.set_cons_zero,List.set_cons_succ]
     refine zc1 (i:=2) (oi:=⟨some 72,.load _ (.tmp 71),_,_,_,_⟩) [3,9] (.int .u64 pa) rfl (by kernel_rfl) (by kernel_rfl) (by kernel_rfl) (by kernel_rfl) (by kernel_rfl) rfl (fun _ _ _ h=>h) rfl (fun x hx=>zb8 rfl rfl (hx.q.cell 0) (by kernel_rfl)) HR17 ?_
     simp only [Act.put,List.setIfInBounds_toArray,List.set_cons_zero,List.set_cons_succ]
     refine zc1 (i:=3) (oi:=⟨some 73,.slice _ (.tmp 70) (some (.tmp 72)) none none,_,_,_,_⟩) [9] (.slice (some ⟨g + 2,pa.toNat,none⟩) (n - pa.toNat) (n - pa.toNat)) rfl (by kernel_rfl) (by kernel_rfl) (by kernel_rfl) (by kernel_rfl) (by kernel_rfl) rfl (fun _ _ _ h=>h) rfl (fun x _=>zk2 rfl rfl rfl (by omega) (by omega) Tryz.underlying26 (by kernel_rfl)) HR17 ?_
     simp only [Act.put,List.setIfInBounds_toArray,List.set_cons_zero,List.set_cons_succ]
     refine zc1 (i:=4) (oi:=⟨some 74,.fieldAddr _ (.tmp 12) 6,_,_,_,_⟩) [5,8,9] (.pointer (some ⟨gd,14,none⟩)) rfl (by kernel_rfl) (by kernel_rfl) (by kernel_rfl) (by kernel_rfl) (by kernel_rfl) rfl (fun _ _ _ h=>h) rfl (fun _ _=>by kernel_rfl) HR17 ?_
     simp only [Act.put,List.setIfInBounds_toArray,List.set_cons_zero,List.set_cons_succ]
     refine zc1 (i:=5) (oi:=⟨some 75,.load _ (.tmp 74),_,_,_,_⟩) [8,9] (.int .u64 nd.wrote) rfl (by kernel_rfl) (by kernel_rfl) (by kernel_rfl) (by kernel_rfl) (by kernel_rfl) rfl (fun _ _ _ h=>h) rfl (fun x hx=>zb8 rfl rfl (hx.dn.cell 14) (by kernel_rfl)) HR17 ?_
     simp only [Act.put,List.setIfInBounds_toArray,List.set_cons_zero,List.set_cons_succ]
     refine zc1 (i:=6) (oi:=⟨some 76,.fieldAddr _ (.tmp 13) 1,_,_,_,_⟩) [7,8,9] (.pointer (some ⟨gq,1,none⟩)) rfl (by kernel_rfl) (by kernel_rfl) (by kernel_rfl) (by kernel_rfl) (by kernel_rfl) rfl (fun _ _ _ h=>h) rfl (fun _ _=>by kernel_rfl) HR17 ?_
     simp only [Act.put,List.setIfInBounds_toArray,List.set_cons_zero,List.set_cons_succ]
     refine zc1 (i:=7) (oi:=⟨some 77,.load _ (.tmp 76),_,_,_,_⟩) [8,9] (.int .i64 ps) rfl (by kernel_rfl) (by kernel_rfl) (by kernel_rfl) (by kernel_rfl) (by kernel_rfl) rfl (fun _ _ _ h=>h) rfl (fun x hx=>zb8 rfl rfl (hx.q.cell 1) (by kernel_rfl)) HR17 ?_
     simp only [Act.put,List.setIfInBounds_toArray,List.set_cons_zero,List.set_cons_succ]
     refine zl2 (i:=8) (oi:=⟨some 78,.call _,_,_,_,_⟩) (by kernel_rfl) rfl rfl (by first | rfl | kernel_rfl) (KY _) ?_
     rintro e w18 ⟨Ab,cb,rfl,hrd,hb⟩
     have HR18:=HR17.on hb
     refine ⟨_,rfl,.inr HR18,?_⟩
     simp only [Act.put,List.setIfInBounds_toArray,List.set_cons_zero,List.set_cons_succ]
     clear hb HR17
     refine zy2 (i:=9) (oi:=⟨some 79,.call _,_,_,_,_⟩) (by kernel_rfl) rfl rfl (by kernel_rfl) (.tmp 73) (.tmp 78) _ _ rfl 5 Tryz.underlying26 HIS Ab (g + 2) pa.toNat (n - pa.toNat) (n - pa.toNat) _ cb rfl rfl (za4 s.mem) 5 HR18.a.mem (za4 (zc5 nd.wrote ps.toNat)) (zE3 hre) (zC0 hrd) (zB9 hre HML.out) (zl1 _) ?_
     intro w19 hb19 hk19
     rw [zu2] at hb19
     have HR19:=HR18.put hb19 hk19
     clear HR18 hrd hb19 hk19
     have HF:=Lib.hid (HE.out v15 w19 (by rw [OC.out];exact HR19.a))
     simp only [Act.put,List.setIfInBounds_toArray,List.set_cons_zero,List.set_cons_succ]
     refine wpAnyH_done (by kernel_rfl) ?_ _
     go_wp2
     go_roundg (gk - 1)
     case measure=>have:=HK.out;omega
     case rel=>exact HF.out
    ·have HF:=Lib.hid (HE.out v15 w16 (by rw [O2.out rfl rfl];exact HR16.a))
     clear HR16 HE O2 O3 KY
     go_wp2_with (first
      | (with_reducible refine zc4 (o:=⟨none,.store _ (.tmp 11) (.tmp 67),_,_,_,_⟩) rfl 44 (.tmp 11) (.tmp 67) rfl rfl rfl e16 ?_))
     go_roundg (gk - 1)
     case measure=>have:=HK.out;omega
     case rel=>exact HF.out
   have b11:(sq == 11)=false:=by simpa using h11
   by_cases h5:sq=5
   ·subst h5
    have OC:=Lib.hid (O4.out (.inl rfl))
    clear O1 O2 O3 O4 O5
    go_upto_region 20 with (fail)
    have HR17:=HR15.drew
    refine zk1 (fun x=>Alr w ⟨nh,s.mem,s.ra,s.rs,s.done ++ [nd]⟩ g gp v15 nd gd pa ps gq x) 9 (by kernel_rfl) ?_
    change zh5 _ _ _ _ _ _ _ _ _ (World.drew _)
    generalize World.drew _=w17 at *
    refine zc1 (i:=0) (oi:=⟨some 70,.move (.tmp 9),_,_,_,_⟩) [3,9] (.slice (some ⟨g + 2,0,none⟩) n n) rfl (by kernel_rfl) (by kernel_rfl) (by kernel_rfl) (by kernel_rfl) (by kernel_rfl) rfl (fun _ _ _ h=>h) rfl (fun _ _=>rfl) HR17 ?_
    simp only [Act.put,List.setIfInBounds_toArray,List.set_cons_zero,List.set_cons_succ]
    refine zc1 (i:=1) (oi:=⟨some 71,.fieldAddr _ (.tmp 13) 0,_,_,_,_⟩) [2,3,9] (.pointer (some ⟨gq,0,none⟩)) rfl (by kernel_rfl) (by kernel_rfl) (by kernel_rfl) (by kernel_rfl) (by kernel_rfl) rfl (fun _ _ _ h=>h) rfl (fun _ _=>by kernel_rfl) HR17 ?_
    simp only [Act.put,List.setIfInBounds_toArray,List.set_cons_zero,List.set_cons_succ]
    refine zc1 (i:=2) (oi:=⟨some 72,.load _ (.tmp 71),_,_,_,_⟩) [3,9] (.int .u64 pa) rfl (by kernel_rfl) (by kernel_rfl) (by kernel_rfl) (by kernel_rfl) (by kernel_rfl) rfl (fun _ _ _ h=>h) rfl (fun x hx=>zb8 rfl rfl (hx.q.cell 0) (by kernel_rfl)) HR17 ?_
    simp only [Act.put,List.setIfInBounds_toArray,List.set_cons_zero,List.set_cons_succ]
    refine zc1 (i:=3) (oi:=⟨some 73,.slice _ (.tmp 70) (some (.tmp 72)) none none,_,_,_,_⟩) [9] (.slice (some ⟨g + 2,pa.toNat,none⟩) (n - pa.toNat) (n - pa.toNat)) rfl (by kernel_rfl) (by kernel_rfl) (by kernel_rfl) (by kernel_rfl) (by kernel_rfl) rfl (fun _ _ _ h=>h) rfl (fun x _=>zk2 rfl rfl rfl (by omega) (by omega) Tryz.underlying26 (by kernel_rfl)) HR17 ?_
    simp only [Act.put,List.setIfInBounds_toArray,List.set_cons_zero,List.set_cons_succ]
    refine zc1 (i:=4) (oi:=⟨some 74,.fieldAddr _ (.tmp 12) 6,_,_,_,_⟩) [5,8,9] (.pointer (some ⟨gd,14,none⟩)) rfl (by kernel_rfl) (by kernel_rfl) (by kernel_rfl) (by kernel_rfl) (by kernel_rfl) rfl (fun _ _ _ h=>h) rfl (fun _ _=>by kernel_rfl) HR17 ?_
    simp only [Act.put,List.setIfInBounds_toArray,List.set_cons_zero,List.set_cons_succ]
    refine zc1 (i:=5) (oi:=⟨some 75,.load _ (.tmp 74),_,_,_,_⟩) [8,9] (.int .u64 nd.wrote) rfl (by kernel_rfl) (by kernel_rfl) (by kernel_rfl) (by kernel_rfl) (by kernel_rfl) rfl (fun _ _ _ h=>h) rfl (fun x hx=>zb8 rfl rfl (hx.dn.cell 14) (by kernel_rfl)) HR17 ?_
    simp only [Act.put,List.setIfInBounds_toArray,List.set_cons_zero,List.set_cons_succ]
    refine zc1 (i:=6) (oi:=⟨some 76,.fieldAddr _ (.tmp 13) 1,_,_,_,_⟩) [7,8,9] (.pointer (some ⟨gq,1,none⟩)) rfl (by kernel_rfl) (by kernel_rfl) (by kernel_rfl) (by kernel_rfl) (by kernel_rfl) rfl (fun _ _ _ h=>h) rfl (fun _ _=>by kernel_rfl) HR17 ?_
    simp only [Act.put,List.setIfInBounds_toArray,List.set_cons_zero,List.set_cons_succ]
    refine zc1 (i:=7) (oi:=⟨some 77,.load _ (.tmp 76),_,_,_,_⟩) [8,9] (.int .i64 ps) rfl (by kernel_rfl) (by kernel_rfl) (by kernel_rfl) (by kernel_rfl) (by kernel_rfl) rfl (fun _ _ _ h=>h) rfl (fun x hx=>zb8 rfl rfl (hx.q.cell 1) (by kernel_rfl)) HR17 ?_
    simp only [Act.put,List.setIfInBounds_toArray,List.set_cons_zero,List.set_cons_succ]
    refine zl2 (i:=8) (oi:=⟨some 78,.call _,_,_,_,_⟩) (by kernel_rfl) rfl rfl (by first | rfl | kernel_rfl) (KY _) ?_
    rintro e w18 ⟨Ab,cb,rfl,hrd,hb⟩
    have HR18:=HR17.on hb
    refine ⟨_,rfl,.inr HR18,?_⟩
    simp only [Act.put,List.setIfInBounds_toArray,List.set_cons_zero,List.set_cons_succ]
    clear hb HR17
    refine zy2 (i:=9) (oi:=⟨some 79,.call _,_,_,_,_⟩) (by kernel_rfl) rfl rfl (by kernel_rfl) (.tmp 73) (.tmp 78) _ _ rfl 5 Tryz.underlying26 HIS Ab (g + 2) pa.toNat (n - pa.toNat) (n - pa.toNat) _ cb rfl rfl (za4 s.mem) 5 HR18.a.mem (za4 (zc5 nd.wrote ps.toNat)) (zE3 hre) (zC0 hrd) (zB9 hre HML.out) (zl1 _) ?_
    intro w19 hb19 hk19
    rw [zu2] at hb19
    have HR19:=HR18.put hb19 hk19
    clear HR18 hrd hb19 hk19
    have HF:=Lib.hid (HE.out v15 w19 (by rw [OC.out];exact HR19.a))
    simp only [Act.put,List.setIfInBounds_toArray,List.set_cons_zero,List.set_cons_succ]
    refine wpAnyH_done (by kernel_rfl) ?_ _
    go_wp2
    go_roundg (gk - 1)
    case measure=>have:=HK.out;omega
    case rel=>exact HF.out
   have b5:(sq == 5)=false:=by simpa using h5
   by_cases h12:sq=12
   ·subst h12
    have OC:=Lib.hid (O4.out (.inr rfl))
    clear O1 O2 O3 O4 O5
    go_upto_region 20 with (fail)
    have HR17:=HR15.drew
    refine zk1 (fun x=>Alr w ⟨nh,s.mem,s.ra,s.rs,s.done ++ [nd]⟩ g gp v15 nd gd pa ps gq x) 9 (by kernel_rfl) ?_
    change zh5 _ _ _ _ _ _ _ _ _ (World.drew _)
    generalize World.drew _=w17 at *
    refine zc1 (i:=0) (oi:=⟨some 70,.move (.tmp 9),_,_,_,_⟩) [3,9] (.slice (some ⟨g + 2,0,none⟩) n n) rfl (by kernel_rfl) (by kernel_rfl) (by kernel_rfl) (by kernel_rfl) (by kernel_rfl) rfl (fun _ _ _ h=>h) rfl (fun _ _=>rfl) HR17 ?_
    simp only [Act.put,List.setIfInBounds_toArray,List.set_cons_zero,List.set_cons_succ]
    refine zc1 (i:=1) (oi:=⟨some 71,.fieldAddr _ (.tmp 13) 0,_,_,_,_⟩) [2,3,9] (.pointer (some ⟨gq,0,none⟩)) rfl (by kernel_rfl) (by kernel_rfl) (by kernel_rfl) (by kernel_rfl) (by kernel_rfl) rfl (fun _ _ _ h=>h) rfl (fun _ _=>by kernel_rfl) HR17 ?_
    simp only [Act.put,List.setIfInBounds_toArray,List.set_cons_zero,List.set_cons_succ]
    refine zc1 (i:=2) (oi:=⟨some 72,.load _ (.tmp 71),_,_,_,_⟩) [3,9] (.int .u64 pa) rfl (by kernel_rfl) (by kernel_rfl) (by kernel_rfl) (by kernel_rfl) (by kernel_rfl) rfl (fun _ _ _ h=>h) rfl (fun x hx=>zb8 rfl rfl (hx.q.cell 0) (by kernel_rfl)) HR17 ?_
    simp only [Act.put,List.setIfInBounds_toArray,List.set_cons_zero,List.set_cons_succ]
    refine zc1 (i:=3) (oi:=⟨some 73,.slice _ (.tmp 70) (some (.tmp 72)) none none,_,_,_,_⟩) [9] (.slice (some ⟨g + 2,pa.toNat,none⟩) (n - pa.toNat) (n - pa.toNat)) rfl (by kernel_rfl) (by kernel_rfl) (by kernel_rfl) (by kernel_rfl) (by kernel_rfl) rfl (fun _ _ _ h=>h) rfl (fun x _=>zk2 rfl rfl rfl (by omega) (by omega) Tryz.underlying26 (by kernel_rfl)) HR17 ?_
    simp only [Act.put,List.setIfInBounds_toArray,List.set_cons_zero,List.set_cons_succ]
    refine zc1 (i:=4) (oi:=⟨some 74,.fieldAddr _ (.tmp 12) 6,_,_,_,_⟩) [5,8,9] (.pointer (some ⟨gd,14,none⟩)) rfl (by kernel_rfl) (by kernel_rfl) (by kernel_rfl) (by kernel_rfl) (by kernel_rfl) rfl (fun _ _ _ h=>h) rfl (fun _ _=>by kernel_rfl) HR17 ?_
    simp only [Act.put,List.setIfInBounds_toArray,List.set_cons_zero,List.set_cons_succ]
    refine zc1 (i:=5) (oi:=⟨some 75,.load _ (.tmp 74),_,_,_,_⟩) [8,9] (.int .u64 nd.wrote) rfl (by kernel_rfl) (by kernel_rfl) (by kernel_rfl) (by kernel_rfl) (by kernel_rfl) rfl (fun _ _ _ h=>h) rfl (fun x hx=>zb8 rfl rfl (hx.dn.cell 14) (by kernel_rfl)) HR17 ?_
    simp only [Act.put,List.setIfInBounds_toArray,List.set_cons_zero,List.set_cons_succ]
    refine zc1 (i:=6) (oi:=⟨some 76,.fieldAddr _ (.tmp 13) 1,_,_,_,_⟩) [7,8,9] (.pointer (some ⟨gq,1,none⟩)) rfl (by kernel_rfl) (by kernel_rfl) (by kernel_rfl) (by kernel_rfl) (by kernel_rfl) rfl (fun _ _ _ h=>h) rfl (fun _ _=>by kernel_rfl) HR17 ?_
    simp only [Act.put,List.setIfInBounds_toArray,List.set_cons_zero,List.set_cons_succ]
    refine zc1 (i:=7) (oi:=⟨some 77,.load _ (.tmp 76),_,_,_,_⟩) [8,9] (.int .i64 ps) rfl (by kernel_rfl) (by kernel_rfl) (by kernel_rfl) (by kernel_rfl) (by kernel_rfl) rfl (fun _ _ _ h=>h) rfl (fun x hx=>zb8 rfl rfl (hx.q.cell 1) (by kernel_rfl)) HR17 ?_
    simp only [Act.put,List.setIfInBounds_toArray,List.set_cons_zero,List.set_cons_succ]
    refine zl2 (i:=8) (oi:=⟨some 78,.call _,_,_,_,_⟩) (by kernel_rfl) rfl rfl (by first | rfl | kernel_rfl) (KY _) ?_
    rintro e w18 ⟨Ab,cb,rfl,hrd,hb⟩
    have HR18:=HR17.on hb
    refine ⟨_,rfl,.inr HR18,?_⟩
    simp only [Act.put,List.setIfInBounds_toArray,List.set_cons_zero,List.set_cons_succ]
    clear hb HR17
    refine zy2 (i:=9) (oi:=⟨some 79,.call _,_,_,_,_⟩) (by kernel_rfl) rfl rfl (by kernel_rfl) (.tmp 73) (.tmp 78) _ _ rfl 5 Tryz.underlying26 HIS Ab (g + 2) pa.toNat (n - pa.toNat) (n - pa.toNat) _ cb rfl rfl (za4 s.mem) 5 HR18.a.mem (za4 (zc5 nd.wrote ps.toNat)) (zE3 hre) (zC0 hrd) (zB9 hre HML.out) (zl1 _) ?_
    intro w19 hb19 hk19
    rw [zu2] at hb19
    have HR19:=HR18.put hb19 hk19
    clear HR18 hrd hb19 hk19
    have HF:=Lib.hid (HE.out v15 w19 (by rw [OC.out];exact HR19.a))
    simp only [Act.put,List.setIfInBounds_toArray,List.set_cons_zero,List.set_cons_succ]
    refine wpAnyH_done (by kernel_rfl) ?_ _
    go_wp2
    go_roundg (gk - 1)
    case measure=>have:=HK.out;omega
    case rel=>exact HF.out
   have b12:(sq == 12)=false:=by simpa using h12
   have HF:=Lib.hid (HE.out v15 w15 (by rw [O5.out ⟨h10,h11,h5,h12⟩];exact HR15.a))
   clear HR15 HE O1 O2 O3 O4 O5 KY
   go_wp2
   go_roundg (gk - 1)
   case measure=>have:=HK.out;omega
   case rel=>exact HF.out
  ·have HST:Hid (aloK B h most.toNat=aloK B h k):=by
    show _=_
    by_cases hc0:(aloK B h k).h.cause=0
    ·have hkm:¬ (k:Int)<most:=fun g=>hgo ⟨hc0,g⟩
     rw [show most.toNat=k by have:=HK.out;omega]
    ·rw [show most.toNat=k + gk by have:=HK.out;omega]
     exact zq7 hc0 gk
   have hXL:=HOK.out.h.len
   obtain ⟨w6,s1,b1,bw1,k1⟩:=Zo4 (aloK B h k).h hXL HAL.out.res HAL.out.bw (by have:=HG.out;omega)
   have hMM:Hid (Blk (za4 (aloK B h k).mem).toArray 5 (g + 2) w6):=HAL.out.mem.far k1 (by omega)
   have hLL:Hid (w6.ownsRow w.heap.size 41 16 (.slice A10 k c10) (aloK B h k).done.length (zf4 (aloK B h k).done)):=by
    have h1:=HAL.out.list.kept k1 (by
     rcases HAL.out.list.2 with ⟨hv,_⟩ | ⟨gl,_,_,hv,hgl,_⟩
     ·left;rw [hv];rfl
     ·right;rw [hv];have:=HAL.out.atp;simp [Value.ownBlock];omega)
    exact h1.mono (by have:=HG.out;have:=HAL.out.atp;omega)
   have hBW:=Lib.hid bw1
   have HX:=HAL.out.hart
   have HII:=Lib.hid (zb3 hXL)
   have hML:=Lib.hid HOK.out.len
   have HRR:Hid (∀ e,(∃ v m,e=Ending.returned (.tuple #[.agg (za2 (aloK B h k).h),.slice (some ⟨g + 2,0,none⟩) m m,v])∧v=.slice A10 k c10∧m=n)→RetAl w (aloK B h most.toNat) e w6):=by
    rintro e ⟨v,m,rfl,rfl,rfl⟩
    rw [HST.out]
    have hgg:=HG.out
    subst hgg
    exact ⟨_,_,rfl,hML.out,hMM.out,hLL.out,hBW.out⟩
   clear hXL hMM hLL hBW hML HAL HNE HK HDL HOK bw1 k1
   have hc:(((aloK B h k).h.cause == 0)=false)∨(((aloK B h k).h.cause == 0)=true∧¬ (k:Int)<most):=by
    by_cases hc0:(aloK B h k).h.cause=0
    ·exact .inr ⟨by simpa using hc0,fun g=>hgo ⟨hc0,g⟩⟩
    ·exact .inl (by simpa using hc0)
   clear hgo HST
   generalize (aloK B h k).h=hk at *
   generalize hk.cause=ck at *
   rcases hc with hc | ⟨hc,hkm⟩
   all_goals
    go_wp2_with (first
     | (with_reducible refine za8 (o:=⟨some 80,_,_,_,_,_⟩) rfl 25 (.tmp 3) rfl HX rfl Tryz.underlying25 rfl HII.out ?_)
     | (with_reducible refine zc4 (o:=⟨none,.store _ (.tmp 6) (.tmp 80),_,_,_,_⟩) rfl 25 (.tmp 6) (.tmp 80) rfl rfl rfl s1 ?_))
    try rw [Exit.noGoto_ret]
    refine bodyPost_ret (zu8 rfl rfl b1 Tryz.underlying25 rfl HII.out) rfl ?_
    exact HRR.out _ ⟨_,_,rfl,rfl,rfl⟩
end Go.Proofs.YtmamblgpekafbaaGreatDoor
