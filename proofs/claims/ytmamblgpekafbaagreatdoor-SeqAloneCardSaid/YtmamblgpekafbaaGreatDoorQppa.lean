/- Of stage 11. -/
import Derived.Test.YtmamblgpekafbaaGreatDoorQnpa
import Derived.Test.YtmamblgpekafbaaGreatDoorQhpa
import Derived.Test.YtmamblgpekafbaaGreatDoorQupa
import Derived.Deep.CutBlock
set_option linter.unusedVariables false
set_option maxRecDepth 100000
set_option maxHeartbeats 40000000
namespace Go.Proofs.YtmamblgpekafbaaGreatDoor
open Go.RowKit
structure Rsj (W:World) (h:Hrt) (i:Ins) (d:Dn) (g gi gd:Nat) (w:World):Prop where
 s:Stj W h g w
 o1:g + 2<gi
 o2:gi<gd
 ins:Blk (za0 i) 39 gi w
 dn:Blk (za3 d) 41 gd w
section
variable {W w w':World} {h:Hrt} {i:Ins} {d:Dn} {g gi gd:Nat}
theorem Rsj.on (j:Rsj W h i d g gi gd w) (hb:Below w.heap.size w w'):Rsj W h i d g gi gd w':=⟨j.s.on hb,j.o1,j.o2,j.ins.on hb,j.dn.on hb⟩
theorem Rsj.drew (j:Rsj W h i d g gi gd w):Rsj W h i d g gi gd w.drew:=⟨j.s.drew,j.o1,j.o2,j.ins.drew,j.dn.drew⟩
theorem Rsj.sh (j:Rsj W h i d g gi gd w) (k:Nat) (v:Value) (h':Hrt) (e:(za2 h).setIfInBounds k v=za2 h'):Rsj W h' i d g gi gd (w.setCell ⟨g,k,none⟩ v) :=
 ⟨j.s.sh k v h' e,j.o1,j.o2,j.ins.other (by have:=j.o1;show gi≠g;omega) v,j.dn.other (by have:=j.o1;have:=j.o2;show gd≠g;omega) v⟩
theorem Rsj.sd (j:Rsj W h i d g gi gd w) (k:Nat) (v:Value) (d':Dn) (e:(za3 d).setIfInBounds k v=za3 d'):Rsj W h i d' g gi gd (w.setCell ⟨gd,k,none⟩ v):=by
 have h1:=j.o1
 have h2:=j.o2
 exact ⟨⟨j.s.at0,Below.setCell j.s.bw (by have:=j.s.at0;show _≤gd;omega) v,j.s.hart.other (by show g≠gd;omega) v,j.s.r1.other (by show g + 1≠gd;omega) v,j.s.r2.other (by show g + 2≠gd;omega) v⟩,h1,h2,
  j.ins.other (by show gi≠gd;omega) v,by have:=j.dn.set k v;rw [e] at this;exact this⟩
end
theorem Rsj.put1 {W w w':World} {h:Hrt} {i:Ins} {d:Dn} {g gi gd:Nat} (j:Rsj W h i d g gi gd w) (hg:w.grownBy w' (some (g + 1))) (hh:Has 34 25 (g + 1) w'):Rsj W h i d g gi gd w' :=
 ⟨j.s.put1 hg hh,j.o1,j.o2,j.ins.far hg (by have:=j.o1;omega),j.dn.far hg (by have:=j.o1;have:=j.o2;omega)⟩
theorem Rsj.put2 {W w w':World} {h:Hrt} {i:Ins} {d:Dn} {g gi gd:Nat} (j:Rsj W h i d g gi gd w) (hg:w.grownBy w' (some (g + 2))) (hh:Has 16 41 (g + 2) w'):Rsj W h i d g gi gd w' :=
 ⟨j.s.put2 hg hh,j.o1,j.o2,j.ins.far hg (by have:=j.o1;omega),j.dn.far hg (by have:=j.o1;have:=j.o2;omega)⟩
theorem rsj_ins {W w:World} {h:Hrt} {g:Nat} (j:Stj W h g w) (i:Ins):∃ w1,(storeVar 39 ⟨w.heap.size,0,none⟩ (.agg (za0 i))).run Tryz.prog (w.alloc (.cells (za0 za5) 39))=.ok () w1∧Blk (za0 i) 39 w.heap.size w1∧Stj W h g w1∧g + 2<w.heap.size:=by
 obtain ⟨w1,e1,b1,k1⟩:=(Has.of (Blk.new (za0 za5) 39 w) (n:=9) rfl).put (P:=Tryz.prog) (za0 i) rfl (zn2 i) (ty:=39) (by kernel_rfl)
 have hb:Below w.heap.size w w1:=((Below.refl w.heap.size w).alloc (Nat.le_refl _) _).grown k1 (by simp) (fun r hr=>by cases hr;exact Nat.le_refl _)
 exact ⟨w1,e1,b1,j.on hb,j.r2.lt⟩
theorem rsj_dn {W w:World} {h:Hrt} {g gi:Nat} {i:Ins} (j:Stj W h g w) (hi:Blk (za0 i) 39 gi w) (hg:g + 2<gi) (d:Dn):∃ w1,(storeVar 41 ⟨w.heap.size,0,none⟩ (.agg (za3 d))).run Tryz.prog (w.alloc (.cells (za3 noDn) 41))=.ok () w1∧Rsj W h i d g gi w.heap.size w1:=by
 obtain ⟨w1,e1,b1,k1⟩:=(Has.of (Blk.new (za3 noDn) 41 w) (n:=16) rfl).put (P:=Tryz.prog) (za3 d) rfl (zj0 d) (ty:=41) (by kernel_rfl)
 have hb:Below w.heap.size w w1:=((Below.refl w.heap.size w).alloc (Nat.le_refl _) _).grown k1 (by simp) (fun r hr=>by cases hr;exact Nat.le_refl _)
 exact ⟨w1,e1,j.on hb,hg,hi.lt,hi.on hb,b1⟩
theorem zr8 {h:Hrt} {B:List Int} (hcz:h.cause=0) {bd:Dn} (hb:begD (zerX h) B=bd) (hc:bd.cause≠0) (read:Int) (failed:Bool):stpH h B read failed=⟨h.pc,(zerX h).x,bd.cause⟩∧stpD h B read failed=bd:=by
 unfold stpH stpD
 rw [if_pos hcz,if_pos hcz,hb]
 unfold doH doD
 rw [if_neg hc,if_neg hc]
 exact ⟨rfl,rfl⟩
theorem beg_mem {h:Hrt} {B:List Int} (hs:siz (fetI B h.pc).op≠0):fetC B h.pc=0∧begD (zerX h) B=⟨h.pc,fetI B h.pc,if whrV (fetI B h.pc).op (adrV (fetI B h.pc).op (fetI B h.pc).imm (xAt (zerX h) (fetI B h.pc).rs1)) B.length=4 then 5 else if whrV (fetI B h.pc).op (adrV (fetI B h.pc).op (fetI B h.pc).imm (xAt (zerX h) (fetI B h.pc).rs1)) B.length=3 then 6 else 0,0,
  adrV (fetI B h.pc).op (fetI B h.pc).imm (xAt (zerX h) (fetI B h.pc).rs1),0,0,false⟩:=by
 have hc:fetC B h.pc=0:=by
  apply Classical.byContradiction
  intro g
  exact hs (by unfold fetI;rw [if_neg g];decide)
 have h52:(fetI B h.pc).op≠52:=fun e=>hs (by rw [e];decide)
 have h53:(fetI B h.pc).op≠53:=fun e=>hs (by rw [e];decide)
 refine ⟨hc,?_⟩
 rw [zf8 (h:=zerX h) hc]
 unfold cauV
 rw [show (zerX h).pc=h.pc from rfl,if_neg h52,if_neg h53]
theorem Zd7 {h:Hrt} {B:List Int} (hs:siz (fetI B h.pc).op=0) (hc:fetC B h.pc=0):begD (zerX h) B=⟨h.pc,fetI B h.pc,if (fetI B h.pc).op=52 then 1 else if (fetI B h.pc).op=53 then 2 else 0,0,0,0,0,false⟩:=by
 have hw:∀ ad len,whrV (fetI B h.pc).op ad len=0:=fun ad len=>by unfold whrV;rw [if_pos hs]
 rw [zf8 (h:=zerX h) hc]
 unfold cauV
 rw [show (zerX h).pc=h.pc from rfl,hw,Ze7 hs,if_neg (show ¬ (0:Int)=4 by decide),if_neg (show ¬ (0:Int)=3 by decide)]
theorem beg_none {h:Hrt} {B:List Int} (hc:fetC B h.pc≠0):fetI B h.pc=za5∧begD (zerX h) B=⟨h.pc,fetI B h.pc,fetC B h.pc,0,0,0,0,false⟩:=by
 have e:fetI B h.pc=za5:=by unfold fetI;rw [if_neg hc]
 exact ⟨e,by rw [e,zm0 (h:=zerX h) hc];rfl⟩
section
variable {P:Program} {ops:Array Oper} {Q:Exit→Act→World→Prop} {md:Region.Mode} {S:World→Prop} {fuel:Nat} {listed:Array Bool} {a:Act} {w:World}
theorem end_four (s1 s2 s3 s4:Nat) (v1 v2 v3 v4:Value) (C:World→Prop) (hend:∀ w,C w→Q .normal ((((a.put (some s1) v1).put (some s2) v2).put (some s3) v3).put (some s4) v4) w)
  (h:(∀ w,C w→Q .normal ((((a.put (some s1) v1).put (some s2) v2).put (some s3) v3).put (some s4) v4) w)→wpAnyH P md ops Q S fuel listed a w):wpAnyH P md ops Q S fuel listed a w:=h hend
end
theorem zk9 {P:Program} {o:Oper} {a:Act} {w:World} {t e:TypeId} {x y:Operand} {g off n:Nat} {i:Int} (ho:o.op=.indexAddr t x y) (hx:a.eval x=.pointer (some ⟨g,off,none⟩)) (hy:a.eval y=.int .i64 i) (h0:0≤i) (h1:i<(n:Int)) (he:P.underlying t=some (.array n e)) (hs:(sizeOf e).run P w=.ok 1 w) :
  (execOp a.eval o).run P w=.ok (.value (.pointer (some ⟨g,off + i.toNat,none⟩))) w:=by
 have hz:P.elem t=e:=by simp [Program.elem,he]
 have hn:P.arrayLen t=n:=by simp [Program.arrayLen,he]
 have hu:P.underlying t=some (.array (P.arrayLen t) (P.elem t)):=by rw [hn,hz];exact he
 unfold execOp
 simp only [ho,hx,hy,Sem.run_bind,run_indexAt_array _ _ _ _ _ hu,hz,hn]
 rw [if_pos ⟨h0,h1⟩]
 simp [hs,Addr.add]
theorem rstep_c (h:Hrt) (A:Option Addr) (cap:Nat) (B:List Int) (read:Int) (failed:Bool) (w:World) (hi:ImgAt w A cap B) (hw:Wh h) (hr:U64 read) (hcz:h.cause=0) :
  Calls Tryz.prog 22 #[.agg (za2 h),.slice A B.length cap,.int .u64 read,.bool failed] w (zs5 w (stpH h B read failed) (stpD h B read failed)):=by
 have hz:=zR9 hw
 have KF:=fun x (hx:BW w x)=>zS3 A cap B h.pc x (hi.on hx) hw.pc
 have HJ:=stj_new h w
 have HC1:=zl4 hw.len (r:=0) (by omega)
 have HZ:Hid ((za2 h).setIfInBounds 1 (.int .u64 0)=za2 (zerX h)):=zl8 hw.len (r:=0) (by omega) 0
 have HP:Hid ((za2 (zerX h))[0]?=some (.int .u64 h.pc)):=zu3 _
 have HJ0:Hid (Stj w h w.heap.size (((w.alloc (.cells (za2 h) 25)).alloc (.cells #[.int .u64 0,.int .u64 0,.int .u64 0,.int .u64 0,.int .u64 0,.int .u64 0,.int .u64 0,.int .u64 0,.int .u64 0,.int .u64 0,.int .u64 0,.int .u64 0,.int .u64 0,.int .u64 0,.int .u64 0,.int .u64 0,.int .u64 0,.int .u64 0,.int .u64 0,.int .u64 0,.int .u64 0,.int .u64 0,.int .u64 0,.int .u64 0,.int .u64 0,.int .u64 0,.int .u64 0,.int .u64 0,.int .u64 0,.int .u64 0,.int .u64 0,.int .u64 0,.int .u64 0,.int .i64 0] 25)).alloc (.cells #[.int .u64 0,.int .i64 0,.int .i64 0,.int .i64 0,.int .i64 0,.int .i64 0,.bool false,.bool false,.int .i64 0,.int .i64 0,.int .i64 0,.int .u64 0,.int .u64 0,.int .u64 0,.int .u64 0,.bool false] 41))):=HJ
 have hop:I64 (fetI B h.pc).op:=by
  have hb:=(zU5 (B:=B) hz hi.2.1).1
  by_cases hc:fetC B h.pc=0
  ·rw [zf8 (h:=zerX h) hc] at hb;exact hb
  ·have:fetI B h.pc=za5:=by unfold fetI;rw [if_neg hc]
   rw [this];exact ⟨by decide,by decide⟩
 have hrs:(0≤(fetI B h.pc).rs1∧(fetI B h.pc).rs1≤31)∧(0≤(fetI B h.pc).rs2∧(fetI B h.pc).rs2≤31):=by
  have hb:=(zU5 (B:=B) hz hi.2.1).2
  by_cases hc:fetC B h.pc=0
  ·rw [zf8 (h:=zerX h) hc] at hb;exact ⟨hb.1,hb.2.1⟩
  ·have:fetI B h.pc=za5:=by unfold fetI;rw [if_neg hc]
   rw [this];exact ⟨⟨by decide,by decide⟩,⟨by decide,by decide⟩⟩
 have hx1:=zl4 hz.len (r:=(fetI B h.pc).rs1.toNat) (by omega)
 have hx2:=zl4 hz.len (r:=(fetI B h.pc).rs2.toNat) (by omega)
 have HXL:=Lib.hid hz.len
 have HX1:=Lib.hid hx1
 have HX2:=Lib.hid hx2
 clear hx1 hx2
 have hxu:=hz.x (fetI B h.pc).rs1.toNat
 have KAD:=fun x=>zu6 (fetI B h.pc) (xAt (zerX h) (fetI B h.pc).rs1) hop x
 have KWH:=fun x=>zP9 (fetI B h.pc).op (adrV (fetI B h.pc).op (fetI B h.pc).imm (xAt (zerX h) (fetI B h.pc).rs1)) B.length hop (Ze0 _ _ hxu) ⟨by omega,by have:=hi.2.2.1;omega⟩ x
 unfold insV at KAD
 have HBM:=Lib.hid (@beg_mem h B)
 have HBN:=Lib.hid (@Zd7 h B)
 have HB0:=Lib.hid (@beg_none h B)
 have KNX:=fun x=>Zh8 (fetI B h.pc) h.pc (xAt (zerX h) (fetI B h.pc).rs1) (xAt (zerX h) (fetI B h.pc).rs2) hxu (hz.x (fetI B h.pc).rs2.toNat) hop x
 have KTG:=fun x=>zP2 (fetI B h.pc) hop.1 hop.2 x
 have KRS:=fun x=>rres_any (fetI B h.pc) h.pc (xAt (zerX h) (fetI B h.pc).rs1) (xAt (zerX h) (fetI B h.pc).rs2) hop hw.pc hxu (hz.x (fetI B h.pc).rs2.toNat) x
 have HTG:=Lib.hid (tgt_nn (fetI B h.pc))
 have hc64:zc6 (8 * siz (fetI B h.pc).op)=(8 * siz (fetI B h.pc).op).toNat:=by have:=zk5 (fetI B h.pc).op;unfold zc6;omega
 have KXT:∀ x,Calls Tryz.prog 42 #[.int .u64 read,.int .i64 (8 * siz (fetI B h.pc).op)] x fun e w'=>e=.returned (.int .u64 (zx read (8 * siz (fetI B h.pc).op).toNat))∧x=w':=by
  intro x
  have:=zh6 read (8 * siz (fetI B h.pc).op) hr.1 hr.lt x
  rw [hc64] at this
  exact this
 clear hc64
 have KST:=fun x=>zN2 (fetI B h.pc).op read (xAt (zerX h) (fetI B h.pc).rs2) hop hr (hz.x (fetI B h.pc).rs2.toNat) x
 have KLO:=fun x=>zP8 (fetI B h.pc).op read hop hr x
 unfold insV at KNX KTG KRS
 have KS:=fun x=>zf0 (fetI B h.pc).op hop.1 hop.2 x
 have KZ:=fun x=>zg9 (fetI B h.pc).op hop.1 hop.2 x
 clear HJ
 unfold RetF insV at KF
 go_enter Tryz.func22,Tryz.ntmps22
 go_upto_region 1 with (fail)
 generalize (((w.alloc _).alloc _).alloc _)=w0 at *
 rw [show w.heap.size + 1 + 1=w.heap.size + 2 from rfl]
 obtain ⟨g,hg⟩:∃ g,w.heap.size=g:=⟨_,rfl⟩
 rw [hg] at HJ0 ⊢
 clear hg
 have q1:=(HJ0.out.hart.cell (1 + 0)).trans HC1
 have f1:=HJ0.out.hart.free 1
 rw [show 1 + 0=1 from rfl] at q1
 go_upto_region 2 with (fail)
 have HJ1:=HJ0.out.sh 1 _ _ HZ.out
 clear q1 f1 HC1 HJ0 HZ
 generalize (w0.setCell _ _)=w1 at *
 have q0:=(HJ1.hart.cell 0).trans HP.out
 generalize fetI B h.pc=fi at *
 generalize fetC B h.pc=fc at *
 go_upto_region 3 with (first
  | (go_at_call 17;refine (KF _ HJ1.bw).mono ?_;rintro e w2 ⟨rfl,hb2⟩;have HJ2:=HJ1.on hb2;clear hb2;obtain ⟨w3,e3,b3,HJ3,hgi⟩:=rsj_ins HJ2 fi)
  | (refine zc4 (o:=⟨none,.store _ (.tmp 10) (.tmp 27),_,_,_,_⟩) rfl 39 (.tmp 10) (.tmp 27) rfl rfl rfl e3 ?_))
 clear e3 HJ2 HJ1 q0 KF
 obtain ⟨gi,hgi2⟩:∃ z,w2.heap.size=z:=⟨_,rfl⟩
 rw [hgi2] at b3 hgi ⊢
 clear hgi2
 have q0:=(HJ3.hart.cell 0).trans HP.out
 obtain ⟨w4,e4,RJ⟩:=rsj_dn HJ3 b3 hgi ⟨h.pc,fi,0,0,0,0,0,false⟩
 have b3':=b3
 unfold za3 at e4
 unfold za0 at b3
 go_upto_region 4 with (first
  | (with_reducible refine za8 (o:=⟨some 31,_,_,_,_,_⟩) rfl 39 (.tmp 10) rfl b3 rfl Tryz.underlying39 rfl (by kernel_rfl) ?_)
  | (refine zc4 (o:=⟨none,.store _ (.tmp 12) (.tmp 32),_,_,_,_⟩) rfl 41 (.tmp 12) (.tmp 32) rfl rfl rfl e4 ?_))
 have RJ2:=RJ
 obtain ⟨gd,hgd⟩:∃ z,w3.heap.size=z:=⟨_,rfl⟩
 rw [hgd] at RJ2 ⊢
 clear hgd RJ e4 b3 b3' q0 HJ3 hgi
 have RJ4:=RJ2.drew
 clear RJ2
 refine wp_region_held (S:=fun x=>Rsj w (zerX h) fi ⟨h.pc,fi,0,0,0,0,0,false⟩ g gi gd x) (by kernel_rfl) ?_
 change wpAnyH _ _ _ _ _ _ _ _ (World.drew _)
 generalize World.drew _=w5 at *
 refine zd5 (i:=0) (oi:=⟨some 33,.fieldAddr _ (.tmp 10) 0,_,_,_,_⟩) (.pointer (some ⟨gi,0,none⟩)) rfl (by kernel_rfl) (by kernel_rfl) (by kernel_rfl) (fun _ _ _ h=>h) rfl (fun _ _=>by kernel_rfl) RJ4 ?_
 simp only [Act.put,List.setIfInBounds_toArray,List.set_cons_zero,List.set_cons_succ]
 refine zd5 (i:=1) (oi:=⟨some 34,.load _ (.tmp 33),_,_,_,_⟩) (.int .i64 fi.op) rfl (by kernel_rfl) (by kernel_rfl) (by kernel_rfl) (fun _ _ _ h=>h) rfl (fun x hx=>zb8 rfl rfl (hx.ins.cell 0) (by kernel_rfl)) RJ4 ?_
 simp only [Act.put,List.setIfInBounds_toArray,List.set_cons_zero,List.set_cons_succ]
 refine zd5 (i:=3) (oi:=⟨some 36,.fieldAddr _ (.tmp 10) 0,_,_,_,_⟩) (.pointer (some ⟨gi,0,none⟩)) rfl (by kernel_rfl) (by kernel_rfl) (by kernel_rfl) (fun _ _ _ h=>h) rfl (fun _ _=>by kernel_rfl) RJ4 ?_
 simp only [Act.put,List.setIfInBounds_toArray,List.set_cons_zero,List.set_cons_succ]
 refine zd5 (i:=4) (oi:=⟨some 37,.load _ (.tmp 36),_,_,_,_⟩) (.int .i64 fi.op) rfl (by kernel_rfl) (by kernel_rfl) (by kernel_rfl) (fun _ _ _ h=>h) rfl (fun x hx=>zb8 rfl rfl (hx.ins.cell 0) (by kernel_rfl)) RJ4 ?_
 simp only [Act.put,List.setIfInBounds_toArray,List.set_cons_zero,List.set_cons_succ]
 refine end_four 35 38 13 14 (.int .i64 (srt fi.op)) (.int .i64 (siz fi.op)) (.int .i64 (srt fi.op)) (.int .i64 (siz fi.op)) (fun x=>Rsj w (zerX h) fi ⟨h.pc,fi,0,0,0,0,0,false⟩ g gi gd x) ?_ ?_
 ·clear RJ4
  intro w6 RJ6
  simp only [Act.put,List.setIfInBounds_toArray,List.set_cons_zero,List.set_cons_succ]
  go_upto_region 5 with (fail)
  have RJ7:=RJ6.drew
  clear RJ6
  refine wp_region_held (S:=fun x=>Rsj w (zerX h) fi ⟨h.pc,fi,0,0,0,0,0,false⟩ g gi gd x) (by kernel_rfl) ?_
  change wpAnyH _ _ _ _ _ _ _ _ (World.drew _)
  generalize World.drew _=w7 at *
  refine zd5 (i:=0) (oi:=⟨some 39,.fieldAddr _ (.tmp 10) 2,_,_,_,_⟩) (.pointer (some ⟨gi,2,none⟩)) rfl (by kernel_rfl) (by kernel_rfl) (by kernel_rfl) (fun _ _ _ h=>h) rfl (fun _ _=>by kernel_rfl) RJ7 ?_
  simp only [Act.put,List.setIfInBounds_toArray,List.set_cons_zero,List.set_cons_succ]
  refine zd5 (i:=1) (oi:=⟨some 40,.load _ (.tmp 39),_,_,_,_⟩) (.int .i64 fi.rs1) rfl (by kernel_rfl) (by kernel_rfl) (by kernel_rfl) (fun _ _ _ h=>h) rfl (fun x hx=>zb8 rfl rfl (hx.ins.cell 2) (by kernel_rfl)) RJ7 ?_
  simp only [Act.put,List.setIfInBounds_toArray,List.set_cons_zero,List.set_cons_succ]
  refine zd5 (i:=2) (oi:=⟨some 41,.fieldAddr _ (.tmp 4) 1,_,_,_,_⟩) (.pointer (some ⟨g,1,none⟩)) rfl (by kernel_rfl) (by kernel_rfl) (by kernel_rfl) (fun _ _ _ h=>h) rfl (fun _ _=>by kernel_rfl) RJ7 ?_
  simp only [Act.put,List.setIfInBounds_toArray,List.set_cons_zero,List.set_cons_succ]
  refine zd5 (i:=3) (oi:=⟨some 42,.indexAddr _ (.tmp 41) (.tmp 40),_,_,_,_⟩) (.pointer (some ⟨g,1 + fi.rs1.toNat,none⟩)) rfl (by kernel_rfl) (by kernel_rfl) (by kernel_rfl) (fun _ _ _ h=>h) rfl (fun _ _=>zk9 (n:=32) rfl rfl rfl (by omega) (by omega) Tryz.underlying23 (by kernel_rfl)) RJ7 ?_
  simp only [Act.put,List.setIfInBounds_toArray,List.set_cons_zero,List.set_cons_succ]
  refine zd5 (i:=4) (oi:=⟨some 43,.load _ (.tmp 42),_,_,_,_⟩) (.int .u64 (xAt (zerX h) fi.rs1)) rfl (by kernel_rfl) (by kernel_rfl) (by kernel_rfl) (fun _ _ _ h=>h) rfl (fun x hx=>zb8 rfl rfl ((hx.s.hart.cell _).trans HX1.out) (by kernel_rfl)) RJ7 ?_
  simp only [Act.put,List.setIfInBounds_toArray,List.set_cons_zero,List.set_cons_succ]
  refine zd5 (i:=5) (oi:=⟨some 44,.fieldAddr _ (.tmp 10) 3,_,_,_,_⟩) (.pointer (some ⟨gi,3,none⟩)) rfl (by kernel_rfl) (by kernel_rfl) (by kernel_rfl) (fun _ _ _ h=>h) rfl (fun _ _=>by kernel_rfl) RJ7 ?_
  simp only [Act.put,List.setIfInBounds_toArray,List.set_cons_zero,List.set_cons_succ]
  refine zd5 (i:=6) (oi:=⟨some 45,.load _ (.tmp 44),_,_,_,_⟩) (.int .i64 fi.rs2) rfl (by kernel_rfl) (by kernel_rfl) (by kernel_rfl) (fun _ _ _ h=>h) rfl (fun x hx=>zb8 rfl rfl (hx.ins.cell 3) (by kernel_rfl)) RJ7 ?_
  simp only [Act.put,List.setIfInBounds_toArray,List.set_cons_zero,List.set_cons_succ]
  refine zd5 (i:=7) (oi:=⟨some 46,.fieldAddr _ (.tmp 4) 1,_,_,_,_⟩) (.pointer (some ⟨g,1,none⟩)) rfl (by kernel_rfl) (by kernel_rfl) (by kernel_rfl) (fun _ _ _ h=>h) rfl (fun _ _=>by kernel_rfl) RJ7 ?_
  simp only [Act.put,List.setIfInBounds_toArray,List.set_cons_zero,List.set_cons_succ]
  refine zd5 (i:=8) (oi:=⟨some 47,.indexAddr _ (.tmp 46) (.tmp 45),_,_,_,_⟩) (.pointer (some ⟨g,1 + fi.rs2.toNat,none⟩)) rfl (by kernel_rfl) (by kernel_rfl) (by kernel_rfl) (fun _ _ _ h=>h) rfl (fun _ _=>zk9 (n:=32) rfl rfl rfl (by omega) (by omega) Tryz.underlying23 (by kernel_rfl)) RJ7 ?_
  simp only [Act.put,List.setIfInBounds_toArray,List.set_cons_zero,List.set_cons_succ]
  refine zd5 (i:=9) (oi:=⟨some 48,.load _ (.tmp 47),_,_,_,_⟩) (.int .u64 (xAt (zerX h) fi.rs2)) rfl (by kernel_rfl) (by kernel_rfl) (by kernel_rfl) (fun _ _ _ h=>h) rfl (fun x hx=>zb8 rfl rfl ((hx.s.hart.cell _).trans HX2.out) (by kernel_rfl)) RJ7 ?_
  simp only [Act.put,List.setIfInBounds_toArray,List.set_cons_zero,List.set_cons_succ]
  refine zd5 (i:=10) (oi:=⟨some 15,.assign (.tmp 43),_,_,_,_⟩) (.int .u64 (xAt (zerX h) fi.rs1)) rfl (by kernel_rfl) (by kernel_rfl) (by kernel_rfl) (fun _ _ _ h=>h) rfl (fun _ _=>rfl) RJ7 ?_
  simp only [Act.put,List.setIfInBounds_toArray,List.set_cons_zero,List.set_cons_succ]
  refine zd5 (i:=11) (oi:=⟨some 16,.assign (.tmp 48),_,_,_,_⟩) (.int .u64 (xAt (zerX h) fi.rs2)) rfl (by kernel_rfl) (by kernel_rfl) (by kernel_rfl) (fun _ _ _ h=>h) rfl (fun _ _=>rfl) RJ7 ?_
  simp only [Act.put,List.setIfInBounds_toArray,List.set_cons_zero,List.set_cons_succ]
  refine wpAnyH_done (by kernel_rfl) ?_ _
  have c0:w7.cell? ⟨gi,0,none⟩=some (.int .i64 fi.op):=RJ7.ins.cell 0
  have hI:=RJ7.ins
  unfold za0 at hI
  generalize hra:xAt (zerX h) fi.rs1=ra at *
  generalize hrb:xAt (zerX h) fi.rs2=rb at *
  have HRA:=Lib.hid hra
  have HRB:=Lib.hid hrb
  clear hra hrb
  by_cases hs:siz fi.op=0
  ·have hw7:BW w w7:=RJ7.s.bw
   by_cases hfc:fc=0
   ·by_cases h52:fi.op=52
    ·have h52b:(fi.op == 52)=true:=by simpa using h52
     have h53b:(fi.op == 53)=false:=by rw [h52];rfl
     have HQ4 : Hid (∀ e w', BW w w' → e = Ending.returned (.tuple #[.agg (za2 ⟨h.pc, (zerX h).x, 1⟩), .agg (za3 ⟨h.pc, fi, 1, 0, 0, 0, 0, false⟩)]) → zs5 w (stpH h B read failed) (stpD h B read failed) e w') := by
      intro e w' hb he
      have h2:=HBN.out hs hfc
      rw [if_pos h52] at h2
      obtain ⟨e1,e2⟩:=zr8 hcz h2 (by simp) read failed
      rw [e1,e2]
      exact ⟨he,hb⟩
     have c10:w7.cell? ⟨gd,10,none⟩=some (.int .i64 0):=RJ7.dn.cell 10
     have f10:=RJ7.dn.free 10
     go_upto_region 19 with (fail)
     have RJ11:=RJ7.sd 10 (.int .i64 1) ⟨h.pc,fi,1,0,0,0,0,false⟩ rfl
     clear RJ7 c10 f10 hI c0
     generalize w7.setCell _ _=w11 at *
     have c33:=(RJ11.s.hart.cell 33).trans (zg3 HXL.out)
     have f33:=RJ11.s.hart.free 33
     go_upto_region 20 with (fail)
     have RJ12:=RJ11.sh 33 (.int .i64 1) ⟨h.pc,(zerX h).x,1⟩ (zh1 HXL.out 1)
     clear RJ11 c33 f33
     generalize w11.setCell _ _=w12 at *
     have RD:=RJ12.drew
     refine wp_region_held (S:=fun x=>Rsj w ⟨h.pc,(zerX h).x,1⟩ fi ⟨h.pc,fi,1,0,0,0,0,false⟩ g gi gd x) (by kernel_rfl) ?_
     change wpAnyH _ _ _ _ _ _ _ _ (World.drew _)
     generalize World.drew _=wz at *
     refine zc8 (i:=0) (oi:=⟨some 78,.load 25 (.tmp 4),_,_,_,_⟩) rfl (by kernel_rfl) (by kernel_rfl) (by kernel_rfl) (fun _ _ _ h=>h) rfl 25 (.tmp 4) rfl rfl (fun x hx=>hx.s.hart) Tryz.underlying25 rfl (zb3 HXL.out) RD ?_
     simp only [Act.put,List.setIfInBounds_toArray,List.set_cons_zero,List.set_cons_succ]
     refine zc8 (i:=1) (oi:=⟨some 79,.load 41 (.tmp 12),_,_,_,_⟩) rfl (by kernel_rfl) (by kernel_rfl) (by kernel_rfl) (fun _ _ _ h=>h) rfl 41 (.tmp 12) rfl rfl (fun x hx=>hx.dn) Tryz.underlying41 rfl (by kernel_rfl) RD ?_
     simp only [Act.put,List.setIfInBounds_toArray,List.set_cons_zero,List.set_cons_succ]
     refine zf2 (i:=2) (by kernel_rfl) ?_
     refine ze4 (oi:=⟨none,.store _ (.tmp 8) (.tmp 78),_,_,_,_⟩) rfl rfl rfl 25 (.tmp 8) (.tmp 78) rfl rfl rfl (zb3 HXL.out) (zb6 HXL.out) (zg5 _) RD.s.r1 ?_
     intro wa ba ka
     have RA:=RD.put1 ka (Has.of ba (zb6 HXL.out))
     refine ⟨RA,?_⟩
     refine zf2 (i:=3) (by kernel_rfl) ?_
     refine ze4 (oi:=⟨none,.store _ (.tmp 9) (.tmp 79),_,_,_,_⟩) rfl rfl rfl 41 (.tmp 9) (.tmp 79) rfl rfl rfl (by kernel_rfl) rfl (zj0 _) RA.s.r2 ?_
     intro wb bb kb
     have RB:=RA.put2 kb (Has.of bb rfl)
     refine ⟨RB,?_⟩
     have ba2:=ba.far kb (by omega)
     refine wpAnyH_done (by kernel_rfl) ?_ _
     clear RD RA ba ka kb
     go_wp2
     try rw [Exit.noGoto_ret]
     refine bodyPost_ret (zd6 rfl rfl rfl ba2 bb Tryz.underlying25 rfl (zb3 HXL.out) Tryz.underlying41 rfl (by kernel_rfl)) rfl ?_
     exact HQ4.out _ _ (RB.s.bw) rfl
    ·by_cases h53:fi.op=53
     ·have h52b:(fi.op == 52)=false:=by simpa using h52
      have h53b:(fi.op == 53)=true:=by simpa using h53
      have HQ4 : Hid (∀ e w', BW w w' → e = Ending.returned (.tuple #[.agg (za2 ⟨h.pc, (zerX h).x, 2⟩), .agg (za3 ⟨h.pc, fi, 2, 0, 0, 0, 0, false⟩)]) → zs5 w (stpH h B read failed) (stpD h B read failed) e w') := by
       intro e w' hb he
       have h2:=HBN.out hs hfc
       rw [if_neg h52,if_pos h53] at h2
       obtain ⟨e1,e2⟩:=zr8 hcz h2 (by simp) read failed
       rw [e1,e2]
       exact ⟨he,hb⟩
      have c10:w7.cell? ⟨gd,10,none⟩=some (.int .i64 0):=RJ7.dn.cell 10
      have f10:=RJ7.dn.free 10
      go_upto_region 19 with (fail)
      have RJ11:=RJ7.sd 10 (.int .i64 2) ⟨h.pc,fi,2,0,0,0,0,false⟩ rfl
      clear RJ7 c10 f10 hI c0
      generalize w7.setCell _ _=w11 at *
      have c33:=(RJ11.s.hart.cell 33).trans (zg3 HXL.out)
      have f33:=RJ11.s.hart.free 33
      go_upto_region 20 with (fail)
      have RJ12:=RJ11.sh 33 (.int .i64 2) ⟨h.pc,(zerX h).x,2⟩ (zh1 HXL.out 2)
      clear RJ11 c33 f33
      generalize w11.setCell _ _=w12 at *
      have RD:=RJ12.drew
      refine wp_region_held (S:=fun x=>Rsj w ⟨h.pc,(zerX h).x,2⟩ fi ⟨h.pc,fi,2,0,0,0,0,false⟩ g gi gd x) (by kernel_rfl) ?_
      change wpAnyH _ _ _ _ _ _ _ _ (World.drew _)
      generalize World.drew _=wz at *
      refine zc8 (i:=0) (oi:=⟨some 78,.load 25 (.tmp 4),_,_,_,_⟩) rfl (by kernel_rfl) (by kernel_rfl) (by kernel_rfl) (fun _ _ _ h=>h) rfl 25 (.tmp 4) rfl rfl (fun x hx=>hx.s.hart) Tryz.underlying25 rfl (zb3 HXL.out) RD ?_
      simp only [Act.put,List.setIfInBounds_toArray,List.set_cons_zero,List.set_cons_succ]
      refine zc8 (i:=1) (oi:=⟨some 79,.load 41 (.tmp 12),_,_,_,_⟩) rfl (by kernel_rfl) (by kernel_rfl) (by kernel_rfl) (fun _ _ _ h=>h) rfl 41 (.tmp 12) rfl rfl (fun x hx=>hx.dn) Tryz.underlying41 rfl (by kernel_rfl) RD ?_
      simp only [Act.put,List.setIfInBounds_toArray,List.set_cons_zero,List.set_cons_succ]
      refine zf2 (i:=2) (by kernel_rfl) ?_
      refine ze4 (oi:=⟨none,.store _ (.tmp 8) (.tmp 78),_,_,_,_⟩) rfl rfl rfl 25 (.tmp 8) (.tmp 78) rfl rfl rfl (zb3 HXL.out) (zb6 HXL.out) (zg5 _) RD.s.r1 ?_
      intro wa ba ka
      have RA:=RD.put1 ka (Has.of ba (zb6 HXL.out))
      refine ⟨RA,?_⟩
      refine zf2 (i:=3) (by kernel_rfl) ?_
      refine ze4 (oi:=⟨none,.store _ (.tmp 9) (.tmp 79),_,_,_,_⟩) rfl rfl rfl 41 (.tmp 9) (.tmp 79) rfl rfl rfl (by kernel_rfl) rfl (zj0 _) RA.s.r2 ?_
      intro wb bb kb
      have RB:=RA.put2 kb (Has.of bb rfl)
      refine ⟨RB,?_⟩
      have ba2:=ba.far kb (by omega)
      refine wpAnyH_done (by kernel_rfl) ?_ _
      clear RD RA ba ka kb
      go_wp2
      try rw [Exit.noGoto_ret]
      refine bodyPost_ret (zd6 rfl rfl rfl ba2 bb Tryz.underlying25 rfl (zb3 HXL.out) Tryz.underlying41 rfl (by kernel_rfl)) rfl ?_
      exact HQ4.out _ _ (RB.s.bw) rfl
     ·have hbd:=HBN.out hs hfc
      rw [if_neg h52,if_neg h53] at hbd
      subst hfc
      have h52b:(fi.op == 52)=false:=by simpa using h52
      have h53b:(fi.op == 53)=false:=by simpa using h53
      clear HBM HBN HB0 h52 h53
      have KX2:∀ x,Calls Tryz.prog 42 #[.int .u64 read,.int .i64 0] x fun e w'=>e=.returned (.int .u64 (zx read (8 * (0:Int)).toNat))∧x=w':=by
       intro x
       have:=KXT x
       rw [hs] at this
       exact this
      clear KXT
      have KXT:=KX2
      clear KX2 KWH
      rw [hs]
      generalize hso:srt fi.op=so at *
      have HSO:=Lib.hid hso
      have HSZ:=Lib.hid hs
      clear hso hs hI c0
      have KWH:=HSZ
      have c0:w7.cell? ⟨gi,0,none⟩=some (.int .i64 fi.op):=RJ7.ins.cell 0
      go_upto_region 21 with (fail)
      have e8:=HSZ
      clear KAD KWH HX1 HX2
      obtain ⟨lb,hlb⟩:∃ b:Bool,b=decide (so=4∨so=10∨so=12):=⟨_,rfl⟩
      obtain ⟨fb,hfb⟩:∃ b:Bool,b=(failed && decide (so=11)):=⟨_,rfl⟩
      obtain ⟨tb,htb⟩:∃ b:Bool,b=(decide (so=5∨so=11∨so=12) && !fb):=⟨_,rfl⟩
      obtain ⟨rd,hrd⟩:∃ v:Int,v=if lb=true then zx read (8 * (0:Int)).toNat else 0:=⟨_,rfl⟩
      obtain ⟨wr,hwr⟩:∃ v:Int,v=if tb=true then stoV fi.op read rb else 0:=⟨_,rfl⟩
      obtain ⟨vl,hvl⟩:∃ v:Int,v=if lb=true then loaV fi.op read else if so=11 then (if failed=true then 1 else 0) else resV fi.op fi.imm h.pc ra rb:=⟨_,rfl⟩
      have HGEN:Hid (stpH h B read failed=⟨nxtV fi.op fi.imm h.pc ra rb,if tgt fi=0 then (zerX h).x else (zerX h).x.set (tgt fi).toNat vl,(zerX h).cause⟩∧stpD h B read failed=⟨h.pc,fi,0,if tgt fi=0 then 0 else vl,0,rd,wr,fb⟩):=by
       have e:=Zb2 hcz hbd read failed
       have e1:redL fi.op read=rd:=by unfold redL ldsB;rw [HSO.out,HSZ.out,hrd,hlb]
       have e2:faiL fi.op failed=fb:=by unfold faiL;rw [HSO.out,hfb]
       have e3:wroL fi.op read rb failed=wr:=by unfold wroL stsB;rw [e2,HSO.out,hwr,htb]
       have e4:valR fi.op fi.imm h.pc ra rb read failed=vl:=by unfold valR ldsB;rw [HSO.out,hvl,hlb]
       rw [HRA.out,HRB.out,e1,e2,e3,e4] at e
       exact Lib.hid e
      have HLB:=Lib.hid hlb
      have HFB:=Lib.hid hfb
      have HTB:=Lib.hid htb
      have HRD:=Lib.hid hrd
      have HWR:=Lib.hid hwr
      have HVL:=Lib.hid hvl
      clear hlb hfb htb hrd hwr hvl hbd
      have RK:=RJ7
      clear RJ7
      -- loads
      go_cut [18] from 80 to 89 (fun s18 wx=>s18=.bool lb∧Rsj w (zerX h) fi ⟨h.pc,fi,0,0,0,0,0,false⟩ g gi gd wx)
      case first =>
       clear KNX KTG KRS KS KZ KXT KST KLO HRD HWR HVL HGEN
       by_cases q4:so=4
       ·have a4:(so == 4)=true:=by rw [q4];rfl
        have HL2:Hid (true=lb):=Lib.hid (by rw [HLB.out,q4];rfl)
        clear q4 HLB
        go_wp2
        go_meet
        case rel=>exact ⟨congrArg Value.bool HL2.out,RK⟩
       ·have a4:(so == 4)=false:=by simpa using q4
        by_cases q10:so=10
        ·have a10:(so == 10)=true:=by rw [q10];rfl
         have HL2:Hid (true=lb):=Lib.hid (by rw [HLB.out,q10];rfl)
         clear q10 q4 HLB
         go_wp2
         go_meet
         case rel=>exact ⟨congrArg Value.bool HL2.out,RK⟩
        ·have a10:(so == 10)=false:=by simpa using q10
         by_cases q12:so=12
         ·have a12:(so == 12)=true:=by rw [q12];rfl
          have HL2:Hid (true=lb):=Lib.hid (by rw [HLB.out,q12];rfl)
          clear q10 q4 q12 HLB
          go_wp2
          go_meet
          case rel=>exact ⟨congrArg Value.bool HL2.out,RK⟩
         ·have a12:(so == 12)=false:=by simpa using q12
          have HL2:Hid (false=lb):=Lib.hid (by rw [HLB.out];simp [q4,q10,q12])
          clear q10 q4 q12 HLB
          go_wp2
          go_meet
          case rel=>exact ⟨congrArg Value.bool HL2.out,RK⟩
      case rest =>
       obtain ⟨rfl,RL⟩:=hcut
       clear RK
       go_upto_if 90 with (fail)
       go_cut [18] from 91 to 95 (fun s18 wx=>s18=.bool lb∧Rsj w (zerX h) fi ⟨h.pc,fi,0,0,0,rd,0,false⟩ g gi gd wx)
       case first =>
        clear KNX KTG KRS KS KZ KST KLO HWR HVL HGEN HLB HFB HTB
        cases lb
        ·have HR2:Hid (rd=0):=Lib.hid (by rw [HRD.out];rfl)
         clear HRD KXT
         go_wp2
         go_meet
         case rel=>exact ⟨rfl,by rw [HR2.out];exact RL⟩
        ·have HR2:Hid (rd=zx read (8 * (0:Int)).toNat):=Lib.hid (by rw [HRD.out];rfl)
         clear HRD
         generalize zx read (8 * (0:Int)).toNat=zv at *
         have c13:World.cell? _ ⟨gd,13,none⟩=some (.int .u64 0):=RL.dn.cell 13
         have f13:=RL.dn.free 13
         go_wp2_with (first
          | (go_at_call 42;refine (KXT _).mono ?_;rintro e w21 ⟨rfl,rfl⟩))
         go_meet
         case rel=>exact ⟨rfl,by rw [HR2.out];exact RL.sd 13 (.int .u64 zv) ⟨h.pc,fi,0,0,0,zv,0,false⟩ rfl⟩
       case rest =>
        obtain ⟨rfl,RM⟩:=hcut
        clear RL KXT HRD e8
        -- failed
        go_upto_if 97 with (fail)
        go_cut [18] from 96 to 99 (fun s18 wx=>s18=.bool lb∧Rsj w (zerX h) fi ⟨h.pc,fi,0,0,0,rd,0,fb⟩ g gi gd wx)
        case first =>
         clear KNX KTG KRS KS KZ KST KLO HWR HVL HGEN HLB HTB
         by_cases q11:so=11
         ·have a11:(so == 11)=true:=by rw [q11];rfl
          have HR2:Hid (fb=failed):=Lib.hid (by rw [HFB.out,q11];cases failed <;> rfl)
          clear HFB q11
          have c15:World.cell? _ ⟨gd,15,none⟩=some (.bool false):=RM.dn.cell 15
          have f15:=RM.dn.free 15
          go_wp2
          go_meet
          case rel=>exact ⟨rfl,by rw [HR2.out];exact RM.sd 15 (.bool failed) ⟨h.pc,fi,0,0,0,rd,0,failed⟩ rfl⟩
         ·have a11:(so == 11)=false:=by simpa using q11
          have HR2:Hid (fb=false):=Lib.hid (by rw [HFB.out];cases failed <;> simp [q11])
          clear HFB q11
          go_wp2
          go_meet
          case rel=>exact ⟨rfl,by rw [HR2.out];exact RM⟩
        case rest =>
         obtain ⟨rfl,RN⟩:=hcut
         clear RM
         -- stores
         go_upto_region 26 with (fail)
         go_cut [113] from 100 to 113 (fun s13 wx=>s13=.bool tb∧Rsj w (zerX h) fi ⟨h.pc,fi,0,0,0,rd,0,fb⟩ g gi gd wx)
         case first =>
          clear KNX KTG KRS KS KZ KST KLO HWR HVL HGEN HLB
          by_cases q5:so=5
          ·have a5:(so == 5)=true:=by rw [q5];rfl
           have HL2:Hid (true=tb):=Lib.hid (by rw [HTB.out,HFB.out,q5];cases failed <;> rfl)
           clear q5 HTB HFB
           go_wp2
           go_meet
           case rel=>exact ⟨congrArg Value.bool HL2.out,RN⟩
          ·have a5:(so == 5)=false:=by simpa using q5
           by_cases q12:so=12
           ·have a12:(so == 12)=true:=by rw [q12];rfl
            have HL2:Hid (true=tb):=Lib.hid (by rw [HTB.out,HFB.out,q12];cases failed <;> rfl)
            clear q5 q12 HTB HFB
            go_wp2
            go_meet
            case rel=>exact ⟨congrArg Value.bool HL2.out,RN⟩
           ·have a12:(so == 12)=false:=by simpa using q12
            by_cases q11:so=11
            ·have a11:(so == 11)=true:=by rw [q11];rfl
             have HL2:Hid ((!failed)=tb):=Lib.hid (by rw [HTB.out,HFB.out,q11];cases failed <;> rfl)
             clear q5 q12 q11 HTB HFB
             cases failed
             ·go_wp2
              go_meet
              case rel=>exact ⟨congrArg Value.bool HL2.out,RN⟩
             ·go_wp2
              go_meet
              case rel=>exact ⟨congrArg Value.bool HL2.out,RN⟩
            ·have a11:(so == 11)=false:=by simpa using q11
             have HL2:Hid (false=tb):=Lib.hid (by rw [HTB.out];simp [q5,q11,q12])
             clear q5 q11 q12 HTB HFB
             go_wp2
             go_meet
             case rel=>exact ⟨congrArg Value.bool HL2.out,RN⟩
         case rest =>
          obtain ⟨rfl,RO⟩:=hcut
          clear RN
          go_upto_if 113 with (fail)
          go_cut [18] from 114 to 119 (fun s18 wx=>s18=.bool lb∧Rsj w (zerX h) fi ⟨h.pc,fi,0,0,0,rd,wr,fb⟩ g gi gd wx)
          case first =>
           clear KNX KTG KRS KS KZ KLO HVL HGEN HLB HFB HTB
           cases tb
           ·have HR2:Hid (wr=0):=Lib.hid (by rw [HWR.out];rfl)
            clear HWR KST
            go_wp2
            go_meet
            case rel=>exact ⟨rfl,by rw [HR2.out];exact RO⟩
           ·have HR2:Hid (wr=stoV fi.op read rb):=Lib.hid (by rw [HWR.out];rfl)
            clear HWR
            generalize stoV fi.op read rb=sv at *
            have c0:World.cell? _ ⟨gi,0,none⟩=some (.int .i64 fi.op):=RO.ins.cell 0
            have c14:World.cell? _ ⟨gd,14,none⟩=some (.int .u64 0):=RO.dn.cell 14
            have f14:=RO.dn.free 14
            go_wp2_with (first
             | (go_at_call 43;refine (KST _).mono ?_;rintro e w21 ⟨rfl,hb⟩;have RO2:=RO.on hb;clear hb c0 c14 f14;have c14:w21.cell? ⟨gd,14,none⟩=some (.int .u64 0):=RO2.dn.cell 14;have f14:=RO2.dn.free 14))
            go_meet
            case rel=>exact ⟨rfl,by rw [HR2.out];exact RO2.sd 14 (.int .u64 sv) ⟨h.pc,fi,0,0,0,rd,sv,fb⟩ rfl⟩
          case rest =>
           obtain ⟨rfl,RP⟩:=hcut
           clear RO KST HWR HTB HFB
           generalize hw22:wc=w22 at *
           clear hw22
           -- what is next
           go_upto_region 28 with (fail)
           have hI:=RP.ins
           unfold za0 at hI
           have p0:w22.cell? ⟨gd,0,none⟩=some (.int .u64 h.pc):=RP.dn.cell 0
           go_upto_region 29 with (first
            | (with_reducible refine za8 (o:=⟨some 120,_,_,_,_,_⟩) rfl 39 (.tmp 10) rfl hI rfl Tryz.underlying39 rfl (by kernel_rfl) ?_)
            | (go_at_call 44;refine (KNX _).mono ?_;rintro e w23 ⟨rfl,hb⟩;have RQ:=RP.on hb;clear hb p0 hI;have p0:w23.cell? ⟨g,0,none⟩=some (.int .u64 h.pc):=(RQ.s.hart.cell 0).trans HP.out;have f0:=RQ.s.hart.free 0))
           generalize nxtV fi.op fi.imm h.pc ra rb=nx at *
           have RR:=RQ.sh 0 (.int .u64 nx) ⟨nx,(zerX h).x,(zerX h).cause⟩ (zt7 _ _)
           clear RQ RP p0 f0 KNX
           generalize w23.setCell _ _=w24 at *
           have hI:=RR.ins
           unfold za0 at hI
           go_upto_region 30 with (first
            | (with_reducible refine za8 (o:=⟨some 127,_,_,_,_,_⟩) rfl 39 (.tmp 10) rfl hI rfl Tryz.underlying39 rfl (by kernel_rfl) ?_)
            | (go_at_call 45;refine (KTG _).mono ?_;rintro e w25 ⟨rfl,hb⟩;have RS:=RR.on hb;clear hb hI))
           clear RR KTG
           by_cases htg:tgt fi=0
           ·have htb:(tgt fi == 0)=true:=by simpa using htg
            have HQ6 : Hid (∀ e w', BW w w' → e = Ending.returned (.tuple #[.agg (za2 ⟨nx, (zerX h).x, (zerX h).cause⟩), .agg (za3 ⟨h.pc, fi, 0, 0, 0, rd, wr, fb⟩)]) → zs5 w (stpH h B read failed) (stpD h B read failed) e w') := by
             intro e w' hb he
             obtain ⟨e1,e2⟩:=HGEN.out
             rw [if_pos htg] at e1
             rw [if_pos htg] at e2
             rw [e1,e2]
             exact ⟨he,hb⟩
            clear htg HGEN
            go_upto_region 31 with (fail)
            have RD:=RS.drew
            refine wp_region_held (S:=fun x=>Rsj w ⟨nx,(zerX h).x,(zerX h).cause⟩ fi ⟨h.pc,fi,0,0,0,rd,wr,fb⟩ g gi gd x) (by kernel_rfl) ?_
            change wpAnyH _ _ _ _ _ _ _ _ (World.drew _)
            generalize World.drew _=wz at *
            refine zc8 (i:=0) (oi:=⟨some 131,.load 25 (.tmp 4),_,_,_,_⟩) rfl (by kernel_rfl) (by kernel_rfl) (by kernel_rfl) (fun _ _ _ h=>h) rfl 25 (.tmp 4) rfl rfl (fun x hx=>hx.s.hart) Tryz.underlying25 rfl (zb3 HXL.out) RD ?_
            simp only [Act.put,List.setIfInBounds_toArray,List.set_cons_zero,List.set_cons_succ]
            refine zc8 (i:=1) (oi:=⟨some 132,.load 41 (.tmp 12),_,_,_,_⟩) rfl (by kernel_rfl) (by kernel_rfl) (by kernel_rfl) (fun _ _ _ h=>h) rfl 41 (.tmp 12) rfl rfl (fun x hx=>hx.dn) Tryz.underlying41 rfl (by kernel_rfl) RD ?_
            simp only [Act.put,List.setIfInBounds_toArray,List.set_cons_zero,List.set_cons_succ]
            refine zf2 (i:=2) (by kernel_rfl) ?_
            refine ze4 (oi:=⟨none,.store _ (.tmp 8) (.tmp 131),_,_,_,_⟩) rfl rfl rfl 25 (.tmp 8) (.tmp 131) rfl rfl rfl (zb3 HXL.out) (zb6 HXL.out) (zg5 _) RD.s.r1 ?_
            intro wa ba ka
            have RA:=RD.put1 ka (Has.of ba (zb6 HXL.out))
            refine ⟨RA,?_⟩
            refine zf2 (i:=3) (by kernel_rfl) ?_
            refine ze4 (oi:=⟨none,.store _ (.tmp 9) (.tmp 132),_,_,_,_⟩) rfl rfl rfl 41 (.tmp 9) (.tmp 132) rfl rfl rfl (by kernel_rfl) rfl (zj0 _) RA.s.r2 ?_
            intro wb bb kb
            have RB:=RA.put2 kb (Has.of bb rfl)
            refine ⟨RB,?_⟩
            have ba2:=ba.far kb (by omega)
            refine wpAnyH_done (by kernel_rfl) ?_ _
            clear RD RA ba ka kb
            go_wp2
            try rw [Exit.noGoto_ret]
            refine bodyPost_ret (zd6 rfl rfl rfl ba2 bb Tryz.underlying25 rfl (zb3 HXL.out) Tryz.underlying41 rfl (by kernel_rfl)) rfl ?_
            exact HQ6.out _ _ (RB.s.bw) rfl
           ·have htb:(tgt fi == 0)=false:=by simpa using htg
            have HQ7 : Hid (∀ e w', BW w w' → e = Ending.returned (.tuple #[.agg (za2 ⟨nx, (zerX h).x.set (tgt fi).toNat vl, (zerX h).cause⟩), .agg (za3 ⟨h.pc, fi, 0, vl, 0, rd, wr, fb⟩)]) → zs5 w (stpH h B read failed) (stpD h B read failed) e w') := by
             intro e w' hb he
             obtain ⟨e1,e2⟩:=HGEN.out
             rw [if_neg htg] at e1
             rw [if_neg htg] at e2
             rw [e1,e2]
             exact ⟨he,hb⟩
            clear htg HGEN
            go_upto_block 0 with (fail)
            go_cut [18] from 133 to 156 (fun s18 wx=>s18=.bool lb∧Rsj w ⟨nx,(zerX h).x,(zerX h).cause⟩ fi ⟨h.pc,fi,0,vl,0,rd,wr,fb⟩ g gi gd wx)
            case first =>
             clear HQ7 HLB
             have c11:w25.cell? ⟨gd,11,none⟩=some (.int .u64 0):=RS.dn.cell 11
             have f11:=RS.dn.free 11
             cases lb
             ·by_cases q11:so=11
              ·have a11:(so == 11)=true:=by rw [q11];rfl
               have b11:(so != 11)=false:=by rw [q11];rfl
               cases failed
               ·have HR2:Hid (vl=0):=Lib.hid (by rw [HVL.out,if_neg (by simp),if_pos q11];rfl)
                clear HVL q11
                go_wp2
                go_meet
                case rel=>exact ⟨rfl,by rw [HR2.out];exact RS⟩
               ·have HR2:Hid (vl=1):=Lib.hid (by rw [HVL.out,if_neg (by simp),if_pos q11];rfl)
                clear HVL q11
                go_wp2
                go_meet
                case rel=>exact ⟨rfl,by rw [HR2.out];exact RS.sd 11 (.int .u64 1) ⟨h.pc,fi,0,1,0,rd,wr,fb⟩ rfl⟩
              ·have a11:(so == 11)=false:=by simpa using q11
               have b11:(so != 11)=true:=by simpa using q11
               have HR2:Hid (vl=resV fi.op fi.imm h.pc ra rb):=Lib.hid (by rw [HVL.out,if_neg (by simp),if_neg q11])
               clear HVL q11
               generalize resV fi.op fi.imm h.pc ra rb=rv at *
               have hI:=RS.ins
               unfold za0 at hI
               have p0:w25.cell? ⟨gd,0,none⟩=some (.int .u64 h.pc):=RS.dn.cell 0
               go_wp2_with (first
                | (with_reducible refine za8 (o:=⟨some 150,_,_,_,_,_⟩) rfl 39 (.tmp 10) rfl hI rfl Tryz.underlying39 rfl (by kernel_rfl) ?_)
                | (go_at_call 47;refine (KRS _).mono ?_;rintro e w26 ⟨rfl,hb⟩;have RT:=RS.on hb;clear hb p0 hI c11 f11;have c11:w26.cell? ⟨gd,11,none⟩=some (.int .u64 0):=RT.dn.cell 11;have f11:=RT.dn.free 11))
               go_meet
               case rel=>exact ⟨rfl,by rw [HR2.out];exact RT.sd 11 (.int .u64 rv) ⟨h.pc,fi,0,rv,0,rd,wr,fb⟩ rfl⟩
             ·have HR2:Hid (vl=loaV fi.op read):=Lib.hid (by rw [HVL.out,if_pos rfl])
              clear HVL KRS
              generalize loaV fi.op read=lv at *
              have c0:w25.cell? ⟨gi,0,none⟩=some (.int .i64 fi.op):=RS.ins.cell 0
              go_wp2_with (first
               | (go_at_call 46;refine (KLO _).mono ?_;rintro e w26 ⟨rfl,hb⟩;have RT:=RS.on hb;clear hb c0 c11 f11;have c11:w26.cell? ⟨gd,11,none⟩=some (.int .u64 0):=RT.dn.cell 11;have f11:=RT.dn.free 11))
              go_meet
              case rel=>exact ⟨rfl,by rw [HR2.out];exact RT.sd 11 (.int .u64 lv) ⟨h.pc,fi,0,lv,0,rd,wr,fb⟩ rfl⟩
            case rest =>
             obtain ⟨rfl,RU⟩:=hcut
             clear RS HVL KRS KLO
             generalize hw27:wc=w27 at *
             clear hw27
             have c11:w27.cell? ⟨gd,11,none⟩=some (.int .u64 vl):=RU.dn.cell 11
             have hxl2:({ pc:=nx,x:=(zerX h).x,cause:=(zerX h).cause }:Hrt).x.length=32:=HXL.out
             have ct:=(RU.s.hart.cell (1 + (tgt fi).toNat)).trans (zl4 hxl2 (by have:=HTG.out;omega))
             have ft:=RU.s.hart.free (1 + (tgt fi).toNat)
             have ht0:=HTG.out.1
             have ht1:tgt fi<32:=by have:=HTG.out.2;omega
             go_upto_region 39 with (fail)
             have RV:=RU.sh (1 + (tgt fi).toNat) (.int .u64 vl) ⟨nx,(zerX h).x.set (tgt fi).toNat vl,(zerX h).cause⟩ (zl8 hxl2 (by omega) vl)
             clear RU c11 ct ft
             generalize w27.setCell _ _=w28 at *
             have HXM:Hid (((zerX h).x.set (tgt fi).toNat vl).length=32):=by show _=_;rw [List.length_set];exact HXL.out
             have RD:=RV.drew
             refine wp_region_held (S:=fun x=>Rsj w ⟨nx,(zerX h).x.set (tgt fi).toNat vl,(zerX h).cause⟩ fi ⟨h.pc,fi,0,vl,0,rd,wr,fb⟩ g gi gd x) (by kernel_rfl) ?_
             change wpAnyH _ _ _ _ _ _ _ _ (World.drew _)
             generalize World.drew _=wz at *
             refine zc8 (i:=0) (oi:=⟨some 162,.load 25 (.tmp 4),_,_,_,_⟩) rfl (by kernel_rfl) (by kernel_rfl) (by kernel_rfl) (fun _ _ _ h=>h) rfl 25 (.tmp 4) rfl rfl (fun x hx=>hx.s.hart) Tryz.underlying25 rfl (zb3 HXM.out) RD ?_
             simp only [Act.put,List.setIfInBounds_toArray,List.set_cons_zero,List.set_cons_succ]
             refine zc8 (i:=1) (oi:=⟨some 163,.load 41 (.tmp 12),_,_,_,_⟩) rfl (by kernel_rfl) (by kernel_rfl) (by kernel_rfl) (fun _ _ _ h=>h) rfl 41 (.tmp 12) rfl rfl (fun x hx=>hx.dn) Tryz.underlying41 rfl (by kernel_rfl) RD ?_
             simp only [Act.put,List.setIfInBounds_toArray,List.set_cons_zero,List.set_cons_succ]
             refine zf2 (i:=2) (by kernel_rfl) ?_
             refine ze4 (oi:=⟨none,.store _ (.tmp 8) (.tmp 162),_,_,_,_⟩) rfl rfl rfl 25 (.tmp 8) (.tmp 162) rfl rfl rfl (zb3 HXM.out) (zb6 HXM.out) (zg5 _) RD.s.r1 ?_
             intro wa ba ka
             have RA:=RD.put1 ka (Has.of ba (zb6 HXM.out))
             refine ⟨RA,?_⟩
             refine zf2 (i:=3) (by kernel_rfl) ?_
             refine ze4 (oi:=⟨none,.store _ (.tmp 9) (.tmp 163),_,_,_,_⟩) rfl rfl rfl 41 (.tmp 9) (.tmp 163) rfl rfl rfl (by kernel_rfl) rfl (zj0 _) RA.s.r2 ?_
             intro wb bb kb
             have RB:=RA.put2 kb (Has.of bb rfl)
             refine ⟨RB,?_⟩
             have ba2:=ba.far kb (by omega)
             refine wpAnyH_done (by kernel_rfl) ?_ _
             clear RD RA ba ka kb
             go_wp2
             try rw [Exit.noGoto_ret]
             refine bodyPost_ret (zd6 rfl rfl rfl ba2 bb Tryz.underlying25 rfl (zb3 HXM.out) Tryz.underlying41 rfl (by kernel_rfl)) rfl ?_
             exact HQ7.out _ _ (RB.s.bw) rfl
   ·have hbb:(fc != 0)=true:=by simpa using hfc
    have hop0:fi.op=0:=by rw [(HB0.out hfc).1];rfl
    have h52b:(fi.op == 52)=false:=by rw [hop0];rfl
    have h53b:(fi.op == 53)=false:=by rw [hop0];rfl
    have HQ4 : Hid (∀ e w', BW w w' → e = Ending.returned (.tuple #[.agg (za2 ⟨h.pc, (zerX h).x, fc⟩), .agg (za3 ⟨h.pc, fi, fc, 0, 0, 0, 0, false⟩)]) → zs5 w (stpH h B read failed) (stpD h B read failed) e w') := by
     intro e w' hb he
     have h2:=(HB0.out hfc).2
     obtain ⟨e1,e2⟩:=zr8 hcz h2 hfc read failed
     rw [e1,e2]
     exact ⟨he,hb⟩
    have c10:w7.cell? ⟨gd,10,none⟩=some (.int .i64 0):=RJ7.dn.cell 10
    have f10:=RJ7.dn.free 10
    go_upto_region 19 with (fail)
    have RJ11:=RJ7.sd 10 (.int .i64 fc) ⟨h.pc,fi,fc,0,0,0,0,false⟩ rfl
    clear RJ7 c10 f10 hI c0
    generalize w7.setCell _ _=w11 at *
    have c33:=(RJ11.s.hart.cell 33).trans (zg3 HXL.out)
    have f33:=RJ11.s.hart.free 33
    go_upto_region 20 with (fail)
    have RJ12:=RJ11.sh 33 (.int .i64 fc) ⟨h.pc,(zerX h).x,fc⟩ (zh1 HXL.out fc)
    clear RJ11 c33 f33
    generalize w11.setCell _ _=w12 at *
    have RD:=RJ12.drew
    refine wp_region_held (S:=fun x=>Rsj w ⟨h.pc,(zerX h).x,fc⟩ fi ⟨h.pc,fi,fc,0,0,0,0,false⟩ g gi gd x) (by kernel_rfl) ?_
    change wpAnyH _ _ _ _ _ _ _ _ (World.drew _)
    generalize World.drew _=wz at *
    refine zc8 (i:=0) (oi:=⟨some 78,.load 25 (.tmp 4),_,_,_,_⟩) rfl (by kernel_rfl) (by kernel_rfl) (by kernel_rfl) (fun _ _ _ h=>h) rfl 25 (.tmp 4) rfl rfl (fun x hx=>hx.s.hart) Tryz.underlying25 rfl (zb3 HXL.out) RD ?_
    simp only [Act.put,List.setIfInBounds_toArray,List.set_cons_zero,List.set_cons_succ]
    refine zc8 (i:=1) (oi:=⟨some 79,.load 41 (.tmp 12),_,_,_,_⟩) rfl (by kernel_rfl) (by kernel_rfl) (by kernel_rfl) (fun _ _ _ h=>h) rfl 41 (.tmp 12) rfl rfl (fun x hx=>hx.dn) Tryz.underlying41 rfl (by kernel_rfl) RD ?_
    simp only [Act.put,List.setIfInBounds_toArray,List.set_cons_zero,List.set_cons_succ]
    refine zf2 (i:=2) (by kernel_rfl) ?_
    refine ze4 (oi:=⟨none,.store _ (.tmp 8) (.tmp 78),_,_,_,_⟩) rfl rfl rfl 25 (.tmp 8) (.tmp 78) rfl rfl rfl (zb3 HXL.out) (zb6 HXL.out) (zg5 _) RD.s.r1 ?_
    intro wa ba ka
    have RA:=RD.put1 ka (Has.of ba (zb6 HXL.out))
    refine ⟨RA,?_⟩
    refine zf2 (i:=3) (by kernel_rfl) ?_
    refine ze4 (oi:=⟨none,.store _ (.tmp 9) (.tmp 79),_,_,_,_⟩) rfl rfl rfl 41 (.tmp 9) (.tmp 79) rfl rfl rfl (by kernel_rfl) rfl (zj0 _) RA.s.r2 ?_
    intro wb bb kb
    have RB:=RA.put2 kb (Has.of bb rfl)
    refine ⟨RB,?_⟩
    have ba2:=ba.far kb (by omega)
    refine wpAnyH_done (by kernel_rfl) ?_ _
    clear RD RA ba ka kb
    go_wp2
    try rw [Exit.noGoto_ret]
    refine bodyPost_ret (zd6 rfl rfl rfl ba2 bb Tryz.underlying25 rfl (zb3 HXL.out) Tryz.underlying41 rfl (by kernel_rfl)) rfl ?_
    exact HQ4.out _ _ (RB.s.bw) rfl
  ·have h52 : (fi.op == 52) = false := by
    have:fi.op≠52:=fun e=>hs (by rw [e];decide)
    simpa using this
   have h53:(fi.op == 53)=false:=by
    have:fi.op≠53:=fun e=>hs (by rw [e];decide)
    simpa using this
   have hgt:(0:Int)<siz fi.op:=by have:=zk5 fi.op;omega
   have c12:w7.cell? ⟨gd,12,none⟩=some (.int .u64 0):=RJ7.dn.cell 12
   have f12:=RJ7.dn.free 12
   have hz8:0≤siz fi.op∧siz fi.op≤8:=by have:=zk5 fi.op;omega
   generalize hsz:siz fi.op=sz at *
   have HSZ:=Lib.hid hsz
   clear hsz
   generalize hso:srt fi.op=so at *
   have HSO:=Lib.hid hso
   clear hso
   go_upto_region 11 with (fail)
   go_upto_region 12 with (first
    | (with_reducible refine za8 (o:=⟨some 57,_,_,_,_,_⟩) rfl 39 (.tmp 10) rfl hI rfl Tryz.underlying39 rfl (by kernel_rfl) ?_)
    | (go_at_call 19;refine (KAD _).mono ?_;rintro e w8 ⟨rfl,hb⟩;have RJ8:=RJ7.on hb;clear hb c12 f12 c0;have c12:w8.cell? ⟨gd,12,none⟩=some (.int .u64 0):=RJ8.dn.cell 12;have f12:=RJ8.dn.free 12))
   generalize adrV fi.op fi.imm ra=ad at *
   have HWW:=zF9 fi.op ad B.length
   have RJ9:=RJ8.sd 12 (.int .u64 ad) ⟨h.pc,fi,0,0,ad,0,0,false⟩ rfl
   clear RJ8 RJ7 c12 f12 hI
   generalize w8.setCell _ _=w9 at *
   have c0:w9.cell? ⟨gi,0,none⟩=some (.int .i64 fi.op):=RJ9.ins.cell 0
   have c12:w9.cell? ⟨gd,12,none⟩=some (.int .u64 ad):=RJ9.dn.cell 12
   go_upto_region 13 with (first
    | (go_at_call 20;refine (KWH _).mono ?_;rintro e w10 ⟨rfl,hb⟩;have RJ10:=RJ9.on hb;clear hb))
   clear c0 c12 RJ9
   generalize whrV fi.op ad B.length=wv at *
   rcases HWW with rfl | rfl | rfl
   ·have hfc:=(HBM.out hs).1
    have hbd:=(HBM.out hs).2
    rw [if_neg (by decide),if_neg (by decide)] at hbd
    subst hfc
    clear HBM HBN HB0
    obtain ⟨z0,z8⟩:=hz8
    go_upto_region 21 with (fail)
    have e8:wrap64 (8 * sz)=8 * sz:=by rw [ze2,IntKind.wrap_i64];omega
    clear KAD KWH HX1 HX2
    obtain ⟨lb,hlb⟩:∃ b:Bool,b=decide (so=4∨so=10∨so=12):=⟨_,rfl⟩
    obtain ⟨fb,hfb⟩:∃ b:Bool,b=(failed && decide (so=11)):=⟨_,rfl⟩
    obtain ⟨tb,htb⟩:∃ b:Bool,b=(decide (so=5∨so=11∨so=12) && !fb):=⟨_,rfl⟩
    obtain ⟨rd,hrd⟩:∃ v:Int,v=if lb=true then zx read (8 * sz).toNat else 0:=⟨_,rfl⟩
    obtain ⟨wr,hwr⟩:∃ v:Int,v=if tb=true then stoV fi.op read rb else 0:=⟨_,rfl⟩
    obtain ⟨vl,hvl⟩:∃ v:Int,v=if lb=true then loaV fi.op read else if so=11 then (if failed=true then 1 else 0) else resV fi.op fi.imm h.pc ra rb:=⟨_,rfl⟩
    have HGEN:Hid (stpH h B read failed=⟨nxtV fi.op fi.imm h.pc ra rb,if tgt fi=0 then (zerX h).x else (zerX h).x.set (tgt fi).toNat vl,(zerX h).cause⟩∧stpD h B read failed=⟨h.pc,fi,0,if tgt fi=0 then 0 else vl,ad,rd,wr,fb⟩):=by
     have e:=Zb2 hcz hbd read failed
     have e1:redL fi.op read=rd:=by unfold redL ldsB;rw [HSO.out,HSZ.out,hrd,hlb]
     have e2:faiL fi.op failed=fb:=by unfold faiL;rw [HSO.out,hfb]
     have e3:wroL fi.op read rb failed=wr:=by unfold wroL stsB;rw [e2,HSO.out,hwr,htb]
     have e4:valR fi.op fi.imm h.pc ra rb read failed=vl:=by unfold valR ldsB;rw [HSO.out,hvl,hlb]
     rw [HRA.out,HRB.out,e1,e2,e3,e4] at e
     exact Lib.hid e
    have HLB:=Lib.hid hlb
    have HFB:=Lib.hid hfb
    have HTB:=Lib.hid htb
    have HRD:=Lib.hid hrd
    have HWR:=Lib.hid hwr
    have HVL:=Lib.hid hvl
    clear hlb hfb htb hrd hwr hvl hbd
    have RK:=RJ10
    clear RJ10
    -- loads
    go_cut [18] from 80 to 89 (fun s18 wx=>s18=.bool lb∧Rsj w (zerX h) fi ⟨h.pc,fi,0,0,ad,0,0,false⟩ g gi gd wx)
    case first =>
     clear KNX KTG KRS KS KZ KXT KST KLO HRD HWR HVL HGEN
     by_cases q4:so=4
     ·have a4:(so == 4)=true:=by rw [q4];rfl
      have HL2:Hid (true=lb):=Lib.hid (by rw [HLB.out,q4];rfl)
      clear q4 HLB
      go_wp2
      go_meet
      case rel=>exact ⟨congrArg Value.bool HL2.out,RK⟩
     ·have a4:(so == 4)=false:=by simpa using q4
      by_cases q10:so=10
      ·have a10:(so == 10)=true:=by rw [q10];rfl
       have HL2:Hid (true=lb):=Lib.hid (by rw [HLB.out,q10];rfl)
       clear q10 q4 HLB
       go_wp2
       go_meet
       case rel=>exact ⟨congrArg Value.bool HL2.out,RK⟩
      ·have a10:(so == 10)=false:=by simpa using q10
       by_cases q12:so=12
       ·have a12:(so == 12)=true:=by rw [q12];rfl
        have HL2:Hid (true=lb):=Lib.hid (by rw [HLB.out,q12];rfl)
        clear q10 q4 q12 HLB
        go_wp2
        go_meet
        case rel=>exact ⟨congrArg Value.bool HL2.out,RK⟩
       ·have a12:(so == 12)=false:=by simpa using q12
        have HL2:Hid (false=lb):=Lib.hid (by rw [HLB.out];simp [q4,q10,q12])
        clear q10 q4 q12 HLB
        go_wp2
        go_meet
        case rel=>exact ⟨congrArg Value.bool HL2.out,RK⟩
    case rest =>
     obtain ⟨rfl,RL⟩:=hcut
     clear RK
     go_upto_if 90 with (fail)
     go_cut [18] from 91 to 95 (fun s18 wx=>s18=.bool lb∧Rsj w (zerX h) fi ⟨h.pc,fi,0,0,ad,rd,0,false⟩ g gi gd wx)
     case first =>
      clear KNX KTG KRS KS KZ KST KLO HWR HVL HGEN HLB HFB HTB
      cases lb
      ·have HR2:Hid (rd=0):=Lib.hid (by rw [HRD.out];rfl)
       clear HRD KXT
       go_wp2
       go_meet
       case rel=>exact ⟨rfl,by rw [HR2.out];exact RL⟩
      ·have HR2:Hid (rd=zx read (8 * sz).toNat):=Lib.hid (by rw [HRD.out];rfl)
       clear HRD
       generalize zx read (8 * sz).toNat=zv at *
       have c13:World.cell? _ ⟨gd,13,none⟩=some (.int .u64 0):=RL.dn.cell 13
       have f13:=RL.dn.free 13
       go_wp2_with (first
        | (go_at_call 42;refine (KXT _).mono ?_;rintro e w21 ⟨rfl,rfl⟩))
       go_meet
       case rel=>exact ⟨rfl,by rw [HR2.out];exact RL.sd 13 (.int .u64 zv) ⟨h.pc,fi,0,0,ad,zv,0,false⟩ rfl⟩
     case rest =>
      obtain ⟨rfl,RM⟩:=hcut
      clear RL KXT HRD e8
      -- failed
      go_upto_if 97 with (fail)
      go_cut [18] from 96 to 99 (fun s18 wx=>s18=.bool lb∧Rsj w (zerX h) fi ⟨h.pc,fi,0,0,ad,rd,0,fb⟩ g gi gd wx)
      case first =>
       clear KNX KTG KRS KS KZ KST KLO HWR HVL HGEN HLB HTB
       by_cases q11:so=11
       ·have a11:(so == 11)=true:=by rw [q11];rfl
        have HR2:Hid (fb=failed):=Lib.hid (by rw [HFB.out,q11];cases failed <;> rfl)
        clear HFB q11
        have c15:World.cell? _ ⟨gd,15,none⟩=some (.bool false):=RM.dn.cell 15
        have f15:=RM.dn.free 15
        go_wp2
        go_meet
        case rel=>exact ⟨rfl,by rw [HR2.out];exact RM.sd 15 (.bool failed) ⟨h.pc,fi,0,0,ad,rd,0,failed⟩ rfl⟩
       ·have a11:(so == 11)=false:=by simpa using q11
        have HR2:Hid (fb=false):=Lib.hid (by rw [HFB.out];cases failed <;> simp [q11])
        clear HFB q11
        go_wp2
        go_meet
        case rel=>exact ⟨rfl,by rw [HR2.out];exact RM⟩
      case rest =>
       obtain ⟨rfl,RN⟩:=hcut
       clear RM
       -- stores
       go_upto_region 26 with (fail)
       go_cut [113] from 100 to 113 (fun s13 wx=>s13=.bool tb∧Rsj w (zerX h) fi ⟨h.pc,fi,0,0,ad,rd,0,fb⟩ g gi gd wx)
       case first =>
        clear KNX KTG KRS KS KZ KST KLO HWR HVL HGEN HLB
        by_cases q5:so=5
        ·have a5:(so == 5)=true:=by rw [q5];rfl
         have HL2:Hid (true=tb):=Lib.hid (by rw [HTB.out,HFB.out,q5];cases failed <;> rfl)
         clear q5 HTB HFB
         go_wp2
         go_meet
         case rel=>exact ⟨congrArg Value.bool HL2.out,RN⟩
        ·have a5:(so == 5)=false:=by simpa using q5
         by_cases q12:so=12
         ·have a12:(so == 12)=true:=by rw [q12];rfl
          have HL2:Hid (true=tb):=Lib.hid (by rw [HTB.out,HFB.out,q12];cases failed <;> rfl)
          clear q5 q12 HTB HFB
          go_wp2
          go_meet
          case rel=>exact ⟨congrArg Value.bool HL2.out,RN⟩
         ·have a12:(so == 12)=false:=by simpa using q12
          by_cases q11:so=11
          ·have a11:(so == 11)=true:=by rw [q11];rfl
           have HL2:Hid ((!failed)=tb):=Lib.hid (by rw [HTB.out,HFB.out,q11];cases failed <;> rfl)
           clear q5 q12 q11 HTB HFB
           cases failed
           ·go_wp2
            go_meet
            case rel=>exact ⟨congrArg Value.bool HL2.out,RN⟩
           ·go_wp2
            go_meet
            case rel=>exact ⟨congrArg Value.bool HL2.out,RN⟩
          ·have a11:(so == 11)=false:=by simpa using q11
           have HL2:Hid (false=tb):=Lib.hid (by rw [HTB.out];simp [q5,q11,q12])
           clear q5 q11 q12 HTB HFB
           go_wp2
           go_meet
           case rel=>exact ⟨congrArg Value.bool HL2.out,RN⟩
       case rest =>
        obtain ⟨rfl,RO⟩:=hcut
        clear RN
        go_upto_if 113 with (fail)
        go_cut [18] from 114 to 119 (fun s18 wx=>s18=.bool lb∧Rsj w (zerX h) fi ⟨h.pc,fi,0,0,ad,rd,wr,fb⟩ g gi gd wx)
        case first =>
         clear KNX KTG KRS KS KZ KLO HVL HGEN HLB HFB HTB
         cases tb
         ·have HR2:Hid (wr=0):=Lib.hid (by rw [HWR.out];rfl)
          clear HWR KST
          go_wp2
          go_meet
          case rel=>exact ⟨rfl,by rw [HR2.out];exact RO⟩
         ·have HR2:Hid (wr=stoV fi.op read rb):=Lib.hid (by rw [HWR.out];rfl)
          clear HWR
          generalize stoV fi.op read rb=sv at *
          have c0:World.cell? _ ⟨gi,0,none⟩=some (.int .i64 fi.op):=RO.ins.cell 0
          have c14:World.cell? _ ⟨gd,14,none⟩=some (.int .u64 0):=RO.dn.cell 14
          have f14:=RO.dn.free 14
          go_wp2_with (first
           | (go_at_call 43;refine (KST _).mono ?_;rintro e w21 ⟨rfl,hb⟩;have RO2:=RO.on hb;clear hb c0 c14 f14;have c14:w21.cell? ⟨gd,14,none⟩=some (.int .u64 0):=RO2.dn.cell 14;have f14:=RO2.dn.free 14))
          go_meet
          case rel=>exact ⟨rfl,by rw [HR2.out];exact RO2.sd 14 (.int .u64 sv) ⟨h.pc,fi,0,0,ad,rd,sv,fb⟩ rfl⟩
        case rest =>
         obtain ⟨rfl,RP⟩:=hcut
         clear RO KST HWR HTB HFB
         generalize hw22:wc=w22 at *
         clear hw22
         -- what is next
         go_upto_region 28 with (fail)
         have hI:=RP.ins
         unfold za0 at hI
         have p0:w22.cell? ⟨gd,0,none⟩=some (.int .u64 h.pc):=RP.dn.cell 0
         go_upto_region 29 with (first
          | (with_reducible refine za8 (o:=⟨some 120,_,_,_,_,_⟩) rfl 39 (.tmp 10) rfl hI rfl Tryz.underlying39 rfl (by kernel_rfl) ?_)
          | (go_at_call 44;refine (KNX _).mono ?_;rintro e w23 ⟨rfl,hb⟩;have RQ:=RP.on hb;clear hb p0 hI;have p0:w23.cell? ⟨g,0,none⟩=some (.int .u64 h.pc):=(RQ.s.hart.cell 0).trans HP.out;have f0:=RQ.s.hart.free 0))
         generalize nxtV fi.op fi.imm h.pc ra rb=nx at *
         have RR:=RQ.sh 0 (.int .u64 nx) ⟨nx,(zerX h).x,(zerX h).cause⟩ (zt7 _ _)
         clear RQ RP p0 f0 KNX
         generalize w23.setCell _ _=w24 at *
         have hI:=RR.ins
         unfold za0 at hI
         go_upto_region 30 with (first
          | (with_reducible refine za8 (o:=⟨some 127,_,_,_,_,_⟩) rfl 39 (.tmp 10) rfl hI rfl Tryz.underlying39 rfl (by kernel_rfl) ?_)
          | (go_at_call 45;refine (KTG _).mono ?_;rintro e w25 ⟨rfl,hb⟩;have RS:=RR.on hb;clear hb hI))
         clear RR KTG
         by_cases htg:tgt fi=0
         ·have htb:(tgt fi == 0)=true:=by simpa using htg
          have HQ6 : Hid (∀ e w', BW w w' → e = Ending.returned (.tuple #[.agg (za2 ⟨nx, (zerX h).x, (zerX h).cause⟩), .agg (za3 ⟨h.pc, fi, 0, 0, ad, rd, wr, fb⟩)]) → zs5 w (stpH h B read failed) (stpD h B read failed) e w') := by
           intro e w' hb he
           obtain ⟨e1,e2⟩:=HGEN.out
           rw [if_pos htg] at e1
           rw [if_pos htg] at e2
           rw [e1,e2]
           exact ⟨he,hb⟩
          clear htg HGEN
          go_upto_region 31 with (fail)
          have RD:=RS.drew
          refine wp_region_held (S:=fun x=>Rsj w ⟨nx,(zerX h).x,(zerX h).cause⟩ fi ⟨h.pc,fi,0,0,ad,rd,wr,fb⟩ g gi gd x) (by kernel_rfl) ?_
          change wpAnyH _ _ _ _ _ _ _ _ (World.drew _)
          generalize World.drew _=wz at *
          refine zc8 (i:=0) (oi:=⟨some 131,.load 25 (.tmp 4),_,_,_,_⟩) rfl (by kernel_rfl) (by kernel_rfl) (by kernel_rfl) (fun _ _ _ h=>h) rfl 25 (.tmp 4) rfl rfl (fun x hx=>hx.s.hart) Tryz.underlying25 rfl (zb3 HXL.out) RD ?_
          simp only [Act.put,List.setIfInBounds_toArray,List.set_cons_zero,List.set_cons_succ]
          refine zc8 (i:=1) (oi:=⟨some 132,.load 41 (.tmp 12),_,_,_,_⟩) rfl (by kernel_rfl) (by kernel_rfl) (by kernel_rfl) (fun _ _ _ h=>h) rfl 41 (.tmp 12) rfl rfl (fun x hx=>hx.dn) Tryz.underlying41 rfl (by kernel_rfl) RD ?_
          simp only [Act.put,List.setIfInBounds_toArray,List.set_cons_zero,List.set_cons_succ]
          refine zf2 (i:=2) (by kernel_rfl) ?_
          refine ze4 (oi:=⟨none,.store _ (.tmp 8) (.tmp 131),_,_,_,_⟩) rfl rfl rfl 25 (.tmp 8) (.tmp 131) rfl rfl rfl (zb3 HXL.out) (zb6 HXL.out) (zg5 _) RD.s.r1 ?_
          intro wa ba ka
          have RA:=RD.put1 ka (Has.of ba (zb6 HXL.out))
          refine ⟨RA,?_⟩
          refine zf2 (i:=3) (by kernel_rfl) ?_
          refine ze4 (oi:=⟨none,.store _ (.tmp 9) (.tmp 132),_,_,_,_⟩) rfl rfl rfl 41 (.tmp 9) (.tmp 132) rfl rfl rfl (by kernel_rfl) rfl (zj0 _) RA.s.r2 ?_
          intro wb bb kb
          have RB:=RA.put2 kb (Has.of bb rfl)
          refine ⟨RB,?_⟩
          have ba2:=ba.far kb (by omega)
          refine wpAnyH_done (by kernel_rfl) ?_ _
          clear RD RA ba ka kb
          go_wp2
          try rw [Exit.noGoto_ret]
          refine bodyPost_ret (zd6 rfl rfl rfl ba2 bb Tryz.underlying25 rfl (zb3 HXL.out) Tryz.underlying41 rfl (by kernel_rfl)) rfl ?_
          exact HQ6.out _ _ (RB.s.bw) rfl
         ·have htb:(tgt fi == 0)=false:=by simpa using htg
          have HQ7 : Hid (∀ e w', BW w w' → e = Ending.returned (.tuple #[.agg (za2 ⟨nx, (zerX h).x.set (tgt fi).toNat vl, (zerX h).cause⟩), .agg (za3 ⟨h.pc, fi, 0, vl, ad, rd, wr, fb⟩)]) → zs5 w (stpH h B read failed) (stpD h B read failed) e w') := by
           intro e w' hb he
           obtain ⟨e1,e2⟩:=HGEN.out
           rw [if_neg htg] at e1
           rw [if_neg htg] at e2
           rw [e1,e2]
           exact ⟨he,hb⟩
          clear htg HGEN
          go_upto_block 0 with (fail)
          go_cut [18] from 133 to 156 (fun s18 wx=>s18=.bool lb∧Rsj w ⟨nx,(zerX h).x,(zerX h).cause⟩ fi ⟨h.pc,fi,0,vl,ad,rd,wr,fb⟩ g gi gd wx)
          case first =>
           clear HQ7 HLB
           have c11:w25.cell? ⟨gd,11,none⟩=some (.int .u64 0):=RS.dn.cell 11
           have f11:=RS.dn.free 11
           cases lb
           ·by_cases q11:so=11
            ·have a11:(so == 11)=true:=by rw [q11];rfl
             have b11:(so != 11)=false:=by rw [q11];rfl
             cases failed
             ·have HR2:Hid (vl=0):=Lib.hid (by rw [HVL.out,if_neg (by simp),if_pos q11];rfl)
              clear HVL q11
              go_wp2
              go_meet
              case rel=>exact ⟨rfl,by rw [HR2.out];exact RS⟩
             ·have HR2:Hid (vl=1):=Lib.hid (by rw [HVL.out,if_neg (by simp),if_pos q11];rfl)
              clear HVL q11
              go_wp2
              go_meet
              case rel=>exact ⟨rfl,by rw [HR2.out];exact RS.sd 11 (.int .u64 1) ⟨h.pc,fi,0,1,ad,rd,wr,fb⟩ rfl⟩
            ·have a11:(so == 11)=false:=by simpa using q11
             have b11:(so != 11)=true:=by simpa using q11
             have HR2:Hid (vl=resV fi.op fi.imm h.pc ra rb):=Lib.hid (by rw [HVL.out,if_neg (by simp),if_neg q11])
             clear HVL q11
             generalize resV fi.op fi.imm h.pc ra rb=rv at *
             have hI:=RS.ins
             unfold za0 at hI
             have p0:w25.cell? ⟨gd,0,none⟩=some (.int .u64 h.pc):=RS.dn.cell 0
             go_wp2_with (first
              | (with_reducible refine za8 (o:=⟨some 150,_,_,_,_,_⟩) rfl 39 (.tmp 10) rfl hI rfl Tryz.underlying39 rfl (by kernel_rfl) ?_)
              | (go_at_call 47;refine (KRS _).mono ?_;rintro e w26 ⟨rfl,hb⟩;have RT:=RS.on hb;clear hb p0 hI c11 f11;have c11:w26.cell? ⟨gd,11,none⟩=some (.int .u64 0):=RT.dn.cell 11;have f11:=RT.dn.free 11))
             go_meet
             case rel=>exact ⟨rfl,by rw [HR2.out];exact RT.sd 11 (.int .u64 rv) ⟨h.pc,fi,0,rv,ad,rd,wr,fb⟩ rfl⟩
           ·have HR2:Hid (vl=loaV fi.op read):=Lib.hid (by rw [HVL.out,if_pos rfl])
            clear HVL KRS
            generalize loaV fi.op read=lv at *
            have c0:w25.cell? ⟨gi,0,none⟩=some (.int .i64 fi.op):=RS.ins.cell 0
            go_wp2_with (first
             | (go_at_call 46;refine (KLO _).mono ?_;rintro e w26 ⟨rfl,hb⟩;have RT:=RS.on hb;clear hb c0 c11 f11;have c11:w26.cell? ⟨gd,11,none⟩=some (.int .u64 0):=RT.dn.cell 11;have f11:=RT.dn.free 11))
            go_meet
            case rel=>exact ⟨rfl,by rw [HR2.out];exact RT.sd 11 (.int .u64 lv) ⟨h.pc,fi,0,lv,ad,rd,wr,fb⟩ rfl⟩
          case rest =>
           obtain ⟨rfl,RU⟩:=hcut
           clear RS HVL KRS KLO
           generalize hw27:wc=w27 at *
           clear hw27
           have c11:w27.cell? ⟨gd,11,none⟩=some (.int .u64 vl):=RU.dn.cell 11
           have hxl2:({ pc:=nx,x:=(zerX h).x,cause:=(zerX h).cause }:Hrt).x.length=32:=HXL.out
           have ct:=(RU.s.hart.cell (1 + (tgt fi).toNat)).trans (zl4 hxl2 (by have:=HTG.out;omega))
           have ft:=RU.s.hart.free (1 + (tgt fi).toNat)
           have ht0:=HTG.out.1
           have ht1:tgt fi<32:=by have:=HTG.out.2;omega
           go_upto_region 39 with (fail)
           have RV:=RU.sh (1 + (tgt fi).toNat) (.int .u64 vl) ⟨nx,(zerX h).x.set (tgt fi).toNat vl,(zerX h).cause⟩ (zl8 hxl2 (by omega) vl)
           clear RU c11 ct ft
           generalize w27.setCell _ _=w28 at *
           have HXM:Hid (((zerX h).x.set (tgt fi).toNat vl).length=32):=by show _=_;rw [List.length_set];exact HXL.out
           have RD:=RV.drew
           refine wp_region_held (S:=fun x=>Rsj w ⟨nx,(zerX h).x.set (tgt fi).toNat vl,(zerX h).cause⟩ fi ⟨h.pc,fi,0,vl,ad,rd,wr,fb⟩ g gi gd x) (by kernel_rfl) ?_
           change wpAnyH _ _ _ _ _ _ _ _ (World.drew _)
           generalize World.drew _=wz at *
           refine zc8 (i:=0) (oi:=⟨some 162,.load 25 (.tmp 4),_,_,_,_⟩) rfl (by kernel_rfl) (by kernel_rfl) (by kernel_rfl) (fun _ _ _ h=>h) rfl 25 (.tmp 4) rfl rfl (fun x hx=>hx.s.hart) Tryz.underlying25 rfl (zb3 HXM.out) RD ?_
           simp only [Act.put,List.setIfInBounds_toArray,List.set_cons_zero,List.set_cons_succ]
           refine zc8 (i:=1) (oi:=⟨some 163,.load 41 (.tmp 12),_,_,_,_⟩) rfl (by kernel_rfl) (by kernel_rfl) (by kernel_rfl) (fun _ _ _ h=>h) rfl 41 (.tmp 12) rfl rfl (fun x hx=>hx.dn) Tryz.underlying41 rfl (by kernel_rfl) RD ?_
           simp only [Act.put,List.setIfInBounds_toArray,List.set_cons_zero,List.set_cons_succ]
           refine zf2 (i:=2) (by kernel_rfl) ?_
           refine ze4 (oi:=⟨none,.store _ (.tmp 8) (.tmp 162),_,_,_,_⟩) rfl rfl rfl 25 (.tmp 8) (.tmp 162) rfl rfl rfl (zb3 HXM.out) (zb6 HXM.out) (zg5 _) RD.s.r1 ?_
           intro wa ba ka
           have RA:=RD.put1 ka (Has.of ba (zb6 HXM.out))
           refine ⟨RA,?_⟩
           refine zf2 (i:=3) (by kernel_rfl) ?_
           refine ze4 (oi:=⟨none,.store _ (.tmp 9) (.tmp 163),_,_,_,_⟩) rfl rfl rfl 41 (.tmp 9) (.tmp 163) rfl rfl rfl (by kernel_rfl) rfl (zj0 _) RA.s.r2 ?_
           intro wb bb kb
           have RB:=RA.put2 kb (Has.of bb rfl)
           refine ⟨RB,?_⟩
           have ba2:=ba.far kb (by omega)
           refine wpAnyH_done (by kernel_rfl) ?_ _
           clear RD RA ba ka kb
           go_wp2
           try rw [Exit.noGoto_ret]
           refine bodyPost_ret (zd6 rfl rfl rfl ba2 bb Tryz.underlying25 rfl (zb3 HXM.out) Tryz.underlying41 rfl (by kernel_rfl)) rfl ?_
           exact HQ7.out _ _ (RB.s.bw) rfl
   ·have HQ4 : Hid (∀ e w', BW w w' → e = Ending.returned (.tuple #[.agg (za2 ⟨h.pc, (zerX h).x, 5⟩), .agg (za3 ⟨h.pc, fi, 5, 0, ad, 0, 0, false⟩)]) → zs5 w (stpH h B read failed) (stpD h B read failed) e w') := by
     intro e w' hb he
     have h2:=(HBM.out hs).2
     rw [if_pos rfl] at h2
     obtain ⟨e1,e2⟩:=zr8 hcz h2 (by simp) read failed
     rw [e1,e2]
     exact ⟨he,hb⟩
    have c10:w10.cell? ⟨gd,10,none⟩=some (.int .i64 0):=RJ10.dn.cell 10
    have f10:=RJ10.dn.free 10
    go_upto_region 19 with (fail)
    have RJ11:=RJ10.sd 10 (.int .i64 5) ⟨h.pc,fi,5,0,ad,0,0,false⟩ rfl
    clear RJ10 c10 f10
    generalize w10.setCell _ _=w11 at *
    have c33:=(RJ11.s.hart.cell 33).trans (zg3 HXL.out)
    have f33:=RJ11.s.hart.free 33
    go_upto_region 20 with (fail)
    have RJ12:=RJ11.sh 33 (.int .i64 5) ⟨h.pc,(zerX h).x,5⟩ (zh1 HXL.out 5)
    clear RJ11 c33 f33
    generalize w11.setCell _ _=w12 at *
    have RD:=RJ12.drew
    refine wp_region_held (S:=fun x=>Rsj w ⟨h.pc,(zerX h).x,5⟩ fi ⟨h.pc,fi,5,0,ad,0,0,false⟩ g gi gd x) (by kernel_rfl) ?_
    change wpAnyH _ _ _ _ _ _ _ _ (World.drew _)
    generalize World.drew _=wz at *
    refine zc8 (i:=0) (oi:=⟨some 78,.load 25 (.tmp 4),_,_,_,_⟩) rfl (by kernel_rfl) (by kernel_rfl) (by kernel_rfl) (fun _ _ _ h=>h) rfl 25 (.tmp 4) rfl rfl (fun x hx=>hx.s.hart) Tryz.underlying25 rfl (zb3 HXL.out) RD ?_
    simp only [Act.put,List.setIfInBounds_toArray,List.set_cons_zero,List.set_cons_succ]
    refine zc8 (i:=1) (oi:=⟨some 79,.load 41 (.tmp 12),_,_,_,_⟩) rfl (by kernel_rfl) (by kernel_rfl) (by kernel_rfl) (fun _ _ _ h=>h) rfl 41 (.tmp 12) rfl rfl (fun x hx=>hx.dn) Tryz.underlying41 rfl (by kernel_rfl) RD ?_
    simp only [Act.put,List.setIfInBounds_toArray,List.set_cons_zero,List.set_cons_succ]
    refine zf2 (i:=2) (by kernel_rfl) ?_
    refine ze4 (oi:=⟨none,.store _ (.tmp 8) (.tmp 78),_,_,_,_⟩) rfl rfl rfl 25 (.tmp 8) (.tmp 78) rfl rfl rfl (zb3 HXL.out) (zb6 HXL.out) (zg5 _) RD.s.r1 ?_
    intro wa ba ka
    have RA:=RD.put1 ka (Has.of ba (zb6 HXL.out))
    refine ⟨RA,?_⟩
    refine zf2 (i:=3) (by kernel_rfl) ?_
    refine ze4 (oi:=⟨none,.store _ (.tmp 9) (.tmp 79),_,_,_,_⟩) rfl rfl rfl 41 (.tmp 9) (.tmp 79) rfl rfl rfl (by kernel_rfl) rfl (zj0 _) RA.s.r2 ?_
    intro wb bb kb
    have RB:=RA.put2 kb (Has.of bb rfl)
    refine ⟨RB,?_⟩
    have ba2:=ba.far kb (by omega)
    refine wpAnyH_done (by kernel_rfl) ?_ _
    clear RD RA ba ka kb
    go_wp2
    try rw [Exit.noGoto_ret]
    refine bodyPost_ret (zd6 rfl rfl rfl ba2 bb Tryz.underlying25 rfl (zb3 HXL.out) Tryz.underlying41 rfl (by kernel_rfl)) rfl ?_
    exact HQ4.out _ _ (RB.s.bw) rfl
   ·have HQ4 : Hid (∀ e w', BW w w' → e = Ending.returned (.tuple #[.agg (za2 ⟨h.pc, (zerX h).x, 6⟩), .agg (za3 ⟨h.pc, fi, 6, 0, ad, 0, 0, false⟩)]) → zs5 w (stpH h B read failed) (stpD h B read failed) e w') := by
     intro e w' hb he
     have h2:=(HBM.out hs).2
     rw [if_neg (by decide),if_pos rfl] at h2
     obtain ⟨e1,e2⟩:=zr8 hcz h2 (by simp) read failed
     rw [e1,e2]
     exact ⟨he,hb⟩
    have c10:w10.cell? ⟨gd,10,none⟩=some (.int .i64 0):=RJ10.dn.cell 10
    have f10:=RJ10.dn.free 10
    go_upto_region 19 with (fail)
    have RJ11:=RJ10.sd 10 (.int .i64 6) ⟨h.pc,fi,6,0,ad,0,0,false⟩ rfl
    clear RJ10 c10 f10
    generalize w10.setCell _ _=w11 at *
    have c33:=(RJ11.s.hart.cell 33).trans (zg3 HXL.out)
    have f33:=RJ11.s.hart.free 33
    go_upto_region 20 with (fail)
    have RJ12:=RJ11.sh 33 (.int .i64 6) ⟨h.pc,(zerX h).x,6⟩ (zh1 HXL.out 6)
    clear RJ11 c33 f33
    generalize w11.setCell _ _=w12 at *
    have RD:=RJ12.drew
    refine wp_region_held (S:=fun x=>Rsj w ⟨h.pc,(zerX h).x,6⟩ fi ⟨h.pc,fi,6,0,ad,0,0,false⟩ g gi gd x) (by kernel_rfl) ?_
    change wpAnyH _ _ _ _ _ _ _ _ (World.drew _)
    generalize World.drew _=wz at *
    refine zc8 (i:=0) (oi:=⟨some 78,.load 25 (.tmp 4),_,_,_,_⟩) rfl (by kernel_rfl) (by kernel_rfl) (by kernel_rfl) (fun _ _ _ h=>h) rfl 25 (.tmp 4) rfl rfl (fun x hx=>hx.s.hart) Tryz.underlying25 rfl (zb3 HXL.out) RD ?_
    simp only [Act.put,List.setIfInBounds_toArray,List.set_cons_zero,List.set_cons_succ]
    refine zc8 (i:=1) (oi:=⟨some 79,.load 41 (.tmp 12),_,_,_,_⟩) rfl (by kernel_rfl) (by kernel_rfl) (by kernel_rfl) (fun _ _ _ h=>h) rfl 41 (.tmp 12) rfl rfl (fun x hx=>hx.dn) Tryz.underlying41 rfl (by kernel_rfl) RD ?_
    simp only [Act.put,List.setIfInBounds_toArray,List.set_cons_zero,List.set_cons_succ]
    refine zf2 (i:=2) (by kernel_rfl) ?_
    refine ze4 (oi:=⟨none,.store _ (.tmp 8) (.tmp 78),_,_,_,_⟩) rfl rfl rfl 25 (.tmp 8) (.tmp 78) rfl rfl rfl (zb3 HXL.out) (zb6 HXL.out) (zg5 _) RD.s.r1 ?_
    intro wa ba ka
    have RA:=RD.put1 ka (Has.of ba (zb6 HXL.out))
    refine ⟨RA,?_⟩
    refine zf2 (i:=3) (by kernel_rfl) ?_
    refine ze4 (oi:=⟨none,.store _ (.tmp 9) (.tmp 79),_,_,_,_⟩) rfl rfl rfl 41 (.tmp 9) (.tmp 79) rfl rfl rfl (by kernel_rfl) rfl (zj0 _) RA.s.r2 ?_
    intro wb bb kb
    have RB:=RA.put2 kb (Has.of bb rfl)
    refine ⟨RB,?_⟩
    have ba2:=ba.far kb (by omega)
    refine wpAnyH_done (by kernel_rfl) ?_ _
    clear RD RA ba ka kb
    go_wp2
    try rw [Exit.noGoto_ret]
    refine bodyPost_ret (zd6 rfl rfl rfl ba2 bb Tryz.underlying25 rfl (zb3 HXL.out) Tryz.underlying41 rfl (by kernel_rfl)) rfl ?_
    exact HQ4.out _ _ (RB.s.bw) rfl
 ·intro hend
  refine zf2 (i:=2) (by kernel_rfl) ?_
  refine zL3 (oi:=⟨some 35,.call _,_,_,_,_⟩) rfl rfl (by first | rfl | kernel_rfl) (KS _) ?_
  rintro e w7 ⟨rfl,hb⟩
  have Rw7:=RJ4.on hb
  refine ⟨_,rfl,Rw7,?_⟩
  simp only [Act.put,List.setIfInBounds_toArray,List.set_cons_zero,List.set_cons_succ]
  clear hb
  refine zf2 (i:=5) (by kernel_rfl) ?_
  refine zL3 (oi:=⟨some 38,.call _,_,_,_,_⟩) rfl rfl (by first | rfl | kernel_rfl) (KZ _) ?_
  rintro e w8 ⟨rfl,hb⟩
  have Rw8:=Rw7.on hb
  refine ⟨_,rfl,Rw8,?_⟩
  simp only [Act.put,List.setIfInBounds_toArray,List.set_cons_zero,List.set_cons_succ]
  clear hb
  refine zd5 (i:=6) (oi:=⟨some 13,.assign (.tmp 35),_,_,_,_⟩) (.int .i64 (srt fi.op)) rfl (by kernel_rfl) (by kernel_rfl) (by kernel_rfl) (fun _ _ _ h=>h) rfl (fun _ _=>rfl) Rw8 ?_
  simp only [Act.put,List.setIfInBounds_toArray,List.set_cons_zero,List.set_cons_succ]
  refine zd5 (i:=7) (oi:=⟨some 14,.assign (.tmp 38),_,_,_,_⟩) (.int .i64 (siz fi.op)) rfl (by kernel_rfl) (by kernel_rfl) (by kernel_rfl) (fun _ _ _ h=>h) rfl (fun _ _=>rfl) Rw8 ?_
  simp only [Act.put,List.setIfInBounds_toArray,List.set_cons_zero,List.set_cons_succ]
  refine wpAnyH_done (by kernel_rfl) ?_ _
  have hq:=hend _ Rw8
  simp only [Act.put,List.setIfInBounds_toArray,List.set_cons_zero,List.set_cons_succ] at hq
  exact hq
end Go.Proofs.YtmamblgpekafbaaGreatDoor
