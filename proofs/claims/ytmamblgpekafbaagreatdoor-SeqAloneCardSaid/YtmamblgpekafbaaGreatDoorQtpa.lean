/- Of stage 11. -/
import Derived.Test.YtmamblgpekafbaaGreatDoorQrpa
import Derived.Test.YtmamblgpekafbaaGreatDoorOgpa
set_option linter.unusedVariables false
set_option maxRecDepth 100000
set_option maxHeartbeats 8000000
namespace Go.Proofs.YtmamblgpekafbaaGreatDoor
open Go.RowKit
structure Dn2 (W:World) (l:List Dn) (v1 v2:Value) (w:World):Prop where
 r1:w.ownsRow 0 41 16 v1 l.length (zf4 l)
 r2:w.ownsRow 0 41 16 v2 l.length (zf4 l)
 bw:BW W w
theorem Dn2.drew {W w:World} {l:List Dn} {v1 v2:Value} (a:Dn2 W l v1 v2 w):Dn2 W l v1 v2 w.drew:=⟨a.r1,a.r2,Below.drew a.bw⟩
theorem rsame_dn (W:World) (l:List Dn) (v1 v2:Value) (h1:W.ownsRow 0 41 16 v1 l.length (zf4 l)) (h2:W.ownsRow 0 41 16 v2 l.length (zf4 l)) (hn:l.length≤100000) :
  Calls Tryz.prog 8 #[v1,v2] W fun e w'=>e=.returned (.bool true)∧BW W w':=by
 obtain ⟨A1,c1,rfl⟩:=zv8 h1
 obtain ⟨A2,c2,rfl⟩:=zv8 h2
 have H0:Hid (Dn2 W l (.slice A1 l.length c1) (.slice A2 l.length c2) W):=⟨h1,h2,Below.refl _ _⟩
 clear h1 h2
 go_enter Tryz.func8,Tryz.ntmps8
 go_wp2
 go_loopg [5] l.length (fun gg v5 wr=>∃ i:Nat,i + gg=l.length∧v5=.int .i64 i∧Hid (Dn2 W l (.slice A1 l.length c1) (.slice A2 l.length c2) wr))
 case atStart=>exact ⟨0,by omega,rfl,H0⟩
 case round =>
  clear H0
  obtain ⟨i,hj,rfl,HR⟩:=hrel
  have HJ:=Lib.hid hj
  clear hj
  by_cases hi:i<l.length
  ·have hii:(i:Int)<l.length:=by omega
   have hli:l[i]?=some l[i]:=List.getElem?_eq_getElem hi
   obtain ⟨q1, c1', e1, _⟩ := HR.out.r1.form (by omega)
   cases e1
   obtain ⟨q2, c2', e2, _⟩ := HR.out.r2.form (by omega)
   cases e2
   go_upto_region 6 with (fail)
   have HS:=HR.out.drew
   clear HR
   refine wp_region_held (S:=fun x=>Dn2 W l (.slice (some ⟨q1,0,none⟩) l.length c1) (.slice (some ⟨q2,0,none⟩) l.length c2) x) (by kernel_rfl) ?_
   change wpAnyH _ _ _ _ _ _ _ _ (World.drew _)
   generalize World.drew _=w3 at *
   refine zp7 (i:=0) (oi:=⟨some 17,.move _,_,_,_,_⟩) (.slice (some ⟨q1,0,none⟩) l.length c1) rfl (by kernel_rfl) (by kernel_rfl) (by kernel_rfl) (fun _ _ _ h=>h) (by kernel_rfl) (fun _ _=>rfl) HS ?_
   simp only [Act.put,List.setIfInBounds_toArray,List.set_cons_zero,List.set_cons_succ]
   refine zp7 (i:=1) (oi:=⟨some 18,.move _,_,_,_,_⟩) (.int .i64 (i:Int)) rfl (by kernel_rfl) (by kernel_rfl) (by kernel_rfl) (fun _ _ _ h=>h) (by kernel_rfl) (fun _ _=>rfl) HS ?_
   simp only [Act.put,List.setIfInBounds_toArray,List.set_cons_zero,List.set_cons_succ]
   refine zp7 (i:=2) (oi:=⟨some 19,.indexAddr _ _ _,_,_,_,_⟩) (.pointer (some ⟨q1,i * 16,none⟩)) rfl (by kernel_rfl) (by kernel_rfl) (by kernel_rfl) (fun _ _ _ h=>h) (by kernel_rfl) (fun x _=>zz7 (i:=i) rfl rfl rfl hi Tryz.underlying28 (by kernel_rfl)) HS ?_
   simp only [Act.put,List.setIfInBounds_toArray,List.set_cons_zero,List.set_cons_succ]
   refine zp7 (i:=3) (oi:=⟨some 20,.load _ _,_,_,_,_⟩) (.agg (za3 l[i]).toList.toArray) rfl (by kernel_rfl) (by kernel_rfl) (by kernel_rfl) (fun _ _ _ h=>h) (by kernel_rfl) (fun x hx=>zp3 rfl rfl (zB1 hx.r1 hli hi) Tryz.underlying41 rfl (by kernel_rfl)) HS ?_
   simp only [Act.put,List.setIfInBounds_toArray,List.set_cons_zero,List.set_cons_succ]
   refine zp7 (i:=4) (oi:=⟨some 21,.move _,_,_,_,_⟩) (.slice (some ⟨q2,0,none⟩) l.length c2) rfl (by kernel_rfl) (by kernel_rfl) (by kernel_rfl) (fun _ _ _ h=>h) (by kernel_rfl) (fun _ _=>rfl) HS ?_
   simp only [Act.put,List.setIfInBounds_toArray,List.set_cons_zero,List.set_cons_succ]
   refine zp7 (i:=5) (oi:=⟨some 22,.move _,_,_,_,_⟩) (.int .i64 (i:Int)) rfl (by kernel_rfl) (by kernel_rfl) (by kernel_rfl) (fun _ _ _ h=>h) (by kernel_rfl) (fun _ _=>rfl) HS ?_
   simp only [Act.put,List.setIfInBounds_toArray,List.set_cons_zero,List.set_cons_succ]
   refine zp7 (i:=6) (oi:=⟨some 23,.indexAddr _ _ _,_,_,_,_⟩) (.pointer (some ⟨q2,i * 16,none⟩)) rfl (by kernel_rfl) (by kernel_rfl) (by kernel_rfl) (fun _ _ _ h=>h) (by kernel_rfl) (fun x _=>zz7 (i:=i) rfl rfl rfl hi Tryz.underlying28 (by kernel_rfl)) HS ?_
   simp only [Act.put,List.setIfInBounds_toArray,List.set_cons_zero,List.set_cons_succ]
   refine zp7 (i:=7) (oi:=⟨some 24,.load _ _,_,_,_,_⟩) (.agg (za3 l[i]).toList.toArray) rfl (by kernel_rfl) (by kernel_rfl) (by kernel_rfl) (fun _ _ _ h=>h) (by kernel_rfl) (fun x hx=>zp3 rfl rfl (zB1 hx.r2 hli hi) Tryz.underlying41 rfl (by kernel_rfl)) HS ?_
   simp only [Act.put,List.setIfInBounds_toArray,List.set_cons_zero,List.set_cons_succ]
   refine zp7 (i:=8) (oi:=⟨some 25,.binOp _ _ _ _ _,_,_,_,_⟩) (.bool false) rfl (by kernel_rfl) (by kernel_rfl) (by kernel_rfl) (fun _ _ _ h=>h) (by kernel_rfl) (fun x _=>zR7 rfl (by kernel_rfl) rfl rfl (by have e:=zY5 l[i] l[i] x;rw [Zf5] at e;exact e)) HS ?_
   simp only [Act.put,List.setIfInBounds_toArray,List.set_cons_zero,List.set_cons_succ]
   refine wpAnyH_done (by kernel_rfl) ?_ _
   have HS2:=Lib.hid HS
   clear HS hli
   go_wp2
   go_roundg (gk - 1)
   case measure=>have:=HJ.out;omega
   case rel=>exact ⟨i + 1,by have:=HJ.out;omega,rfl,HS2⟩
  ·have hii:¬ (i:Int)<l.length:=by omega
   go_wp2
   go_ret
   exact ⟨rfl,HR.out.bw⟩
open Go.RowKit
theorem Zn6 (w:World) (h:Hrt) (hl:h.x.length=32):∃ w1,(storeVar 25 ⟨w.heap.size,0,none⟩ (.agg (za2 h))).run Tryz.prog (w.alloc (.cells (za2 zerH) 25))=.ok () w1∧Blk (za2 h) 25 w.heap.size w1∧BW w w1:=by
 obtain ⟨w1,e1,b1,k1⟩:=(Has.of (Blk.new (za2 zerH) 25 w) (n:=34) rfl).put (P:=Tryz.prog) (za2 h) (zb6 hl) (zg5 h) (ty:=25) (zb3 hl)
 exact ⟨w1,e1,b1,((Below.refl w.heap.size w).alloc (Nat.le_refl _) _).grown k1 (by simp) (fun r hr=>by cases hr;exact Nat.le_refl _)⟩
theorem rd_blk {w:World} {g:Nat} {t:TypeId} {xs:List Value} (h:Blk xs.toArray t g w):Rd w w.heap.size (some ⟨g,0,none⟩) xs:=by
 refine .inr ⟨g,0,rfl,h.lt,fun i v hv=>?_⟩
 rw [Nat.zero_add,h.cell,List.getElem?_toArray]
 exact hv
theorem Zh5 {w:World} {base n z:Nat} {e:TypeId} {v:Value} {xs:List Value} (h:w.ownsRow base e z v n xs):∃ A c,v=.slice A n c:=by
 rcases h.2 with ⟨rfl,rfl⟩ | ⟨g,cap,_,rfl,_⟩
 ·exact ⟨none,0,rfl⟩
 ·exact ⟨_,cap,rfl⟩
structure Two11 (W:World) (s:Alo) (g1 g2:Nat) (A1 A2:Option Addr) (v1 v2:Value) (w:World):Prop where
 low:BW W w
 h1:Blk (za2 s.h) 25 g1 w
 h2:Blk (za2 s.h) 25 g2 w
 m1:Rd w w.heap.size A1 (za4 s.mem)
 m2:Rd w w.heap.size A2 (za4 s.mem)
 d1:w.ownsRow 0 41 16 v1 s.done.length (zf4 s.done)
 d2:w.ownsRow 0 41 16 v2 s.done.length (zf4 s.done)
theorem Two11.on {W w w':World} {s:Alo} {g1 g2:Nat} {A1 A2:Option Addr} {v1 v2:Value} (h:Two11 W s g1 g2 A1 A2 v1 v2 w) (k:Below w.heap.size w w'):Two11 W s g1 g2 A1 A2 v1 v2 w' :=
 ⟨h.low.on k,h.h1.on k,h.h2.on k,(h.m1.below k).mono (Below.size k),(h.m2.below k).mono (Below.size k),zp4 h.d1 k,zp4 h.d2 k⟩
theorem Zq7 {W:World} (T:TabQ W) (h:Hrt) (hw:Wh h) (A:Option Addr) (cap:Nat) (B:List Int) (hb:∀ b ∈ B,0≤b∧b<256) (hn:B.length≤9223372036854775807) (hc:B.length≤cap) (hc2:cap≤9223372036854775807) (hr:Rd W W.heap.size A (za4 B)) (hA:A=none→cap=0) (most:Int) :
  Calls Tryz.prog 3 #[.agg (za2 h),.slice A B.length cap,.int .i64 most] W fun e w'=>e=.returned (.bool true)∧Below W.heap.size W w':=by
 have KA:=fun x (hx:BW W x)=>(zM0 T x hx).mono fun e w' ⟨h1,_,h3⟩=>(⟨h1,h3⟩:_∧Below x.heap.size x w')
 have H1:Hid (Blk (za2 h) 25 W.heap.size (W.alloc (.cells (za2 h) 25))):=Blk.new _ _ _
 have HB1:Hid (BW W (W.alloc (.cells (za2 h) 25))):=BW.new (Below.refl _ _) _
 by_cases h1:B.length≤1024
 ·have d1:decide ((1024:Int)<B.length)=false:=decide_eq_false (by omega)
  have HIM:ImgAt W A cap B:=⟨hr,hb,h1,hc,hc2⟩
  obtain ⟨M,hM,hM2⟩:∃ M:Int,M≤300∧((300<most∧M=300)∨(¬ 300<most∧M=most)):=by
   by_cases hm:300<most
   ·exact ⟨300,by omega,.inl ⟨hm,rfl⟩⟩
   ·exact ⟨most,by omega,.inr ⟨hm,rfl⟩⟩
  have KS1:=Lib.hid (fun x (hx:BW W x)=>Zh2 h A cap B M x (T.t11.below hx) (HIM.on hx) hw (by omega))
  have KS2:=Lib.hid (fun x (hx:BW W x)=>ralone_c h A cap B M x (HIM.on hx) hA hw (by omega))
  have hl:=(zC1 hw hb M.toNat).1.h.len
  have hbm:=(zC1 hw hb M.toNat).1.len
  have hdl:(aloK B h M.toNat).done.length≤100000:=by have:=(Zj4 B h M.toNat).1;omega
  have HI0:=Lib.hid (zb3 hw.len)
  have HI1:=Lib.hid (zb3 hl)
  have hn9:(aloK B h M.toNat).mem.length≤9223372036854775807:=by omega
  generalize aloK B h M.toNat=s at *
  have HL:=Lib.hid hl
  have HDL:=Lib.hid hdl
  have HN9:=Lib.hid hn9
  have KE:∀ x,(binOp .eql 25 (.agg (za2 s.h)) (.agg (za2 s.h))).run Tryz.prog x=.ok (.bool true) x:=fun x=>by
   have e:=zZ5 s.h s.h HL.out HL.out x
   rw [zY4] at e
   exact e
  clear T hb hr hw hl hdl hn9 hbm
  unfold RetAl at KS1
  unfold RetRl at KS2
  go_enter Tryz.func3,Tryz.ntmps3
  go_upto_region 1 with (fail)
  generalize W.alloc (.cells _ 25)=w1 at *
  go_upto_region 3 with (first
   | (go_at_call 4;refine (KA _ HB1.out).mono ?_;rintro e w2 ⟨rfl,hb2⟩;have HB2:=Lib.hid (HB1.out.on hb2);have H2:=H1.out.on hb2;clear hb2))
  go_upto_region 6 with (fail)
  go_upto_if 22 with (fail)
  go_cut [7,22] from 23 to 23 (fun u7 _ wx=>u7=.int .i64 M∧w2=wx)
  case first =>
   rcases hM2 with ⟨hm,rfl⟩ | ⟨hm,rfl⟩
   ·go_wp2
    go_meet
    case rel=>exact ⟨rfl,rfl⟩
   ·go_wp2
    go_meet
    case rel=>exact ⟨rfl,rfl⟩
  case rest =>
  obtain ⟨rfl,rfl⟩:=hcut
  clear hM2
  go_upto_region 9 with (first
   | (with_reducible refine za8 (o:=⟨some 24,_,_,_,_,_⟩) rfl 25 (.tmp 3) rfl H2 rfl Tryz.underlying25 rfl HI0.out ?_)
   | (go_at_call 5;refine (KS1.out _ HB2.out).mono ?_;rintro e w3 ⟨v3,n3,rfl,hn3,hm3,ho3,hb3⟩;obtain ⟨w4,e4,b4,k4⟩:=Zn6 w3 s.h HL.out;have HB4:=Lib.hid ((HB2.out.on hb3).on k4);have H4:=(H2.on hb3).on k4;have M4:=hm3.on k4;have D4:=zp4 ho3 k4;obtain ⟨A3,c3,rfl⟩:=Zh5 ho3;clear hb3 hm3 ho3 k4)
   | (refine zc4 (o:=⟨none,.store _ (.tmp 8) (.tmp 28),_,_,_,_⟩) rfl 25 (.tmp 8) (.tmp 28) rfl rfl rfl e4 ?_))
  clear e4 H2 HB2
  obtain ⟨g1,hg1⟩:∃ g,w3.heap.size=g:=⟨_,rfl⟩
  rw [hg1] at b4 ⊢
  clear hg1
  obtain ⟨g3,hg3⟩:∃ g,w2.heap.size + 2=g:=⟨_,rfl⟩
  rw [hg3] at M4 ⊢
  clear hg3
  go_upto_region 10 with (first
   | (with_reducible refine za8 (o:=⟨some 32,_,_,_,_,_⟩) rfl 25 (.tmp 3) rfl H4 rfl Tryz.underlying25 rfl HI0.out ?_)
   | (go_at_call 6;refine (KS2.out _ HB4.out).mono ?_;rintro e w5 ⟨A5,n5,c5,v5,rfl,hn5,hm5,ho5,hb5⟩;obtain ⟨w6,e6,b6,k6⟩:=Zn6 w5 s.h HL.out;have HT6:Hid (Two11 W s g1 w5.heap.size (some ⟨g3,0,none⟩) A5 (.slice A3 s.done.length c3) v5 w6):=⟨(HB4.out.on hb5).on k6,(b4.on hb5).on k6,b6,rd_blk ((M4.on hb5).on k6),(Rd.of_own (zp4 hm5 k6)),zp4 (zp4 (World.ownsRow.mono D4 (Nat.zero_le _)) hb5) k6,zp4 (World.ownsRow.mono ho5 (Nat.zero_le _)) k6⟩;obtain ⟨A6,c6,rfl⟩:=Zh5 ho5;clear hb5 hm5 ho5 k6)
   | (refine zc4 (o:=⟨none,.store _ (.tmp 11) (.tmp 36),_,_,_,_⟩) rfl 25 (.tmp 11) (.tmp 36) rfl rfl rfl e6 ?_))
  clear e6 H4 HB4 b4 M4 D4 b6
  subst hn3 hn5
  generalize w5.heap.size=g2 at *
  have HSM:=Lib.hid (fun x (hx:Two11 W s g1 g2 (some ⟨g3,0,none⟩) A5 (.slice A3 s.done.length c3) (.slice A6 s.done.length c6) x)=>same_any (some ⟨g3,0,none⟩) A5 s.mem.length c5 s.mem s.mem x HN9.out hx.m1 hx.m2)
  have HSD:=Lib.hid (fun x (hx:Two11 W s g1 g2 (some ⟨g3,0,none⟩) A5 (.slice A3 s.done.length c3) (.slice A6 s.done.length c6) x)=>rsame_dn x s.done _ _ hx.d1 hx.d2 HDL.out)
  have hdd:decide (s.mem=s.mem)=true:=decide_eq_true rfl
  rw [hdd] at HSM
  clear hdd
  go_wp2_with (first
   | (go_at_call 4;refine (KA _ HT6.out.low).mono ?_;rintro e w7 ⟨rfl,hb7⟩;have HT7:=Lib.hid (HT6.out.on hb7);have hh1:=HT7.out.h1;have hh2:=HT7.out.h2;clear hb7)
   | (refine zD7 (o:=⟨some 41,_,_,_,_,_⟩) (by kernel_rfl) (zr9 25 (.tmp 8) rfl rfl hh1 Tryz.underlying25 rfl HI1.out) ?_)
   | (refine zD7 (o:=⟨some 42,_,_,_,_,_⟩) (by kernel_rfl) (zr9 25 (.tmp 11) rfl rfl hh2 Tryz.underlying25 rfl HI1.out) ?_)
   | (refine zD7 (o:=⟨some 43,_,_,_,_,_⟩) (by kernel_rfl) (exec_cmp rfl Zb7 rfl rfl (KE _)) ?_)
   | (go_at_call 7;refine (HSM.out _ HT7.out).mono ?_;rintro e w8 ⟨rfl,hb8⟩;have HT8:=Lib.hid (HT7.out.on hb8);clear hb8)
   | (go_at_call 8;refine (HSD.out _ HT8.out).mono ?_;rintro e w9 ⟨rfl,hb9⟩;have HT9:=Lib.hid (HT8.out.on hb9);clear hb9))
  go_ret
  exact ⟨rfl,HT9.out.low⟩
 ·have d1:decide ((1024:Int)<B.length)=true:=decide_eq_true (by omega)
  clear T hb hr hw
  go_enter Tryz.func3,Tryz.ntmps3
  go_upto_region 1 with (fail)
  generalize W.alloc (.cells _ 25)=w1 at *
  go_upto_region 3 with (first
   | (go_at_call 4;refine (KA _ HB1.out).mono ?_;rintro e w2 ⟨rfl,hb2⟩;have HB2:=Lib.hid (HB1.out.on hb2);clear hb2))
  go_wp2_with (first
   | (go_at_call 4;refine (KA _ HB2.out).mono ?_;rintro e w3 ⟨rfl,hb3⟩;have HB3:=Lib.hid (HB2.out.on hb3);clear hb3))
  go_ret
  exact ⟨rfl,HB3.out⟩
open Go.ChangeShapes Go.WideShapes Go.ChangeAt Go.RowKit Go.Deep
theorem zD1 {W:World} (hL:laidMetH Tryz.prog Rows.seqAloneRow.laid W):TabQ W:=by
 have hp:(Rows.seqAloneRow.laid.all fun x=>x.2.handleName?.isNone)=true:=by kernel_rfl
 have h_ops_lasts:=zT4 (d:=Rows.laid_undertow_ops_lasts) (g:=0) (t:=74) 8 hL (List.mem_of_getElem? (i:=0) rfl) hp (by kernel_rfl) (by kernel_rfl) (by kernel_rfl)
 rw [show zp0 8 Rows.laid_undertow_ops_lasts=lsL.map (Value.int .i64) by kernel_rfl] at h_ops_lasts
 have h_ops_names:=zT4 (d:=Rows.laid_undertow_ops_names) (g:=8) (t:=188) 8 hL (List.mem_of_getElem? (i:=1) rfl) hp (by kernel_rfl) (by kernel_rfl) (by kernel_rfl)
 rw [show zp0 8 Rows.laid_undertow_ops_names=n0L.map tx by kernel_rfl] at h_ops_names
 -- UNKNOWN 2 undertow/alu.pairs
 have h_field_layouts:=Zd9 (d:=Rows.laid_undertow_field_layouts) (g:=3) (t:=173) tabL hL (List.mem_of_getElem? (i:=3) rfl) hp (by kernel_rfl) (by kernel_rfl) (by kernel_rfl) (by kernel_rfl)
 -- UNKNOWN 4 unicode/utf8.acceptRanges
 have h_decode_sortOpcodes:=tabU_of (d:=Rows.laid_undertow_decode_sortOpcodes) (g:=2) (t:=146) soL hL (List.mem_of_getElem? (i:=5) rfl) hp (by kernel_rfl) (by kernel_rfl) (by kernel_rfl) (by kernel_rfl)
 have h_show_shapes:=zF7 (d:=Rows.laid_undertow_show_shapes) (g:=5) (t:=179) 8 hL (List.mem_of_getElem? (i:=6) rfl) hp (by kernel_rfl) (by kernel_rfl) (by kernel_rfl)
 rw [show zp0 8 Rows.laid_undertow_show_shapes=shpL.map tx by kernel_rfl] at h_show_shapes
 -- UNKNOWN 7 unicode/utf8.first
 have h_alu_pairs:=Zd9 (d:=Rows.laid_undertow_alu_pairs) (g:=1) (t:=74) Zc1 hL (List.mem_of_getElem? (i:=2) rfl) hp (by kernel_rfl) (by kernel_rfl) (by kernel_rfl) (by kernel_rfl)
 have hS:TabS W:=fun i hi=>h_show_shapes i _ (by rw [List.getElem?_map,List.getD_eq_getElem?_getD,List.getElem?_eq_getElem hi];rfl)
 have h6:Tab6 W:=⟨h_decode_sortOpcodes,h_ops_lasts,h_field_layouts⟩
 exact ⟨⟨h6,h_ops_names,hS⟩,⟨h6⟩,⟨h6,⟨h_ops_lasts,h_alu_pairs⟩⟩⟩
theorem seqAlone_law (h:Hrt) (A:Option Addr) (cap:Nat) (l:List Int) (most:Int) (W:World) (hL:laidMetH Tryz.prog Rows.seqAloneRow.laid W) (hw:Wh h) (hm:l.length≤cap) (hc:cap≤9223372036854775807) (hz:A=none→cap=0∧l=[]) (hb:∀ z ∈ l,(Lit.int .u8 z).wf=true) (hr:Rd W W.heap.size A (l.map (Value.int .u8))) (wm:(Lit.int .i64 most).wf=true) :
  Calls Tryz.prog 3 #[.agg (za2 h),.slice A l.length cap,.int .i64 most] W fun e w'=>e=.returned (.bool true)∧Below W.heap.size W w' :=
 have T:=zD1 hL
 Zq7 T h hw A cap l (fun z hz=>Zf6 (hb z hz)) (by omega) hm hc hr (fun e=>(hz e).1) most
end Go.Proofs.YtmamblgpekafbaaGreatDoor
