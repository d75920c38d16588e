/- Of stage 11. -/
import Derived.Test.YtmamblgpekafbaaGreatDoorAbmpa
import Derived.Test.YtmamblgpekafbaaGreatDoorArxpa
import Derived.Test.YtmamblgpekafbaaGreatDoorQ9pa
set_option linter.unusedVariables false
set_option maxRecDepth 100000
set_option maxHeartbeats 4000000
namespace Go.Proofs.YtmamblgpekafbaaGreatDoor
open Go.RowKit
def src10:List UInt8:=[108,111,111,112,58,10,97,100,100,105,32,120,49,44,32,120,49,44,32,45,49,10,98,110,101,32,120,49,44,32,120,48,44,32,108,111,111,112,10,104,97,108,116,32,35,32,101,110,100]
def zI0:List UInt8:=[97,100,100,105,32,120,49,44,32,120,48,44,32,53,10,115,119,32,120,49,44,32,49,50,40,120,48,41,10,104,97,108,116,10,46,119,111,114,100,32,48]
theorem zE9:zb2 zI0=[[97,100,100,105,32,120,49,44,32,120,48,44,32,53],[115,119,32,120,49,44,32,49,50,40,120,48,41],[104,97,108,116],[46,119,111,114,100,32,48]]:=by kernel_rfl
def zV4:Ins:=⟨22,1,0,0,5,false,false,0,0⟩
def swI11:Ins:=⟨20,0,0,1,12,false,false,0,0⟩
def ss11 (k:Nat):Stm:=[zk8 zV4,zk8 swI11,zk8 zE6,numS 4 0].getD k noStm
def pl11 (k:Nat):Int:=[0,4,8,12,16].getD k 0
theorem add11:zq3 [97,100,100,105,32,120,49,44,32,120,48,44,32,53]=some zV4:=(zH9 _ _).2 ⟨(zj3 _).1 (by decide),by decide⟩
theorem sw11:zq3 [115,119,32,120,49,44,32,49,50,40,120,48,41]=some swI11:=(zH9 _ _).2 ⟨(zj3 _).1 (by decide),by decide⟩
theorem prog11 (w:World) (T:TabR w):Prog1 w zI0 16 ss11 pl11 (fun _=>[]):=by
 have h4:(zb2 zI0).length=4:=by rw [zE9];rfl
 refine ⟨by decide,by decide,?_,?_,?_,?_,by decide⟩
 ·intro k X hk hX
  rw [h4] at hk
  rw [zE9]
  have hk4:k=0∨k=1∨k=2∨k=3:=by omega
  rcases hk4 with rfl | rfl | rfl | rfl
  ·exact zJ3 [97,100,100,105,32,120,49,44,32,120,48,44,32,53] (by decide) (zk8 zV4) (by decide) (by decide) X (fun x hx=>zA6 _ (by decide) zV4 add11 x (T.below (hX.on hx)))
  ·exact zJ3 [115,119,32,120,49,44,32,49,50,40,120,48,41] (by decide) (zk8 swI11) (by decide) (by decide) X (fun x hx=>zA6 _ (by decide) swI11 sw11 x (T.below (hX.on hx)))
  ·exact Zh3 X
  ·exact Zo7 [46,119,111,114,100,32,48] (by decide) 0 (by decide) (by decide) (by decide) X
 ·intro k hk
  rw [h4] at hk
  have hk4:k=0∨k=1∨k=2∨k=3:=by omega
  rcases hk4 with rfl | rfl | rfl | rfl <;> exact .inl ⟨rfl,⟨by decide,by decide,by decide,by decide⟩,rfl⟩
 ·intro k hk
  rw [h4] at hk
  have hk4:k=0∨k=1∨k=2∨k=3:=by omega
  rcases hk4 with rfl | rfl | rfl | rfl <;> decide
 ·intro k hk
  rw [h4] at hk
  have hk4:k=0∨k=1∨k=2∨k=3:=by omega
  rcases hk4 with rfl | rfl | rfl | rfl <;> decide
theorem puts11:∀ k,k<(zb2 zI0).length→Puts [] (pl11 k) (ss11 k):=by
 have h4:(zb2 zI0).length=4:=by rw [zE9];rfl
 intro k hk
 rw [h4] at hk
 have hk4:k=0∨k=1∨k=2∨k=3:=by omega
 rcases hk4 with rfl | rfl | rfl | rfl
 ·exact ⟨by decide,.inr ⟨(zj3 _).1 (by decide),by decide,.inl rfl⟩⟩
 ·exact ⟨by decide,.inr ⟨(zj3 _).1 (by decide),by decide,.inl rfl⟩⟩
 ·exact ⟨by decide,.inr ⟨(zj3 _).1 (by decide),by decide,.inl rfl⟩⟩
 ·exact ⟨by decide,.inl ⟨by decide,by decide,by decide⟩⟩
def zo8:List Int:=[147,0,80,0,35,38,16,0,115,0,16,0,0,0,0,0]
theorem image11:imgS 16 [] ss11 pl11 4=za4 zo8:=by kernel_rfl
theorem asm11 (w:World) (T:TabR w) (T7:Tab7 w):Calls Tryz.prog 9 #[tx zI0,.int .i64 16] w (Zi4 w 16 [] (za4 zo8)):=by
 have h4:(zb2 zI0).length=4:=by rw [zE9];rfl
 have h:=asm_c zI0 16 ss11 pl11 (fun _=>[]) w (prog11 w T)
 rw [h4] at h
 have h2:=h (fun k hk=>puts11 k (by rw [h4];exact hk)) T7
 rw [image11] at h2
 exact h2
open Go.RowKit
def zerH:Hrt:=⟨0,List.replicate 32 0,0⟩
theorem fin11_pc:(aloK zo8 zerH 10).h.pc=8:=by kernel_rfl
theorem zO4:(aloK zo8 zerH 10).h.cause=2:=by kernel_rfl
theorem fin11_x1:xAt (aloK zo8 zerH 10).h 1=5:=by kernel_rfl
theorem Zo6:(aloK zo8 zerH 10).done.length=3:=by kernel_rfl
theorem fin11_xl:(aloK zo8 zerH 10).h.x.length=32:=by kernel_rfl
open Go.RowKit
open Go.RowKit
structure TabQ (w:World):Prop where
 rd:TabR w
 t7:Tab7 w
 t11:Tab11 w
theorem img_blk {x:World} {g n:Nat} {B:List Int} (h:Blk (za4 B).toArray 5 g x) (hn:B.length=n) (hb:∀ b ∈ B,0≤b∧b<256) (hl:n≤1024):ImgAt x (some ⟨g,0,none⟩) n B :=
 ⟨.inr ⟨g,0,rfl,h.lt,fun i v hv=>by rw [Nat.zero_add,h.cell i];simpa using hv⟩,hb,by omega,by omega,by omega⟩
theorem zer_wh0:Wh zerH:=by
 refine ⟨⟨by decide,by decide⟩,rfl,fun r=>?_,⟨by decide,by decide⟩⟩
 have:(List.replicate 32 (0:Int)).getD r 0=0:=by
  rw [List.getD_eq_getElem?_getD,List.getElem?_replicate]
  split <;> rfl
 show U64 ((List.replicate 32 (0:Int)).getD r 0)
 rw [this]
 exact ⟨by decide,by decide⟩
theorem done11:(zf4 (aloK zo8 zerH 10).done)[30]?=some (.int .u64 5):=by kernel_rfl
theorem mem11:(za4 (aloK zo8 zerH 10).mem)[12]?=some (.int .u8 5):=by kernel_rfl
theorem meml11:(aloK zo8 zerH 10).mem.length=16:=by kernel_rfl
theorem alone11 (x:World) (g:Nat) (T:Tab11 x) (h:Blk (za4 zo8).toArray 5 g x) :
  Calls Tryz.prog 5 #[.agg (za2 zerH),.slice (some ⟨g,0,none⟩) 16 16,.int .i64 10] x fun e w' =>
   ∃ b q c,e=.returned (.tuple #[.agg (za2 (aloK zo8 zerH 10).h),.slice (some ⟨b,0,none⟩) 16 16,.slice (some ⟨q,0,none⟩) 3 c])∧w'.cell? ⟨b,12,none⟩=some (.int .u8 5)∧w'.cell? ⟨q,30,none⟩=some (.int .u64 5)∧b<w'.heap.size∧q<w'.heap.size∧BW x w':=by
 refine (Zh2 zerH (some ⟨g,0,none⟩) 16 zo8 10 x T (img_blk h rfl (by decide) (by decide)) zer_wh0 (by decide)).mono ?_
 rintro e w' ⟨v,n,rfl,hn,hm,hl,hb⟩
 rw [show (10:Int).toNat=10 from rfl] at *
 rw [meml11] at hn
 subst hn
 rw [Zo6] at hl
 obtain ⟨q,c,rfl,hq,hq2⟩:=hl.form (by decide)
 refine ⟨_,q,c,rfl,?_,?_,hm.lt,hq2,hb⟩
 ·rw [hm.cell 12,List.getElem?_toArray]
  exact mem11
 ·rw [hl.cellAt 30 (by decide)]
  exact done11
theorem zM0 {W:World} (T:TabQ W) (w:World) (h:BW W w):Calls Tryz.prog 4 #[] w fun e w'=>e=.returned (.bool true)∧BW W w'∧Below w.heap.size w w':=by
 have KA:Calls Tryz.prog 9 #[.string ⟨#[97,100,100,105,32,120,49,44,32,120,48,44,32,53,10,115,119,32,120,49,44,32,49,50,40,120,48,41,10,104,97,108,116,10,46,119,111,114,100,32,48]⟩,.int .i64 16] w (Zi4 w 16 [] (za4 zo8)) :=
  asm11 w (T.rd.below h) (T.t7.below h)
 have KQ:=fun x g (hx:Below w.heap.size w x) hg=>alone11 x g (T.t11.below (h.on hx)) hg
 obtain ⟨fh,hfh⟩:∃ fh,(aloK zo8 zerH 10).h=fh:=⟨_,rfl⟩
 have f1:=fin11_pc
 have f2:=zO4
 have f3:=fin11_x1
 have f4:=fin11_xl
 rw [hfh] at KQ f1 f2 f3 f4
 clear hfh T
 have HI:=Lib.hid (zb3 f4)
 have HF:Hid ((za2 fh)[0]?=some (.int .u64 8)∧(za2 fh)[33]?=some (.int .i64 2)∧(za2 fh)[2]?=some (.int .u64 5)):=by
  refine ⟨?_,?_,?_⟩
  ·rw [zu3,f1]
  ·rw [zg3 f4,f2]
  ·have:=zl4 f4 (r:=1) (by decide)
   rw [show fh.x.getD 1 0=5 from f3] at this
   exact this
 have KP:=fun w3:World=>(Has.of (Blk.new (za2 zerH) 25 w3) (n:=34) rfl).put (P:=Tryz.prog) (za2 fh) (zb6 f4) (zg5 fh) (ty:=25) (zb3 f4)
 clear f1 f2 f3 f4
 go_enter Tryz.func4,Tryz.ntmps4
 go_upto_region 2 with (go_at_call 9;refine KA.mono ?_;rintro e w2 ⟨g,v,rfl,hc,hg,hrow,hb⟩)
 clear hrow hg KA
 have HB2:=Lib.hid hb
 have HC2:=Lib.hid (show Blk (za4 zo8).toArray 5 g w2 from hc)
 clear hb hc
 go_upto_region 3 with (first
  | (go_at_call 5;refine (KQ _ g HB2.out HC2.out).mono ?_;rintro e w3 ⟨b,q,c,rfl,hq1,hq2,hb1,hb2,hbw⟩;obtain ⟨w4,e4,b4,k4⟩:=KP w3)
  | (refine zc4 (o:=⟨none,.store _ (.tmp 5) (.tmp 18),_,_,_,_⟩) rfl 25 (.tmp 5) (.tmp 18) rfl rfl rfl e4 ?_))
 have hb34:Below w3.heap.size w3 w4:=((Below.refl w3.heap.size w3).alloc (Nat.le_refl _) _).grown k4 (by simp) (fun r hr=>by cases hr;exact Nat.le_refl _)
 have q0:=(b4.cell 0).trans HF.out.1
 have q33:=(b4.cell 33).trans HF.out.2.1
 have q2:=(b4.cell 2).trans HF.out.2.2
 have q12:=(Below.cell hb34 (p:=⟨b,12,none⟩) hb1).trans hq1
 have q30:=(Below.cell hb34 (p:=⟨q,30,none⟩) hb2).trans hq2
 have HBF:Hid (Below w.heap.size w w4):=((show BW w w2 from HB2.out).on hbw).on hb34
 clear hb34 hbw hb1 hb2 hq1 hq2 k4 b4 e4 KQ KP HF HI HC2 HB2
 go_wp2
 go_ret
 exact ⟨rfl,h.on HBF.out,HBF.out⟩
end Go.Proofs.YtmamblgpekafbaaGreatDoor
