/- Of stage 11. -/
import Derived.Test.YtmamblgpekafbaaGreatDoorQ3pa
import Derived.Deep.RegionWith
set_option linter.unusedVariables false
set_option maxHeartbeats 4000000
set_option maxRecDepth 100000
namespace Go.Proofs.YtmamblgpekafbaaGreatDoor
open Go.RowKit
theorem Zq6 {B:List Int} {pc:Int} (hb:∀ b ∈ B,0≤b∧b<256) (hp:0≤pc) (h:fetC B pc=0):Rgt (fetI B pc):=by
  have h1:¬ (pc % 4≠0∨(B.length:Int)<pc + 4):=fun g=>by rw [(Zm9 g).2] at h;cases h
  have h2:=zL9 (B:=B) (pc:=pc) (by omega) (by omega)
  rw [h2.1]
  rw [h2.2] at h
  have hv:=zE5 hb pc.toNat (by omega)
  have hd:decB (zq4 B pc.toNat)=true:=by
    by_cases g:decB (zq4 B pc.toNat)=true
    · exact g
    · rw [if_neg g] at h;cases h
  rcases dec_ways hv with h6 | ⟨_,h6,_⟩
  · unfold decE at h6;rw [hd] at h6;cases h6
  · exact (zj3 _).1 h6
theorem Ze0 (op imm:Int) {a:Int} (h:U64 a):U64 (adrV op imm a):=by
  unfold adrV
  split
  · unfold u64;have:=h.1;constructor <;> omega
  · split
    · exact h
    · exact ⟨by decide,by decide⟩
theorem fetI_no {B:List Int} {pc:Int} (h:fetC B pc≠0):fetI B pc=za5:=by unfold fetI;rw [if_neg h]
theorem zm0 {h:Hrt} {B:List Int} (hc:fetC B h.pc≠0):begD h B=⟨h.pc,za5,fetC B h.pc,0,0,0,0,false⟩:=by unfold begD;rw [if_neg hc]
theorem zf8 {h:Hrt} {B:List Int} (hc:fetC B h.pc=0):begD h B=⟨h.pc,fetI B h.pc,cauV (fetI B h.pc).op (adrV (fetI B h.pc).op (fetI B h.pc).imm (xAt h (fetI B h.pc).rs1)) B.length,0,adrV (fetI B h.pc).op (fetI B h.pc).imm (xAt h (fetI B h.pc).rs1),0,0,false⟩:=by unfold begD;rw [if_pos hc]
def RetD (w:World) (d:Dn) (e:Ending) (w':World):Prop:=e=.returned (.agg (za3 d))∧Below w.heap.size w w'
theorem dn_out {W w1:World} {g:Nat} (d:Dn) (h1:Has 16 41 g w1) (h2:BW W w1) (hg:W.heap.size≤g) :
    ∃ w2,(storeVar 41 ⟨g,0,none⟩ (.agg (za3 d))).run Tryz.prog w1=.ok () w2∧Blk (za3 d) 41 g w2∧BW W w2∧w1.grownBy w2 (some g):=by
  obtain ⟨w2,e1,e2,e3⟩:=h1.put (P:=Tryz.prog) (za3 d) rfl (zj0 d) (ty:=41) (by kernel_rfl)
  exact ⟨w2,e1,e2,Below.stored h2 e3 hg (Below.size h2),e3⟩
structure Bgn (W:World) (hcs:Array Value) (d:Dn) (g:Nat) (w:World):Prop where
  at0:W.heap.size=g
  dj:Dj W d (g + 2) w
  hart:Blk hcs 25 g w
  res:Has 16 41 (g + 1) w
theorem Bgn.on {W w w':World} {hcs:Array Value} {d:Dn} {g:Nat} (h:Bgn W hcs d g w) (hb:Below w.heap.size w w'):Bgn W hcs d g w':=⟨h.at0,h.dj.on hb,h.hart.on hb,h.res.on hb⟩
theorem Bgn.drew {W w:World} {hcs:Array Value} {d:Dn} {g:Nat} (h:Bgn W hcs d g w):Bgn W hcs d g w.drew:=⟨h.at0,h.dj.drew,h.hart.drew,h.res.drew⟩
theorem Has.other {n:Nat} {t:TypeId} {g:Nat} {w:World} (h:Has n t g w) {a:Addr} (hne:g≠a.block) (v:Value):Has n t g (w.setCell a v):=by
  obtain ⟨cs,hn,hb⟩:=h
  exact ⟨cs,hn,hb.other hne v⟩
theorem Bgn.st {W w:World} {hcs:Array Value} {d d':Dn} {g:Nat} (h:Bgn W hcs d g w) (k:Nat) (v:Value) (e:(za3 d).setIfInBounds k v=za3 d'):Bgn W hcs d' g (w.setCell ⟨g + 2,k,none⟩ v) :=
  ⟨h.at0,h.dj.st k v d' e,h.hart.other (by show g≠g + 2;omega) v,h.res.other (by show g + 1≠g + 2;omega) v⟩
def Bg0 (W:World) (hcs:Array Value) (w1:World):Prop:=Blk hcs 25 W.heap.size w1∧BW W w1∧Has 16 41 (W.heap.size + 1) w1∧w1.heap.size=W.heap.size + 2
theorem begun_c (h:Hrt) (A:Option Addr) (cap:Nat) (B:List Int) (w:World) (T:Tab11 w) (hi:ImgAt w A cap B) (hw:Wh h) :
    Calls Tryz.prog 11 #[.agg (za2 h),.slice A B.length cap] w (RetD w (begD h B)):=by
  have KF:=fun x (hx:BW w x)=>fetch_c A cap B h.pc x (T.below hx).t6 (hi.on hx) hw.pc
  have HN:Hid (fetC B h.pc≠0→begD h B=⟨h.pc,fetI B h.pc,fetC B h.pc,0,0,0,0,false⟩):=fun hc=>by rw [zm0 hc,fetI_no hc]
  have HY:Hid (fetC B h.pc=0→begD h B=⟨h.pc,fetI B h.pc,cauV (fetI B h.pc).op (adrV (fetI B h.pc).op (fetI B h.pc).imm (xAt h (fetI B h.pc).rs1)) B.length,0,adrV (fetI B h.pc).op (fetI B h.pc).imm (xAt h (fetI B h.pc).rs1),0,0,false⟩):=fun hc=>zf8 hc
  have HRG:Hid (fetC B h.pc=0→Rgt (fetI B h.pc)):=fun hc=>Zq6 hi.2.1 hw.pc.1 hc
  have KI:=fun x=>zC4 A B.length cap hi.2.2.1 hi.2.2.2.1 hi.2.2.2.2 x
  have hn:(B.length:Int)≤1024:=by have:=hi.2.2.1;omega
  have HXX:Hid (∀ r:Nat,r<32→(za2 h)[1 + r]?=some (.int .u64 (xAt h r))∧U64 (xAt h r)):=fun r hr=>⟨zl4 hw.len hr,hw.x _⟩
  have HP0:=zu3 h
  have HH:=(((Blk.new (za2 h) 25 w).alloc (.cells (za3 noDn) 41)))
  have HB:BW w ((w.alloc (.cells (za2 h) 25)).alloc (.cells (za3 noDn) 41)):=BW.new (BW.new (Below.refl _ _) _) _
  have HR:Has 16 41 (w.heap.size + 1) ((w.alloc (.cells (za2 h) 25)).alloc (.cells (za3 noDn) 41)):=by
    have:=Has.of (Blk.new (za3 noDn) 41 (w.alloc (.cells (za2 h) 25))) (n:=16) rfl
    have e:(w.alloc (.cells (za2 h) 25)).heap.size=w.heap.size + 1:=by simp
    rw [e] at this
    exact this
  have hsz:((w.alloc (.cells (za2 h) 25)).alloc (.cells (za3 noDn) 41)).heap.size=w.heap.size + 2:=by simp
  generalize begD h B=bd at *
  generalize za2 h=hcs at *
  generalize hcv:fetC B h.pc=c at *
  generalize fetI B h.pc=ii at *
  clear hi hw hcv
  generalize B.length=n at *
  generalize hx:xAt h=xs at *
  clear hx
  generalize h.pc=pc at *
  have HSS:Hid (Bg0 w hcs ((w.alloc (.cells hcs 25)).alloc (.cells (za3 noDn) 41))):=⟨HH,HB,HR,hsz⟩
  have c0:=(HH.cell 0).trans HP0
  clear HH HB HR hsz HP0
  unfold za3 noDn za5 at HSS c0
  simp only at HSS c0
  go_enter Tryz.func11,Tryz.ntmps11
  go_upto_region 1 with (fail)
  generalize (w.alloc (.cells hcs 25)).alloc (.cells _ 41)=w1 at *
  go_upto_region 2 with (fail)
  have HG1:Bgn w hcs ⟨pc,za5,0,0,0,0,0,false⟩ w.heap.size (w1.alloc (.cells (za3 ⟨pc,za5,0,0,0,0,0,false⟩) 41)):=by
    obtain ⟨HH,HB,HR,hsz⟩:=HSS.out
    refine ⟨rfl,⟨BW.new HB _,?_,by omega⟩,HH.alloc _,HR.on (BW.new (Below.refl w1.heap.size w1) _)⟩
    rw [← hsz];exact Blk.new _ _ _
  have hk0:=(HG1.hart.cell 0)
  have hk1:=HSS.out.1.cell 0
  rw [c0] at hk1
  rw [← hk1] at hk0
  have e5:w1.heap.size=w.heap.size + 2:=HSS.out.2.2.2
  rw [e5]
  clear hk1 c0 HSS e5
  unfold za3 za5 at HG1 hk0
  simp only at HG1 hk0
  generalize w1.alloc (.cells _ 41)=w2 at *
  obtain ⟨g,hg⟩:∃ g,w.heap.size=g:=⟨_,rfl⟩
  rw [hg] at HG1 hk0 ⊢
  clear hg
  obtain ⟨op,rd,rs1,rs2,imm,aq,rl,pred,succ⟩:=ii
  go_upto_region 3 with (first
    | (go_at_call 28;refine (KF _ HG1.dj.1).mono ?_;rintro e w3 ⟨rfl,hb⟩;have HG2:=HG1.on hb;clear hb;obtain ⟨q0,q1,q2,q3,q4,q5,q6,q7,q8,q9,q10,q11,q12,q13,q14,q15⟩:=HG2.dj.cells;obtain ⟨f1,f2,f3,f4,f5,f6,f7,f8,f9,f10,f11,f12,f13,f14,f15⟩:=HG2.dj.frees;simp only at q0 q1 q2 q3 q4 q5 q6 q7 q8 q9 q10 q11 q12 q13 q14 q15;unfold insV))
  have HG3:Bgn w hcs ⟨pc,⟨op,rd,rs1,rs2,imm,aq,rl,pred,succ⟩,c,0,0,0,0,false⟩ g ((((((((((w3.setCell ⟨g + 2,1,none⟩ (.int .i64 op)).setCell ⟨g + 2,2,none⟩ (.int .i64 rd)).setCell ⟨g + 2,3,none⟩ (.int .i64 rs1)).setCell ⟨g + 2,4,none⟩ (.int .i64 rs2)).setCell ⟨g + 2,5,none⟩ (.int .i64 imm)).setCell ⟨g + 2,6,none⟩ (.bool aq)).setCell ⟨g + 2,7,none⟩ (.bool rl)).setCell ⟨g + 2,8,none⟩ (.int .i64 pred)).setCell ⟨g + 2,9,none⟩ (.int .i64 succ)).setCell ⟨g + 2,10,none⟩ (.int .i64 c)) :=
    ((((((((((HG2.st 1 _ (d' := ⟨pc, ⟨op, 0, 0, 0, 0, false, false, 0, 0⟩, 0, 0, 0, 0, 0, false⟩) rfl).st 2 _ (d' := ⟨pc, ⟨op, rd, 0, 0, 0, false, false, 0, 0⟩, 0, 0, 0, 0, 0, false⟩) rfl).st 3 _ (d' := ⟨pc, ⟨op, rd, rs1, 0, 0, false, false, 0, 0⟩, 0, 0, 0, 0, 0, false⟩) rfl).st 4 _ (d' := ⟨pc, ⟨op, rd, rs1, rs2, 0, false, false, 0, 0⟩, 0, 0, 0, 0, 0, false⟩) rfl).st 5 _ (d' := ⟨pc, ⟨op, rd, rs1, rs2, imm, false, false, 0, 0⟩, 0, 0, 0, 0, 0, false⟩) rfl).st 6 _
      (d':=⟨pc,⟨op,rd,rs1,rs2,imm,aq,false,0,0⟩,0,0,0,0,0,false⟩) rfl).st 7 _ (d':=⟨pc,⟨op,rd,rs1,rs2,imm,aq,rl,0,0⟩,0,0,0,0,0,false⟩) rfl).st 8 _ (d':=⟨pc,⟨op,rd,rs1,rs2,imm,aq,rl,pred,0⟩,0,0,0,0,0,false⟩) rfl).st 9 _ (d':=⟨pc,⟨op,rd,rs1,rs2,imm,aq,rl,pred,succ⟩,0,0,0,0,0,false⟩) rfl).st 10 _ rfl)
  clear HG1 HG2 KF hk0 q0 q1 q2 q3 q4 q5 q6 q7 q8 q9 q10 q11 q12 q13 q14 q15 f1 f2 f3 f4 f5 f6 f7 f8 f9 f10 f11 f12 f13 f14 f15
  generalize (World.setCell _ ⟨g + 2,10,none⟩ _)=w4 at *
  by_cases hc:c=0
  · subst hc
    have HBD:=Lib.hid (HY.out rfl)
    have hrg:=HRG.out rfl
    have hr1:=hrg.rs1
    have hop:=hrg.op
    simp only at hr1 hop
    obtain ⟨k,rfl⟩:∃ k:Nat,rs1=(k:Int):=⟨rs1.toNat,by omega⟩
    have hk:k<32:=by omega
    obtain ⟨hxc,hxu⟩:=HXX.out k hk
    have KA:=fun x (hx:BW w x)=>Zc4 ⟨op,rd,(k:Int),rs2,imm,aq,rl,pred,succ⟩ (xs k) ⟨by show _≤op;omega,by show op≤_;omega⟩ x (T.below hx).t6.lasts
    have hau:U64 (adrV op imm (xs k)):=Ze0 op imm hxu
    have KC:=fun x (hx:BW w x)=>cause_c op (adrV op imm (xs k)) n ⟨by omega,by omega⟩ hau (by omega) (by omega) x (T.below hx).t6.lasts
    have hkI:(k:Int)<32:=by omega
    clear HN HY HRG HXX hrg hr1 hop hxu hau T
    simp only at HBD KA
    unfold insV at KA
    simp only at KA
    generalize adrV op imm (xs k)=ad at *
    generalize cauV op ad n=cv at *
    generalize xs (k:Int)=xv at *
    have q10:w4.cell? ⟨g + 2,10,none⟩=some (.int .i64 0):=HG3.dj.2.1.cell 10
    go_upto_region 4 with (fail)
    clear q10
    have HG4:=HG3.drew
    obtain ⟨q0,q1,q2,q3,q4,q5,q6,q7,q8,q9,q10,q11,q12,q13,q14,q15⟩:=HG3.dj.cells
    simp only at q0 q1 q2 q3 q4 q5 q6 q7 q8 q9 q10 q11 q12 q13 q14 q15
    have hx4:=(HG3.hart.cell (1 + k)).trans hxc
    clear HG3 hxc q0 q10 q11 q12 q13 q14 q15
    go_cut [29] (fun s29 wx=>s29=.int .u64 ad∧Bgn w hcs ⟨pc,⟨op,rd,(k:Int),rs2,imm,aq,rl,pred,succ⟩,0,0,ad,0,0,false⟩ g wx)
    case first =>
      go_region_with (first
        | (go_at_call 29;refine (KA _ HG4.dj.1).mono ?_;rintro e w5 ⟨rfl,hb⟩;have HG5:=HG4.on hb;clear hb;have q12:=HG5.dj.2.1.cell 12;have f12:=HG5.dj.2.1.free 12;simp only [za3] at q12))
      all_goals go_wp2_with fail
      all_goals
        go_meet
        case rel=>exact ⟨rfl,HG5.st 12 _ rfl⟩
    case rest =>
      obtain ⟨rfl,HG6⟩:=hcut
      clear HG4 KA q1 q2 q3 q4 q5 q6 q7 q8 q9 hx4
      have HG7:=HG6.drew
      have q1:wc.cell? ⟨g + 2,1,none⟩=some (.int .i64 op):=HG6.dj.2.1.cell 1
      have q12:wc.cell? ⟨g + 2,12,none⟩=some (.int .u64 ad):=HG6.dj.2.1.cell 12
      have q10:wc.cell? ⟨g + 2,10,none⟩=some (.int .i64 0):=HG6.dj.2.1.cell 10
      have f10:=HG6.dj.2.1.free 10
      clear HG6
      go_upto_region 5 with (fail)
      go_cut [39] (fun s39 wy=>s39=.int .i64 cv∧Bgn w hcs ⟨pc,⟨op,rd,(k:Int),rs2,imm,aq,rl,pred,succ⟩,cv,0,ad,0,0,false⟩ g wy)
      case first =>
        go_region_with (first
          | (go_at_call 10;refine (KI _).mono ?_;rintro e w6 ⟨rfl,rfl⟩)
          | (go_at_call 30;refine (KC _ HG7.dj.1).mono ?_;rintro e w6 ⟨rfl,rfl⟩))
        all_goals go_wp2_with fail
        all_goals
          go_meet
          case rel=>exact ⟨rfl,HG7.st 10 _ rfl⟩
      case rest =>
        obtain ⟨rfl,HG8⟩:=hcut
        clear HG7 q1 q12 q10 f10 KI KC
        obtain ⟨w9,hs,hb9,hbw,-⟩:=dn_out ⟨pc,⟨op,rd,(k:Int),rs2,imm,aq,rl,pred,succ⟩,cv,0,ad,0,0,false⟩ HG8.res HG8.dj.1 (by have:=HG8.at0;omega)
        have HX:=HG8.dj.2.1
        go_wp2_with (first
          | (with_reducible refine za8 (o:=⟨some 41,_,_,_,_,_⟩) rfl 41 (.tmp 5) rfl HX rfl Tryz.underlying41 rfl (by kernel_rfl) ?_)
          | (with_reducible refine zc4 (o:=⟨none,.store _ (.tmp 4) (.tmp 41),_,_,_,_⟩) rfl 41 (.tmp 4) (.tmp 41) rfl rfl rfl hs ?_))
        refine bodyPost_ret (zb7 rfl rfl hb9 Tryz.underlying41 rfl (by kernel_rfl)) rfl ?_
        exact ⟨by rw [HBD.out],hbw⟩
  · have hbd:=HN.out hc
    have bc:(c == 0)=false:=by simpa using hc
    have HBD:=Lib.hid hbd
    clear hc HN HY HRG HXX hbd
    have q10:w4.cell? ⟨g + 2,10,none⟩=some (.int .i64 c):=HG3.dj.2.1.cell 10
    obtain ⟨w9,hs,hb9,hbw,-⟩:=dn_out ⟨pc,⟨op,rd,rs1,rs2,imm,aq,rl,pred,succ⟩,c,0,0,0,0,false⟩ HG3.res HG3.dj.1 (by have:=HG3.at0;omega)
    have HX:=HG3.dj.2.1
    go_wp2_with (first
      | (with_reducible refine za8 (o:=⟨some 41,_,_,_,_,_⟩) rfl 41 (.tmp 5) rfl HX rfl Tryz.underlying41 rfl (by kernel_rfl) ?_)
      | (with_reducible refine zc4 (o:=⟨none,.store _ (.tmp 4) (.tmp 41),_,_,_,_⟩) rfl 41 (.tmp 4) (.tmp 41) rfl rfl rfl hs ?_))
    refine bodyPost_ret (zb7 rfl rfl hb9 Tryz.underlying41 rfl (by kernel_rfl)) rfl ?_
    exact ⟨by rw [HBD.out],hbw⟩
open Go.RowKit
def zs5 (w:World) (h:Hrt) (d:Dn) (e:Ending) (w':World):Prop:=e=.returned (.tuple #[.agg (za2 h),.agg (za3 d)])∧Below w.heap.size w w'
structure Doj (W:World) (h:Hrt) (d:Dn) (g:Nat) (w:World):Prop where
  at0:W.heap.size=g
  bw:BW W w
  hart:Blk (za2 h) 25 g w
  dn:Blk (za3 d) 41 (g + 1) w
  r1:Has 34 25 (g + 2) w
  r2:Has 16 41 (g + 3) w
section
variable {W w w':World} {h:Hrt} {d:Dn} {g:Nat}
theorem Doj.on (j:Doj W h d g w) (hb:Below w.heap.size w w'):Doj W h d g w':=⟨j.at0,j.bw.on hb,j.hart.on hb,j.dn.on hb,j.r1.on hb,j.r2.on hb⟩
theorem Doj.drew (j:Doj W h d g w):Doj W h d g w.drew:=⟨j.at0,Below.drew j.bw,j.hart.drew,j.dn.drew,j.r1.drew,j.r2.drew⟩
theorem Doj.sh (j:Doj W h d g w) (k:Nat) (v:Value) (h':Hrt) (e:(za2 h).setIfInBounds k v=za2 h'):Doj W h' d g (w.setCell ⟨g,k,none⟩ v) :=
  ⟨j.at0,Below.setCell j.bw (by have:=j.at0;show _≤g;omega) v,by have:=j.hart.set k v;rw [e] at this;exact this,j.dn.other (by show g + 1≠g;omega) v,j.r1.other (by show g + 2≠g;omega) v,j.r2.other (by show g + 3≠g;omega) v⟩
theorem Doj.sd (j:Doj W h d g w) (k:Nat) (v:Value) (d':Dn) (e:(za3 d).setIfInBounds k v=za3 d'):Doj W h d' g (w.setCell ⟨g + 1,k,none⟩ v) :=
  ⟨j.at0,Below.setCell j.bw (by have:=j.at0;show _≤g + 1;omega) v,j.hart.other (by show g≠g + 1;omega) v,by have:=j.dn.set k v;rw [e] at this;exact this,j.r1.other (by show g + 2≠g + 1;omega) v,j.r2.other (by show g + 3≠g + 1;omega) v⟩
theorem Doj.put2 (j:Doj W h d g w) (hg:w.grownBy w' (some (g + 2))) (hh:Has 34 25 (g + 2) w'):Doj W h d g w' :=
  ⟨j.at0,Below.stored j.bw hg (by have:=j.at0;omega) (Below.size j.bw),j.hart.far hg (by omega),j.dn.far hg (by omega),hh,j.r2.far hg (by omega)⟩
theorem Doj.put3 (j:Doj W h d g w) (hg:w.grownBy w' (some (g + 3))) (hh:Has 16 41 (g + 3) w'):Doj W h d g w' :=
  ⟨j.at0,Below.stored j.bw hg (by have:=j.at0;omega) (Below.size j.bw),j.hart.far hg (by omega),j.dn.far hg (by omega),j.r1.far hg (by omega),hh⟩
end
theorem Zo2 (h:Hrt) (d:Dn) (hl:h.x.length=32) (w:World):Doj w h d w.heap.size ((((w.alloc (.cells (za2 h) 25)).alloc (.cells (za3 d) 41)).alloc (.cells (za2 ⟨0,List.replicate 32 0,0⟩) 25)).alloc (.cells (za3 noDn) 41)):=by
  have h1:=Blk.new (za2 h) 25 w
  have z1:(w.alloc (.cells (za2 h) 25)).heap.size=w.heap.size + 1:=by simp
  have b1:BW w (w.alloc (.cells (za2 h) 25)):=BW.new (Below.refl _ _) _
  generalize w.alloc (.cells (za2 h) 25)=w1 at *
  have h2:=Blk.new (za3 d) 41 w1
  rw [z1] at h2
  have z2:(w1.alloc (.cells (za3 d) 41)).heap.size=w.heap.size + 2:=by simp [z1]
  have b2:=b1.new (.cells (za3 d) 41)
  have h1:=h1.alloc (.cells (za3 d) 41)
  generalize w1.alloc (.cells (za3 d) 41)=w2 at *
  have h3:=Blk.new (za2 ⟨0,List.replicate 32 0,0⟩) 25 w2
  rw [z2] at h3
  have z3:(w2.alloc (.cells (za2 ⟨0,List.replicate 32 0,0⟩) 25)).heap.size=w.heap.size + 3:=by simp [z2]
  have b3:=b2.new (.cells (za2 ⟨0,List.replicate 32 0,0⟩) 25)
  have h1:=h1.alloc (.cells (za2 ⟨0,List.replicate 32 0,0⟩) 25)
  have h2:=h2.alloc (.cells (za2 ⟨0,List.replicate 32 0,0⟩) 25)
  generalize w2.alloc (.cells (za2 ⟨0,List.replicate 32 0,0⟩) 25)=w3 at *
  have h4:=Blk.new (za3 noDn) 41 w3
  rw [z3] at h4
  exact ⟨rfl,b3.new _,h1.alloc _,h2.alloc _,(Has.of h3 (zb6 (by simp))).on (BW.new (Below.refl w3.heap.size w3) _),Has.of h4 rfl⟩
theorem zb3 {h:Hrt} (hl:h.x.length=32):(Tryz.prog.info? 25).map (·.size)=some (za2 h).size:=by rw [zb6 hl];kernel_rfl
theorem do_no (h:Hrt) (d:Dn) (read:Int) (failed:Bool) (w:World) (hw:Wh h) (hc:d.cause≠0) :
    Calls Tryz.prog 13 #[.agg (za2 h),.agg (za3 d),.int .u64 read,.bool failed] w (zs5 w (doH h d read failed) (doD h d read failed)):=by
  have e1:doH h d read failed=⟨h.pc,h.x,d.cause⟩:=by unfold doH;rw [if_neg hc]
  have e2:doD h d read failed=d:=by unfold doD;rw [if_neg hc]
  rw [e1,e2]
  have HJ:=Zo2 h d hw.len w
  have bc:(d.cause != 0)=true:=by simpa using hc
  have HC:=Lib.hid (zh1 hw.len d.cause)
  have HC2:=zg3 hw.len
  have hl:=hw.len
  have HI:=Lib.hid (zb3 (h:=⟨h.pc,h.x,d.cause⟩) hl)
  have HS:=Lib.hid (zb6 (h:=⟨h.pc,h.x,d.cause⟩) hl)
  have HO:=Lib.hid (zg5 ⟨h.pc,h.x,d.cause⟩)
  obtain ⟨pc,⟨op,rd,rs1,rs2,imm,aq,rl,pred,succ⟩,cause,val,addr,rea,wrote,fl⟩:=d
  clear e1 e2 hc hw hl
  simp only at bc HC HI HS HO ⊢
  have q10:=HJ.dn.cell 10
  have k33:=(HJ.hart.cell 33).trans HC2
  have f33:=HJ.hart.free 33
  have HDC:=Lib.hid HJ
  unfold noDn za5 at HDC q10 k33 f33
  unfold za3 at q10 k33 f33
  simp only at q10 k33 f33 HDC
  rw [show za2 ⟨0,List.replicate 32 0,0⟩=#[.int .u64 0,.int .u64 0,.int .u64 0,.int .u64 0,.int .u64 0,.int .u64 0,.int .u64 0,.int .u64 0,.int .u64 0,.int .u64 0,.int .u64 0,.int .u64 0,.int .u64 0,.int .u64 0,.int .u64 0,.int .u64 0,.int .u64 0,.int .u64 0,.int .u64 0,.int .u64 0,.int .u64 0,.int .u64 0,.int .u64 0,.int .u64 0,.int .u64 0,.int .u64 0,.int .u64 0,.int .u64 0,.int .u64 0,.int .u64 0,.int .u64 0,.int .u64 0,.int .u64 0,.int .i64 0] from rfl] at q10 k33 f33 HDC
  obtain ⟨g,hg⟩:∃ g,w.heap.size=g:=⟨_,rfl⟩
  clear HC2 HJ
  have HDC:Hid (Doj w h ⟨pc,⟨op,rd,rs1,rs2,imm,aq,rl,pred,succ⟩,cause,val,addr,rea,wrote,fl⟩ w.heap.size ((((w.alloc (.cells (za2 h) 25)).alloc (.cells #[.int .u64 pc,.int .i64 op,.int .i64 rd,.int .i64 rs1,.int .i64 rs2,.int .i64 imm,.bool aq,.bool rl,.int .i64 pred,.int .i64 succ,.int .i64 cause,.int .u64 val,.int .u64 addr,.int .u64 rea,.int .u64 wrote,.bool fl] 41)).alloc (.cells #[.int .u64 0,.int .u64 0,.int .u64 0,.int .u64 0,.int .u64 0,.int .u64 0,.int .u64 0,.int .u64 0,.int .u64 0,.int .u64 0,.int .u64 0,.int .u64 0,.int .u64 0,.int .u64 0,.int .u64 0,.int .u64 0,.int .u64 0,.int .u64 0,.int .u64 0,.int .u64 0,.int .u64 0,.int .u64 0,.int .u64 0,.int .u64 0,.int .u64 0,.int .u64 0,.int .u64 0,.int .u64 0,.int .u64 0,.int .u64 0,.int .u64 0,.int .u64 0,.int .u64 0,.int .i64 0] 25)).alloc (.cells #[.int .u64 0,.int .i64 0,.int .i64 0,.int .i64 0,.int .i64 0,.int .i64 0,.bool false,.bool false,.int .i64 0,.int .i64 0,.int .i64 0,.int .u64 0,.int .u64 0,.int .u64 0,.int .u64 0,.bool false] 41))):=HDC
  unfold za3
  simp only
  go_enter Tryz.func13,Tryz.ntmps13
  go_upto_region 1 with (fail)
  generalize ((((w.alloc _).alloc _).alloc _).alloc _)=w0 at *
  rw [hg] at q10 k33 f33 HDC
  clear hg
  rw [show g + 1 + 1 + 1=g + 3 from rfl,show g + 1 + 1=g + 2 from rfl]
  go_upto_region 3 with (fail)
  have HJ1:=HDC.out.sh 33 _ _ HC.out
  clear q10 k33 f33 HDC HC
  have HJ2:=HJ1.drew
  clear HJ1
  refine wp_region_held (S:=fun x=>Doj w ⟨h.pc,h.x,cause⟩ ⟨pc,⟨op,rd,rs1,rs2,imm,aq,rl,pred,succ⟩,cause,val,addr,rea,wrote,fl⟩ g x) (by kernel_rfl) ?_
  change wpAnyH _ _ _ _ _ _ _ _ (World.drew _)
  generalize World.drew _=w2 at *
  refine zc8 (i:=0) rfl (by kernel_rfl) (by kernel_rfl) (by kernel_rfl) (fun _ _ _ h=>h) rfl 25 (.tmp 4) rfl rfl (fun x hx=>hx.hart) Tryz.underlying25 rfl HI.out HJ2 ?_
  simp only [Act.put]
  refine zc8 (i:=1) rfl (by kernel_rfl) (by kernel_rfl) (by kernel_rfl) (fun _ _ _ h=>h) rfl 41 (.tmp 5) rfl rfl (fun x hx=>hx.dn) Tryz.underlying41 rfl (by kernel_rfl) HJ2 ?_
  simp only [Act.put]
  refine zo1 (i:=2) (by kernel_rfl) rfl rfl rfl 25 (.tmp 8) (.tmp 20) rfl rfl rfl HI.out HS.out HO.out HJ2 (fun x hx=>hx.r1) (fun u u' hu hg hh=>hu.put2 hg hh) ?_
  intro w3 HJ3 hb1 hk1
  refine zo1 (i:=3) (by kernel_rfl) rfl rfl rfl 41 (.tmp 9) (.tmp 21) rfl rfl rfl (by kernel_rfl) rfl (zj0 _) HJ3 (fun x hx=>hx.r2) (fun u u' hu hg hh=>hu.put3 hg hh) ?_
  intro w4 HJ4 hb2 hk2
  refine wpAnyH_done (by kernel_rfl) ?_ _
  have hb1:=hb1.far hk2 (by omega)
  clear HJ2 HJ3 hk1 hk2
  go_wp2
  refine bodyPost_ret (zd6 rfl rfl rfl hb1 hb2 Tryz.underlying25 rfl HI.out Tryz.underlying41 rfl (by kernel_rfl)) rfl ?_
  exact ⟨rfl,HJ4.bw⟩
end Go.Proofs.YtmamblgpekafbaaGreatDoor
