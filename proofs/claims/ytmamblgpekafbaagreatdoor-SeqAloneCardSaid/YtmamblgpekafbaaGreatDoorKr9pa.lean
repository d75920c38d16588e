/- Of stage 11. -/
import Derived.Test.YtmamblgpekafbaaGreatDoorKn9pa
import Derived.Test.YtmamblgpekafbaaGreatDoorRw9pa
import Derived.Deep.AppendLies
import Derived.Deep.RegionLaw
set_option maxHeartbeats 4000000
set_option maxRecDepth 100000
namespace Go.Proofs.YtmamblgpekafbaaGreatDoor
open Go.RowKit
theorem idx_name (S:List UInt8):(Lib.indexByte S 32=-1∧zf9 S=S)∨∃ k:Nat,Lib.indexByte S 32=(k:Int)∧k<S.length∧zf9 S=S.take k:=by
 unfold zf9
 induction S with
 | nil=>exact .inl ⟨rfl,rfl⟩
 | cons a t ih =>
  by_cases h:a=32
  ·subst h
   refine .inr ⟨0,rfl,by simp,?_⟩
   rw [List.takeWhile_cons_of_neg (by decide)]
   rfl
  ·have hb:(a == 32)=false:=by simpa using h
   have hn:no32 a=true:=by unfold no32;simpa using h
   rw [List.takeWhile_cons_of_pos hn,Lib.indexByte,hb]
   rcases ih with ⟨e1,e2⟩ | ⟨k,e1,e2,e3⟩
   ·rw [e1,e2];exact .inl ⟨rfl,rfl⟩
   ·refine .inr ⟨k + 1,?_,by simp;omega,by rw [e3];rfl⟩
    rw [e1]
    have:((k:Int) == -1)=false:=by rw [beq_eq_false_iff_ne];omega
    rw [if_neg (by decide),this,if_neg (by decide)]
    omega
theorem zv0 (S:List UInt8) (k:Nat):(bs S).extract 0 k=bs (S.take k):=by
 apply ByteArray.ext
 rw [ByteArray.data_extract]
 apply Array.ext'
 rw [Array.toList_extract,List.extract_eq_take_drop]
 simp [bs]
theorem zk7 (S:List UInt8) (k:Nat):(bs S).extract k (bs S).size=bs (S.drop k):=by
 apply ByteArray.ext
 rw [ByteArray.data_extract]
 apply Array.ext'
 rw [Array.toList_extract,List.extract_eq_take_drop]
 show List.take ((bs S).size - k) (S.drop k)=S.drop k
 rw [List.take_of_length_le (by rw [List.length_drop];exact Nat.le_refl _)]
theorem Zf0 (S:List UInt8) (hl:S.length≤100000) (w:World):Calls Tryz.prog 115 #[tx S,.string ⟨#[32]⟩] w fun e w'=>∃ r b,e=.returned (.tuple #[tx (zf9 S),.string r,.bool b])∧Below w.heap.size w w':=by
 have HK:∀ w,Calls Tryz.prog 153 #[.string (bs S),.string ⟨#[32]⟩] w fun e w'=>e=.returned (.int .i64 (Lib.indexByte S 32))∧w'=w:=fun w=>Tryz.stringslite_Index_one (bs S) 32 w
 have hI:=idx_name S
 have hs:(bs S).size=S.length:=rfl
 have HB:Below w.heap.size w w:=Below.refl _ _
 generalize zf9 S=N at *
 unfold tx
 rcases hI with ⟨e1,rfl⟩ | ⟨k,e1,hk,e3⟩
 ·rw [e1] at HK
  go_enter Tryz.func115,Tryz.ntmps115
  go_wp2_with (first
   | (go_at_call 153;refine (HK _).mono ?_;rintro e w' ⟨rfl,rfl⟩))
  go_ret3
  exact ⟨_,_,rfl,HB⟩
 ·rw [e1] at HK
  have hx:=zv0 S k
  rw [← e3] at hx
  obtain ⟨q,hq⟩:∃ q,bs S=q:=⟨_,rfl⟩
  rw [hq] at HK hx hs ⊢
  have hk1:(k:Int)≤q.size:=by omega
  have hk2:(k:Int) + 1≤q.size:=by omega
  have hw:IntKind.i64.wrap ((k:Int) + 1)=(k:Int) + 1:=by rw [IntKind.wrap_i64];omega
  have hw2:wrap64 ((k:Int) + 1)=(k:Int) + 1:=zj1 ⟨by omega,by omega⟩
  have hn0:(0:Int)≤(k:Int) + 1:=by omega
  have hnn:((k:Int) + 1).toNat=k + 1:=by omega
  clear e1 e3
  go_enter Tryz.func115,Tryz.ntmps115
  go_upto_region 3 with (first
   | (go_at_call 153;refine (HK _).mono ?_;rintro e w' ⟨rfl,rfl⟩))
  go_quiet (fail)
  have HB2:Below w'.heap.size w' (w'.drewN nq):=zg1 nq
  generalize w'.drewN nq=w3 at *
  go_wp2
  go_ret3
  exact ⟨_,_,rfl,HB2⟩
theorem zQ7 (S:List UInt8) (hl:S.length≤100000) (w:World):Calls Tryz.prog 83 #[tx S,.string ⟨#[32]⟩] w fun e w'=>∃ r b,e=.returned (.tuple #[tx (zf9 S),.string r,.bool b])∧Below w.heap.size w w':=by
 have HK:=Zf0 S hl w
 unfold tx at *
 generalize zf9 S=N at *
 go_enter Tryz.func83,Tryz.ntmps83
 go_wp2_with (first
  | (go_at_call 115;refine HK.mono ?_;rintro e w' ⟨r,b,rfl,hb⟩;have HB:=Lib.hid hb;clear hb))
 go_ret3
 exact ⟨_,_,rfl,HB.out⟩
theorem Jn.put {P : Program} {W w : World} {i : Ins} {g : Nat} (h : Jn W i g w) (k : Ins) : ∃ w', (storeCells ⟨g, 0, none⟩ (za0 k).toList 0).run P w = .ok () w' ∧ Jn W k g w' := by
 obtain ⟨w', h1, h2, h3⟩ := h.2.1.store (P := P) (za0 k).toList rfl (zn2 k)
 exact ⟨w', h1, Below.stored h.1 h3 h.2.2 (Below.size h.1), h2, h.2.2⟩
theorem Zm5 (op:Int) (aq rl:Bool):zl0 op aq rl=if op=51 then ⟨op,0,0,0,0,aq,rl,3,3⟩ else ⟨op,0,0,0,0,aq,rl,0,0⟩:=by
 unfold zl0
 by_cases h:op=51
 ·rw [if_pos h,if_pos h]
 ·rw [if_neg h,if_neg h]
theorem zX3 (op:Int) (aq rl:Bool) (w:World):Calls Tryz.prog 190 #[insV ⟨op,0,0,0,0,aq,rl,0,0⟩] w fun e w'=>e=.returned (insV (zl0 op aq rl))∧BW w w':=by
 have HV:=Lib.hid (Zm5 op aq rl)
 have a1:(w.alloc (.cells (za0 ⟨op,0,0,0,0,aq,rl,0,0⟩) 39)).heap.size=w.heap.size + 1:=by simp
 have j1:=(zs2 ⟨op,0,0,0,0,aq,rl,0,0⟩ w)
 have b2:=Blk.new (za0 za5) 39 (w.alloc (.cells (za0 ⟨op,0,0,0,0,aq,rl,0,0⟩) 39))
 rw [a1] at b2
 have j2:Jn w ⟨op,0,0,0,0,aq,rl,0,0⟩ w.heap.size ((w.alloc (.cells (za0 ⟨op,0,0,0,0,aq,rl,0,0⟩) 39)).alloc (.cells (za0 za5) 39)):=⟨j1.1.new _,j1.2.1.alloc _,j1.2.2⟩
 have j3:Jn w za5 (w.heap.size + 1) ((w.alloc (.cells (za0 ⟨op,0,0,0,0,aq,rl,0,0⟩) 39)).alloc (.cells (za0 za5) 39)):=⟨j2.1,b2,by omega⟩
 clear j1 b2 a1
 unfold insV za0 za5 at *
 simp only at *
 by_cases h51:op=51
 ·subst h51
  rw [if_pos rfl] at HV
  go_enter Tryz.func190,Tryz.ntmps190
  go_upto_region 1 with (fail)
  generalize ((w.alloc (.cells _ 39)).alloc (.cells _ 39))=w1 at *
  obtain ⟨g2,hg2⟩:∃ g,w.heap.size + 1=g:=⟨_,rfl⟩
  rw [hg2] at j3 ⊢
  obtain ⟨g1,hg1⟩:∃ g,w.heap.size=g:=⟨_,rfl⟩
  have j2':Jn w ⟨51,0,0,0,0,aq,rl,0,0⟩ g1 w1:=by rw [← hg1];exact j2
  have hne:g2≠g1:=by omega
  rw [hg1]
  clear hg1 hg2 j2
  obtain ⟨c0,c1,c2,c3,c4,c5,c6,c7,c8⟩:=j2'.cells
  simp only at c0 c1 c2 c3 c4 c5 c6 c7 c8
  have f7:=j2'.2.1.free 7
  have f8:=(j2'.s7 3).2.1.free 8
  have k2:=(j2'.s7 3).s8 3
  have k3:Jn w za5 g2 ((w1.setCell ⟨g1,7,none⟩ (.int .i64 3)).setCell ⟨g1,8,none⟩ (.int .i64 3)):=⟨k2.1,(j3.2.1.other (a:=⟨g1,7,none⟩) hne _).other (a:=⟨g1,8,none⟩) hne _,j3.2.2⟩
  simp only at k2
  go_upto_region 3 with (fail)
  generalize ((w1.setCell ⟨g1,7,none⟩ (.int .i64 3)).setCell ⟨g1,8,none⟩ (.int .i64 3))=w2 at *
  clear c0 c1 c2 c3 c4 c5 c6 c7 c8 f7 f8 j2' j3
  obtain ⟨w3,hs,k4⟩:=k3.put (P:=Tryz.prog) ⟨51,0,0,0,0,aq,rl,3,3⟩
  have HA:=k2.2.1
  rw [← HV.out] at hs k4 HA
  have hb9:=k4.2.1
  go_wp2_with (with_reducible refine za8 (o:=⟨some 8,_,_,_,_,_⟩) rfl 39 (.tmp 1) rfl HA rfl Tryz.underlying39 rfl (by kernel_rfl) ?_)
  exact bodyPost_ret (zb7 rfl rfl hb9 Tryz.underlying39 rfl (by kernel_rfl)) rfl ⟨rfl,k4.1⟩
 ·rw [if_neg h51] at HV
  have hb51:(op == 51)=false:=by simpa using h51
  go_enter Tryz.func190,Tryz.ntmps190
  go_upto_region 1 with (fail)
  generalize ((w.alloc (.cells _ 39)).alloc (.cells _ 39))=w1 at *
  obtain ⟨g2,hg2⟩:∃ g,w.heap.size + 1=g:=⟨_,rfl⟩
  rw [hg2] at j3 ⊢
  obtain ⟨g1,hg1⟩:∃ g,w.heap.size=g:=⟨_,rfl⟩
  have j2':Jn w ⟨op,0,0,0,0,aq,rl,0,0⟩ g1 w1:=by rw [← hg1];exact j2
  rw [hg1]
  clear hg1 hg2 j2 h51
  have c0:w1.cell? ⟨g1,0,none⟩=some (.int .i64 op):=j2'.2.1.cell 0
  obtain ⟨w3,hs,k4⟩:=j3.put (P:=Tryz.prog) ⟨op,0,0,0,0,aq,rl,0,0⟩
  have HA:=j2'.2.1
  rw [← HV.out] at hs k4 HA
  have hb9:=k4.2.1
  go_wp2_with (with_reducible refine za8 (o:=⟨some 8,_,_,_,_,_⟩) rfl 39 (.tmp 1) rfl HA rfl Tryz.underlying39 rfl (by kernel_rfl) ?_)
  exact bodyPost_ret (zb7 rfl rfl hb9 Tryz.underlying39 rfl (by kernel_rfl)) rfl ⟨rfl,k4.1⟩
open Go.RowKit
theorem named_ff {N:List UInt8} (h:tryN N false false≠0):zc9 N=zl0 (tryN N false false) false false:=by unfold zc9 zl9;rw [if_pos h]
theorem named_ft {N:List UInt8} (h0:tryN N false false=0) (h:tryN N false true≠0):zc9 N=zl0 (tryN N false true) false true:=by unfold zc9 zl9;rw [if_neg (fun x=>x h0),if_pos h]
theorem named_tf {N:List UInt8} (h0:tryN N false false=0) (h1:tryN N false true=0) (h:tryN N true false≠0):zc9 N=zl0 (tryN N true false) true false:=by unfold zc9 zl9;rw [if_neg (fun x=>x h0),if_neg (fun x=>x h1),if_pos h]
theorem named_tt {N:List UInt8} (h0:tryN N false false=0) (h1:tryN N false true=0) (h2:tryN N true false=0) (h:tryN N true true≠0):zc9 N=zl0 (tryN N true true) true true:=by unfold zc9 zl9;rw [if_neg (fun x=>x h0),if_neg (fun x=>x h1),if_neg (fun x=>x h2),if_pos h]
theorem named_no {N:List UInt8} (h0:tryN N false false=0) (h1:tryN N false true=0) (h2:tryN N true false=0) (h3:tryN N true true=0):zc9 N=za5:=by unfold zc9 zl9;rw [if_neg (fun x=>x h0),if_neg (fun x=>x h1),if_neg (fun x=>x h2),if_neg (fun x=>x h3)];rfl
structure Rnd (W w1:World) (N:List UInt8) (g0:Nat) (aq rl:Bool) (P:ByteArray) (H:Bool) (B:Int):Prop where
 cut:∀ x,Calls Tryz.prog 85 #[.string (bs N),.string (bs (annT aq rl))] x fun e w'=>e=.returned (.tuple #[.string P,.bool H])∧w'=x
 byn:Calls Tryz.prog 189 #[.string P] w1 fun e w'=>e=.returned (.int .i64 B)∧w1=w'
 val:tryN N aq rl=if H then B else 0
 sets:Calls Tryz.prog 190 #[insV ⟨B,0,0,0,0,aq,rl,0,0⟩] w1 fun e w'=>e=.returned (.agg (za0 (zl0 B aq rl)))∧BW w1 w'
theorem zE0 (W w1:World) (N:List UInt8) (hl:N.length≤100000) (g0:Nat) (aq rl:Bool) (hN:TabN w1):∃ P H B,Rnd W w1 N g0 aq rl P H B:=by
 refine ⟨bs (Lib.trimSuffix N (annT aq rl)),Lib.hasSuffix N (annT aq rl),bynm (Lib.trimSuffix N (annT aq rl)),?_,?_,rfl,?_⟩
 ·intro x
  exact Tryz.strings_CutSuffix (bs N) (bs (annT aq rl)) x (by show N.length≤_;omega)
 ·have:=byname_c (bs (Lib.trimSuffix N (annT aq rl))) w1 hN
  rw [ze3] at this
  exact this
 ·exact zX3 _ aq rl w1
structure TabR (w:World):Prop where
 dec:Tab6 w
 names:TabN w
 shapes:TabS w
theorem TabR.below {W w:World} (h:TabR W) (hb:Below W.heap.size W w):TabR w:=⟨h.dec.below hb,h.names.below hb,h.shapes.below hb⟩
theorem Zk3 (N:List UInt8) (hl:N.length≤100000) (w:World) (T:TabR w):Calls Tryz.prog 160 #[tx N] w fun e w'=>e=.returned (insV (zc9 N))∧BW w w':=by
 have HJ0:=zs2 za5 w
 have HV:Hid (∀ {i:Ins},zc9 N=i→insV (zc9 N)=.agg (za0 i)):=fun e=>by rw [e];rfl
 have KA:=fun aq rl x=>annot_c aq rl x
 unfold tx at KA ⊢
 have ix0:∀ w:World,(Instr.index 177 (.agg #[.bool false,.bool true]) (.int .i64 0)).run Tryz.prog w=.ok (.bool false) w:=fun _=>by kernel_rfl
 have ix1:∀ w:World,(Instr.index 177 (.agg #[.bool false,.bool true]) (.int .i64 1)).run Tryz.prog w=.ok (.bool true) w:=fun _=>by kernel_rfl
 generalize insV (zc9 N)=res at *
 unfold za0 za5 at HJ0
 simp only at HJ0
 go_enter Tryz.func160,Tryz.ntmps160
 go_upto_region 1 with (fail)
 generalize w.alloc (.cells _ 39)=w1 at *
 obtain ⟨g,hg⟩:∃ g,w.heap.size=g:=⟨_,rfl⟩
 have HJ:Jn w za5 g w1:=by rw [← hg];exact HJ0
 rw [hg]
 clear hg HJ0
 have HN:=T.names.below HJ.1
 obtain ⟨Pff,Hff,Bff,rff⟩:=zE0 w w1 N hl g false false HN
 obtain ⟨Pft,Hft,Bft,rft⟩:=zE0 w w1 N hl g false true HN
 obtain ⟨Ptf,Htf,Btf,rtf⟩:=zE0 w w1 N hl g true false HN
 obtain ⟨Ptt,Htt,Btt,rtt⟩:=zE0 w w1 N hl g true true HN
 clear HN T
 go_wp2
 go_loop [11] (fun i=>∃ k:Nat,i=.int .i64 k∧k≤2∧Hid ((0<k→tryN N false false=0∧tryN N false true=0)∧(1<k→tryN N true false=0∧tryN N true true=0))) (fun i=>(2 - intOf i).toNat)
 case atStart=>exact ⟨0,rfl,by omega,⟨fun h=>absurd h (by omega),fun h=>absurd h (by omega)⟩⟩
 case round =>
  obtain ⟨k,rfl,hk,HK⟩:=hrel
  have hk3:k=0∨k=1∨k=2:=by omega
  clear hk
  rcases hk3 with rfl | rfl | rfl
  ·clear rtf rtt
   go_wp2
   go_loop [15] (fun i=>∃ j:Nat,i=.int .i64 j∧j≤2∧Hid ((0<j→tryN N false false=0)∧(1<j→tryN N false true=0))) (fun i=>(2 - intOf i).toNat)
   case atStart=>exact ⟨0,rfl,by omega,⟨fun h=>absurd h (by omega),fun h=>absurd h (by omega)⟩⟩
   case round =>
    obtain ⟨j,rfl,hj,HQ⟩:=hrel
    have hj3:j=0∨j=1∨j=2:=by omega
    clear hj
    rcases hj3 with rfl | rfl | rfl
    ·have hval:=rff.val
     have kc:=rff.cut
     have kb:=rff.byn
     have ks:=rff.sets
     have ka:=KA false false
     unfold insV at ks
     simp only at ks
     by_cases hv:tryN N false false=0
     ·have HQ2:Hid ((0<0 + 1→tryN N false false=0)∧(1<0 + 1→tryN N false true=0)):=⟨fun _=>hv,fun h=>absurd h (by omega)⟩
      rw [hv] at hval
      cases Hff with
      | false =>
       clear hv hval HQ HK
       go_wp2_with (first
        | (go_at_call 188;refine (ka _).mono ?_;rintro e w' ⟨rfl,rfl⟩)
        | (go_at_call 85;refine (kc _).mono ?_;rintro e w' ⟨rfl,rfl⟩)
        | (go_at_call 189;refine kb.mono ?_;rintro e w' ⟨rfl,rfl⟩))
       go_round
       case rel=>exact ⟨0 + 1,rfl,by omega,HQ2⟩
       case measure=>simp [intOf]
      | true =>
       rw [if_pos rfl] at hval
       have hb0:(Bff != 0)=false:=by rw [← hval];rfl
       clear hv hval HQ HK
       go_wp2_with (first
        | (go_at_call 188;refine (ka _).mono ?_;rintro e w' ⟨rfl,rfl⟩)
        | (go_at_call 85;refine (kc _).mono ?_;rintro e w' ⟨rfl,rfl⟩)
        | (go_at_call 189;refine kb.mono ?_;rintro e w' ⟨rfl,rfl⟩))
       go_round
       case rel=>exact ⟨0 + 1,rfl,by omega,HQ2⟩
       case measure=>simp [intOf]
     ·cases Hff with
      | false=>exact absurd hval hv
      | true =>
       rw [if_pos rfl] at hval
       have hv:tryN N false false≠0:=hv
       have hres:=HV.out (named_ff hv)
       rw [hval] at hres
       have hb0:(Bff != 0)=true:=by rw [← hval];simpa using hv
       have HRES:=Lib.hid hres
       clear hv hval HQ HK hres
       go_wp2_with (first
        | (go_at_call 188;refine (ka _).mono ?_;rintro e w' ⟨rfl,rfl⟩)
        | (go_at_call 85;refine (kc _).mono ?_;rintro e w' ⟨rfl,rfl⟩)
        | (go_at_call 189;refine kb.mono ?_;rintro e w' ⟨rfl,rfl⟩)
        | (go_at_call 190;refine ks.mono ?_;rintro e w2 ⟨rfl,hb⟩;obtain ⟨w3,hs,k4⟩:=(HJ.on hb).put (P:=Tryz.prog) (zl0 Bff false false);clear hb))
       exact bodyPost_ret (zb7 rfl rfl k4.2.1 Tryz.underlying39 rfl (by kernel_rfl)) rfl ⟨by rw [HRES.out],k4.1⟩
    ·have hval:=rft.val
     have kc:=rft.cut
     have kb:=rft.byn
     have ks:=rft.sets
     have ka:=KA false true
     unfold insV at ks
     simp only at ks
     by_cases hv:tryN N false true=0
     ·have HQ2:Hid ((0<1 + 1→tryN N false false=0)∧(1<1 + 1→tryN N false true=0)):=⟨fun _=>HQ.out.1 (by decide),fun _=>hv⟩
      rw [hv] at hval
      cases Hft with
      | false =>
       clear hv hval HQ HK
       go_wp2_with (first
        | (go_at_call 188;refine (ka _).mono ?_;rintro e w' ⟨rfl,rfl⟩)
        | (go_at_call 85;refine (kc _).mono ?_;rintro e w' ⟨rfl,rfl⟩)
        | (go_at_call 189;refine kb.mono ?_;rintro e w' ⟨rfl,rfl⟩))
       go_round
       case rel=>exact ⟨1 + 1,rfl,by omega,HQ2⟩
       case measure=>simp [intOf]
      | true =>
       rw [if_pos rfl] at hval
       have hb0:(Bft != 0)=false:=by rw [← hval];rfl
       clear hv hval HQ HK
       go_wp2_with (first
        | (go_at_call 188;refine (ka _).mono ?_;rintro e w' ⟨rfl,rfl⟩)
        | (go_at_call 85;refine (kc _).mono ?_;rintro e w' ⟨rfl,rfl⟩)
        | (go_at_call 189;refine kb.mono ?_;rintro e w' ⟨rfl,rfl⟩))
       go_round
       case rel=>exact ⟨1 + 1,rfl,by omega,HQ2⟩
       case measure=>simp [intOf]
     ·cases Hft with
      | false=>exact absurd hval hv
      | true =>
       rw [if_pos rfl] at hval
       have hv:tryN N false true≠0:=hv
       have hres:=HV.out (named_ft (HQ.out.1 (by decide)) hv)
       rw [hval] at hres
       have hb0:(Bft != 0)=true:=by rw [← hval];simpa using hv
       have HRES:=Lib.hid hres
       clear hv hval HQ HK hres
       go_wp2_with (first
        | (go_at_call 188;refine (ka _).mono ?_;rintro e w' ⟨rfl,rfl⟩)
        | (go_at_call 85;refine (kc _).mono ?_;rintro e w' ⟨rfl,rfl⟩)
        | (go_at_call 189;refine kb.mono ?_;rintro e w' ⟨rfl,rfl⟩)
        | (go_at_call 190;refine ks.mono ?_;rintro e w2 ⟨rfl,hb⟩;obtain ⟨w3,hs,k4⟩:=(HJ.on hb).put (P:=Tryz.prog) (zl0 Bft false true);clear hb))
       exact bodyPost_ret (zb7 rfl rfl k4.2.1 Tryz.underlying39 rfl (by kernel_rfl)) rfl ⟨by rw [HRES.out],k4.1⟩
    ·have HK2:Hid ((0<0 + 1→tryN N false false=0∧tryN N false true=0)∧(1<0 + 1→tryN N true false=0∧tryN N true true=0)):=⟨fun _=>⟨HQ.out.1 (by decide),HQ.out.2 (by decide)⟩,fun h=>absurd h (by omega)⟩
     clear HQ HK
     go_wp2
     go_round
     case rel=>exact ⟨0 + 1,rfl,by omega,HK2⟩
     case measure=>simp [intOf]
  ·clear rff rft
   go_wp2
   go_loop [15] (fun i=>∃ j:Nat,i=.int .i64 j∧j≤2∧Hid ((0<j→tryN N true false=0)∧(1<j→tryN N true true=0))) (fun i=>(2 - intOf i).toNat)
   case atStart=>exact ⟨0,rfl,by omega,⟨fun h=>absurd h (by omega),fun h=>absurd h (by omega)⟩⟩
   case round =>
    obtain ⟨j,rfl,hj,HQ⟩:=hrel
    have hj3:j=0∨j=1∨j=2:=by omega
    clear hj
    rcases hj3 with rfl | rfl | rfl
    ·have hval:=rtf.val
     have kc:=rtf.cut
     have kb:=rtf.byn
     have ks:=rtf.sets
     have ka:=KA true false
     unfold insV at ks
     simp only at ks
     by_cases hv:tryN N true false=0
     ·have HQ2:Hid ((0<0 + 1→tryN N true false=0)∧(1<0 + 1→tryN N true true=0)):=⟨fun _=>hv,fun h=>absurd h (by omega)⟩
      rw [hv] at hval
      cases Htf with
      | false =>
       clear hv hval HQ HK
       go_wp2_with (first
        | (go_at_call 188;refine (ka _).mono ?_;rintro e w' ⟨rfl,rfl⟩)
        | (go_at_call 85;refine (kc _).mono ?_;rintro e w' ⟨rfl,rfl⟩)
        | (go_at_call 189;refine kb.mono ?_;rintro e w' ⟨rfl,rfl⟩))
       go_round
       case rel=>exact ⟨0 + 1,rfl,by omega,HQ2⟩
       case measure=>simp [intOf]
      | true =>
       rw [if_pos rfl] at hval
       have hb0:(Btf != 0)=false:=by rw [← hval];rfl
       clear hv hval HQ HK
       go_wp2_with (first
        | (go_at_call 188;refine (ka _).mono ?_;rintro e w' ⟨rfl,rfl⟩)
        | (go_at_call 85;refine (kc _).mono ?_;rintro e w' ⟨rfl,rfl⟩)
        | (go_at_call 189;refine kb.mono ?_;rintro e w' ⟨rfl,rfl⟩))
       go_round
       case rel=>exact ⟨0 + 1,rfl,by omega,HQ2⟩
       case measure=>simp [intOf]
     ·cases Htf with
      | false=>exact absurd hval hv
      | true =>
       rw [if_pos rfl] at hval
       have hv:tryN N true false≠0:=hv
       have hres:=HV.out (named_tf (HK.out.1 (by decide)).1 (HK.out.1 (by decide)).2 hv)
       rw [hval] at hres
       have hb0:(Btf != 0)=true:=by rw [← hval];simpa using hv
       have HRES:=Lib.hid hres
       clear hv hval HQ HK hres
       go_wp2_with (first
        | (go_at_call 188;refine (ka _).mono ?_;rintro e w' ⟨rfl,rfl⟩)
        | (go_at_call 85;refine (kc _).mono ?_;rintro e w' ⟨rfl,rfl⟩)
        | (go_at_call 189;refine kb.mono ?_;rintro e w' ⟨rfl,rfl⟩)
        | (go_at_call 190;refine ks.mono ?_;rintro e w2 ⟨rfl,hb⟩;obtain ⟨w3,hs,k4⟩:=(HJ.on hb).put (P:=Tryz.prog) (zl0 Btf true false);clear hb))
       exact bodyPost_ret (zb7 rfl rfl k4.2.1 Tryz.underlying39 rfl (by kernel_rfl)) rfl ⟨by rw [HRES.out],k4.1⟩
    ·have hval:=rtt.val
     have kc:=rtt.cut
     have kb:=rtt.byn
     have ks:=rtt.sets
     have ka:=KA true true
     unfold insV at ks
     simp only at ks
     by_cases hv:tryN N true true=0
     ·have HQ2:Hid ((0<1 + 1→tryN N true false=0)∧(1<1 + 1→tryN N true true=0)):=⟨fun _=>HQ.out.1 (by decide),fun _=>hv⟩
      rw [hv] at hval
      cases Htt with
      | false =>
       clear hv hval HQ HK
       go_wp2_with (first
        | (go_at_call 188;refine (ka _).mono ?_;rintro e w' ⟨rfl,rfl⟩)
        | (go_at_call 85;refine (kc _).mono ?_;rintro e w' ⟨rfl,rfl⟩)
        | (go_at_call 189;refine kb.mono ?_;rintro e w' ⟨rfl,rfl⟩))
       go_round
       case rel=>exact ⟨1 + 1,rfl,by omega,HQ2⟩
       case measure=>simp [intOf]
      | true =>
       rw [if_pos rfl] at hval
       have hb0:(Btt != 0)=false:=by rw [← hval];rfl
       clear hv hval HQ HK
       go_wp2_with (first
        | (go_at_call 188;refine (ka _).mono ?_;rintro e w' ⟨rfl,rfl⟩)
        | (go_at_call 85;refine (kc _).mono ?_;rintro e w' ⟨rfl,rfl⟩)
        | (go_at_call 189;refine kb.mono ?_;rintro e w' ⟨rfl,rfl⟩))
       go_round
       case rel=>exact ⟨1 + 1,rfl,by omega,HQ2⟩
       case measure=>simp [intOf]
     ·cases Htt with
      | false=>exact absurd hval hv
      | true =>
       rw [if_pos rfl] at hval
       have hv:tryN N true true≠0:=hv
       have hres:=HV.out (named_tt (HK.out.1 (by decide)).1 (HK.out.1 (by decide)).2 (HQ.out.1 (by decide)) hv)
       rw [hval] at hres
       have hb0:(Btt != 0)=true:=by rw [← hval];simpa using hv
       have HRES:=Lib.hid hres
       clear hv hval HQ HK hres
       go_wp2_with (first
        | (go_at_call 188;refine (ka _).mono ?_;rintro e w' ⟨rfl,rfl⟩)
        | (go_at_call 85;refine (kc _).mono ?_;rintro e w' ⟨rfl,rfl⟩)
        | (go_at_call 189;refine kb.mono ?_;rintro e w' ⟨rfl,rfl⟩)
        | (go_at_call 190;refine ks.mono ?_;rintro e w2 ⟨rfl,hb⟩;obtain ⟨w3,hs,k4⟩:=(HJ.on hb).put (P:=Tryz.prog) (zl0 Btt true true);clear hb))
       exact bodyPost_ret (zb7 rfl rfl k4.2.1 Tryz.underlying39 rfl (by kernel_rfl)) rfl ⟨by rw [HRES.out],k4.1⟩
    ·have HK2:Hid ((0<1 + 1→tryN N false false=0∧tryN N false true=0)∧(1<1 + 1→tryN N true false=0∧tryN N true true=0)):=⟨fun _=>HK.out.1 (by decide),fun _=>⟨HQ.out.1 (by decide),HQ.out.2 (by decide)⟩⟩
     clear HQ HK
     go_wp2
     go_round
     case rel=>exact ⟨1 + 1,rfl,by omega,HK2⟩
     case measure=>simp [intOf]
  ·have hres:=HV.out (named_no (HK.out.1 (by decide)).1 (HK.out.1 (by decide)).2 (HK.out.2 (by decide)).1 (HK.out.2 (by decide)).2)
   have HRES:=Lib.hid hres
   have c0:=HJ.2.1.cell 0
   have c1:=HJ.2.1.cell 1
   have c2:=HJ.2.1.cell 2
   have c3:=HJ.2.1.cell 3
   have c4:=HJ.2.1.cell 4
   have c5:=HJ.2.1.cell 5
   have c6:=HJ.2.1.cell 6
   have c7:=HJ.2.1.cell 7
   have c8:=HJ.2.1.cell 8
   simp only [za5,za0] at c0 c1 c2 c3 c4 c5 c6 c7 c8
   have f0:=HJ.2.1.free 0
   have f1:=HJ.2.1.free 1
   have f2:=HJ.2.1.free 2
   have f3:=HJ.2.1.free 3
   have f4:=HJ.2.1.free 4
   have f5:=HJ.2.1.free 5
   have f6:=HJ.2.1.free 6
   have f7:=HJ.2.1.free 7
   have f8:=HJ.2.1.free 8
   clear hres HK
   go_wp2
   have HW:=(((((((((HJ.2.1.set 0 (.int .i64 0)).set 1 (.int .i64 0)).set 2 (.int .i64 0)).set 3 (.int .i64 0)).set 4 (.int .i64 0)).set 5 (.bool false)).set 6 (.bool false)).set 7 (.int .i64 0)).set 8 (.int .i64 0))
   have HW':Blk (za0 za5) 39 g _:=HW
   refine bodyPost_ret (zb7 rfl rfl HW' Tryz.underlying39 rfl (by kernel_rfl)) rfl ⟨by rw [HRES.out],?_⟩
   exact ((((((((HJ.1.setCell HJ.2.2 _).setCell HJ.2.2 _).setCell HJ.2.2 _).setCell HJ.2.2 _).setCell HJ.2.2 _).setCell HJ.2.2 _).setCell HJ.2.2 _).setCell HJ.2.2 _).setCell HJ.2.2 _
open Go.RowKit
def KeptBut (g:Nat) (w w':World):Prop:=w.heap.size≤w'.heap.size∧∀ b,b<w.heap.size→b≠g→w'.heap[b]?=w.heap[b]?
theorem KeptBut.refl (g:Nat) (w:World):KeptBut g w w:=⟨Nat.le_refl _,fun _ _ _=>rfl⟩
theorem KeptBut.trans {g:Nat} {a b c:World} (h1:KeptBut g a b) (h2:KeptBut g b c):KeptBut g a c:=⟨Nat.le_trans h1.1 h2.1,fun k hk hg=>(h2.2 k (Nat.lt_of_lt_of_le hk h1.1) hg).trans (h1.2 k hk hg)⟩
theorem KeptBut.store {g k:Nat} {w w2:World} {v:Value} (hb:Below w.heap.size w w2):KeptBut g w (w2.setCell ⟨g,k,none⟩ v):=by
 refine ⟨?_,fun b hlt hne=>?_⟩
 ·have:=hb.size;simpa using this
 ·rw [Below.heap_setCell w2 ⟨g,k,none⟩ v b hne];exact hb.block b hlt
theorem KeptBut.cell {g b i:Nat} {w w':World} (h:KeptBut g w w') (hlt:b<w.heap.size) (hne:b≠g):w'.cell? ⟨b,i,none⟩=w.cell? ⟨b,i,none⟩:=World.cell?_of_block (h.2 b hlt hne)
theorem Zh6 (o:Option Int):retO o=.tuple #[.int .i64 (o.getD 0),.bool o.isSome]:=rfl
theorem put_fill (W:World) (i:Ins) (g:Nat) (c:UInt8) (hc:c ∈ sixL) (p:List UInt8) (hl:p.length≤100000) (w:World) (hJ:Jn W i g w) :
  Calls Tryz.prog 163 #[.pointer (some ⟨g,0,none⟩),.int .u8 (c.toNat:Int),tx p] w fun e w'=>e=.returned (.bool (putT i c p).2)∧Jn W (putT i c p).1 g w'∧KeptBut g w w':=by
 have KR:=reg_c p hl w
 have KN:=Zl9 p hl w
 have KS:=Zq8 p w
 rw [Zh6] at KR KN KS
 have v1:Hid (putT i 100 p=({ i with rd:=(regS p).getD 0 },(regS p).isSome)):=rfl
 have v2:Hid (putT i 97 p=({ i with rs1:=(regS p).getD 0 },(regS p).isSome)):=rfl
 have v3:Hid (putT i 98 p=({ i with rs2:=(regS p).getD 0 },(regS p).isSome)):=rfl
 have v4:Hid (putT i 110 p=({ i with imm:=(numV p).getD 0 },(numV p).isSome)):=rfl
 have v5:Hid (putT i 112 p=({ i with pred:=(setO p).getD 0 },(setO p).isSome)):=rfl
 have v6:Hid (putT i 115 p=({ i with succ:=(setO p).getD 0 },(setO p).isSome)):=rfl
 unfold tx at *
 generalize bs p=q at *
 simp only [sixL,List.mem_cons,List.not_mem_nil,or_false] at hc
 rcases hc with rfl | rfl | rfl | rfl | rfl | rfl
 ·rw [v1.out]
  clear v1 v2 v3 v4 v5 v6 KN KS
  generalize (regS p).getD 0=x at *
  generalize (regS p).isSome=b at *
  go_enter Tryz.func163,Tryz.ntmps163
  go_wp2_with (first
   | (go_at_call 125;refine KR.mono ?_;rintro e w2 ⟨rfl,hb⟩;have HJ2:=hJ.on hb;have ff:=HJ2.2.1.free 1;have cc:=HJ2.2.1.cell 1;simp only [za0] at cc;have HBX:=Lib.hid hb;clear hb))
  go_ret
  exact ⟨rfl,HJ2.s1 x,KeptBut.store HBX.out⟩
 ·rw [v2.out]
  clear v1 v2 v3 v4 v5 v6 KN KS
  generalize (regS p).getD 0=x at *
  generalize (regS p).isSome=b at *
  go_enter Tryz.func163,Tryz.ntmps163
  go_wp2_with (first
   | (go_at_call 125;refine KR.mono ?_;rintro e w2 ⟨rfl,hb⟩;have HJ2:=hJ.on hb;have ff:=HJ2.2.1.free 2;have cc:=HJ2.2.1.cell 2;simp only [za0] at cc;have HBX:=Lib.hid hb;clear hb))
  go_ret
  exact ⟨rfl,HJ2.s2 x,KeptBut.store HBX.out⟩
 ·rw [v3.out]
  clear v1 v2 v3 v4 v5 v6 KN KS
  generalize (regS p).getD 0=x at *
  generalize (regS p).isSome=b at *
  go_enter Tryz.func163,Tryz.ntmps163
  go_wp2_with (first
   | (go_at_call 125;refine KR.mono ?_;rintro e w2 ⟨rfl,hb⟩;have HJ2:=hJ.on hb;have ff:=HJ2.2.1.free 3;have cc:=HJ2.2.1.cell 3;simp only [za0] at cc;have HBX:=Lib.hid hb;clear hb))
  go_ret
  exact ⟨rfl,HJ2.s3 x,KeptBut.store HBX.out⟩
 ·rw [v4.out]
  clear v1 v2 v3 v4 v5 v6 KR KS
  generalize (numV p).getD 0=x at *
  generalize (numV p).isSome=b at *
  go_enter Tryz.func163,Tryz.ntmps163
  go_wp2_with (first
   | (go_at_call 87;refine KN.mono ?_;rintro e w2 ⟨rfl,hb⟩;have HJ2:=hJ.on hb;have ff:=HJ2.2.1.free 4;have cc:=HJ2.2.1.cell 4;simp only [za0] at cc;have HBX:=Lib.hid hb;clear hb))
  go_ret
  exact ⟨rfl,HJ2.s4 x,KeptBut.store HBX.out⟩
 ·rw [v5.out]
  clear v1 v2 v3 v4 v5 v6 KR KN
  generalize (setO p).getD 0=x at *
  generalize (setO p).isSome=b at *
  go_enter Tryz.func163,Tryz.ntmps163
  go_wp2_with (first
   | (go_at_call 192;refine KS.mono ?_;rintro e w2 ⟨rfl,hb⟩;have HJ2:=hJ.on hb;have ff:=HJ2.2.1.free 7;have cc:=HJ2.2.1.cell 7;simp only [za0] at cc;have HBX:=Lib.hid hb;clear hb))
  go_ret
  exact ⟨rfl,HJ2.s7 x,KeptBut.store HBX.out⟩
 ·rw [v6.out]
  clear v1 v2 v3 v4 v5 v6 KR KN
  generalize (setO p).getD 0=x at *
  generalize (setO p).isSome=b at *
  go_enter Tryz.func163,Tryz.ntmps163
  go_wp2_with (first
   | (go_at_call 192;refine KS.mono ?_;rintro e w2 ⟨rfl,hb⟩;have HJ2:=hJ.on hb;have ff:=HJ2.2.1.free 8;have cc:=HJ2.2.1.cell 8;simp only [za0] at cc;have HBX:=Lib.hid hb;clear hb))
  go_ret
  exact ⟨rfl,HJ2.s8 x,KeptBut.store HBX.out⟩
open Go.RowKit
theorem zw5 {w:World} {b1 b2 n1 n2:Nat} {e1 e2:TypeId} {v1 v2:Value} {xs ys:List Value} (h1:w.ownsRow b1 e1 1 v1 n1 xs) (h2:w.ownsRow b2 e2 1 v2 n2 ys) (hne:e1≠e2):v1.ownBlock=none∨v1.ownBlock≠v2.ownBlock:=by
 rcases h1.2 with ⟨rfl,_⟩ | ⟨g1,c1,cur1,rfl,_,hg1,_⟩
 ·exact .inl rfl
 ·rcases h2.2 with ⟨rfl,_⟩ | ⟨g2,c2,cur2,rfl,_,hg2,_⟩
  ·exact .inr (by simp [Value.ownBlock])
  ·right
   simp only [Value.ownBlock]
   intro e
   obtain rfl:=Option.some.inj e
   rw [hg1] at hg2
   exact hne (by injection Option.some.inj hg2)
def RetCut (w:World) (o:Option (List (UInt8 × List UInt8) × List UInt8)) (e:Ending) (w':World):Prop :=
 match o with
 | none=>e=.returned (.tuple #[.slice none 0 0,.slice none 0 0,.bool false])∧Below w.heap.size w w'
 | some x=>∃ v7 v8 b,e=.returned (.tuple #[v7,v8,.bool b])∧b=decide (x.2=[])∧w'.ownsRow w.heap.size 5 1 v7 x.1.length (zd1 (x.1.map Prod.fst))∧w'.ownsRow w.heap.size 9 1 v8 x.1.length (txs (x.1.map Prod.snd))∧Below w.heap.size w w'
theorem zW4 {s:List UInt8} {j:Nat} (hj:j<s.length) (h:∀ q (hq:q<s.length),q<j→noMk s[q]=true) (hm:isMk s[j]=true):s.takeWhile noMk=s.take j∧s.dropWhile noMk=s.drop j:=by
 have e:s.take j ++ s.drop j=s:=List.take_append_drop _ _
 have:=zC9 (a:=s.take j) (b:=s.drop j) (fun c hc=>by
  obtain ⟨q,hq,rfl⟩:=List.getElem_of_mem hc
  rw [List.length_take] at hq
  rw [List.getElem_take]
  exact h q (by omega) (by omega)) (.inr ⟨s[j],s.drop (j + 1),List.drop_eq_getElem_cons hj,hm⟩)
 rw [e] at this
 exact this
theorem Zh4 {s:List UInt8} (h:∀ q (hq:q<s.length),noMk s[q]=true):s.takeWhile noMk=s∧s.dropWhile noMk=[]:=by
 have:=zC9 (a:=s) (b:=[]) (fun c hc=>by
  obtain ⟨q,hq,rfl⟩:=List.getElem_of_mem hc
  exact h q hq) (.inl rfl)
 rw [List.append_nil] at this
 exact this
theorem zS7 (S O:List UInt8) (hS:S.length≤100000) (hO:O.length≤20) (w:World):Calls Tryz.prog 161 #[tx S,tx O] w (RetCut w (cutA O S [])):=by
 obtain ⟨i0,hi,hz0,hz1,hz2⟩:=info_parts Tryz.info5
 obtain ⟨i9,gi,gz0,gz1,gz2⟩:=info_parts info_str
 obtain ⟨cap,w1,hconv,hB1,hg1,hcells⟩:=zB3 O w
 have KM:=fun c x=>isMark_c c x
 have HC:=Lib.hid hcells
 have HB:=Lib.hid hB1
 clear hcells hB1
 unfold tx
 go_enter Tryz.func161,Tryz.ntmps161
 go_wp2
 go_step3
 go_wp2
 go_step3
 go_wp2
 obtain ⟨g,hgw⟩:∃ g,w.heap.size=g:=⟨_,rfl⟩
 have HB0:Hid (g≤w1.heap.size):=by show g≤_;rw [← hgw];exact Below.size HB.out
 rw [hgw] at HC hg1 ⊢
 obtain ⟨res,hres⟩:∃ r,cutA O S []=r:=⟨_,rfl⟩
 rw [hres]
 have HRS:=Lib.hid hres
 clear hconv hres
 go_loopg [0,7,8,15] O.length (fun gg s v7 v8 i wr=>∃ (k:Nat) (Sk:List UInt8) (A:List (UInt8 × List UInt8)),i=.int .i64 k∧k + gg=O.length∧s=.string (bs Sk)∧Hid (cutA (O.drop k) Sk A=res)∧Sk.length≤100000∧A.length≤k∧Hid (wr.ownsRow w1.heap.size 5 1 v7 A.length (zd1 (A.map Prod.fst)))∧Hid (wr.ownsRow w1.heap.size 9 1 v8 A.length (txs (A.map Prod.snd)))∧Hid (Below w1.heap.size w1 wr))
 case atStart=>exact ⟨0,S,[],rfl,by omega,rfl,HRS,hS,Nat.le_refl _,World.ownsRow_nil _ _ _ _,World.ownsRow_nil _ _ _ _,Below.refl _ _⟩
 case round =>
  obtain ⟨k,Sk,A,rfl,hk,rfl,HA,hSk,hAk,HL,HP,HBR⟩:=hrel
  by_cases hlt:k<O.length
  ·have hc:=HC.out k hlt
   rw [← HBR.out.cell (p:=⟨g,k,none⟩) hg1] at hc
   have hd:O.drop k=O[k] :: O.drop (k + 1):=List.drop_eq_getElem_cons hlt
   obtain ⟨c,hcc⟩:∃ c,O[k]=c:=⟨_,rfl⟩
   rw [hcc] at hc hd
   have hA:=HA.out
   rw [hd,cutA] at hA
   have hm:=KM c wr
   have hltI:(k:Int)<O.length:=by omega
   clear hd hcc HA HC
   cases hmk:isMk c with
   | true =>
    rw [hmk] at hm
    rw [if_pos hmk] at hA
    obtain ⟨d,hdd⟩:∃ d,bs Sk=d:=⟨_,rfl⟩
    have hE:d.toList.isEmpty=Sk.isEmpty:=by rw [← hdd,ze3]
    have hsz:d.size=Sk.length:=by rw [← hdd];rfl
    cases Sk with
    | nil =>
     have hE:d.toList.isEmpty=true:=hE
     have hR:res=none:=hA.symm
     have HR:=Lib.hid hR
     rw [hdd]
     clear hA hR hsz HL HP
     go_wp2_with (first
      | (go_at_call 191;refine hm.mono ?_;rintro e w' ⟨rfl,rfl⟩))
     try rw [Exit.noGoto_ret]
     go_ret3
     rw [HR.out]
     exact ⟨rfl,Below.trans HB.out (HBR.out.mono (Below.size HB.out))⟩
    | cons a t =>
     have hE:d.toList.isEmpty=false:=hE
     have hp:0<d.size:=by rw [hsz];simp
     have hx:d[0]=a:=by subst hdd;rfl
     have hx1:d.extract 1 d.size=bs t:=by subst hdd;exact zk7 (a :: t) 1
     have hp1:(1:Int)≤d.size:=by omega
     by_cases hac:a=c
     ·have hR:cutA (O.drop (k + 1)) t A=res:=by rw [← hA,hac,zU4];rfl
      have HR:=Lib.hid hR
      have hne:((d[0].toNat:Int) != (c.toNat:Int))=false:=by rw [hx,hac];simp
      rw [hdd]
      clear hA hR hx hac hdd hsz
      go_wp2_with (first
       | (go_at_call 191;refine hm.mono ?_;rintro e w' ⟨rfl,rfl⟩))
      go_roundg (O.length - (k + 1))
      case measure=>omega
      case rel=>exact ⟨k + 1,t,A,by go_num,by omega,rfl,HR,by simp at hSk;omega,by omega,HL,HP,HBR⟩
     ·have hR:res=none:=by rw [← hA];unfold eatT;simp only;rw [if_neg hac];rfl
      have HR:=Lib.hid hR
      have hne:((d[0].toNat:Int) != (c.toNat:Int))=true:=by
       rw [hx,bne_iff_ne]
       intro e
       exact hac (UInt8.toNat_inj.1 (by omega))
      rw [hdd]
      clear hA hR hx hac hdd HL HP
      go_wp2_with (first
       | (go_at_call 191;refine hm.mono ?_;rintro e w' ⟨rfl,rfl⟩))
      try rw [Exit.noGoto_ret]
      go_ret3
      rw [HR.out]
      exact ⟨rfl,Below.trans HB.out (HBR.out.mono (Below.size HB.out))⟩
   | false =>
    rw [hmk] at hm
    rw [if_neg (by rw [hmk];decide)] at hA
    obtain ⟨d,hdd⟩:∃ d,bs Sk=d:=⟨_,rfl⟩
    have hsz:d.size=Sk.length:=by rw [← hdd];rfl
    obtain ⟨C,hCC⟩:∃ C:Int,(c.toNat:Int)=C:=⟨_,rfl⟩
    have hcl:zd1 ((A ++ [(c,Sk.takeWhile noMk)]).map Prod.fst)=zd1 (A.map Prod.fst) ++ [.int .u8 C]:=by rw [← hCC];simp [zd1]
    rw [hCC] at hc hm
    rw [hdd]
    go_upto_region 11 with (first
     | (go_at_call 191;refine hm.mono ?_;rintro e w' ⟨rfl,rfl⟩)
     | (at_builtin;refine wpList_append_own _ rfl _ _ 26 rfl w1.heap.size 5 i0 (.int .u8 0) 1 1 Tryz.underlying26 hi hz0 hz1 hz2 rfl (by decide) _ _ _ rfl (HL.out.alloc _) ⟨wr.heap.size,0,none⟩ 1 1 [.int .u8 C] rfl rfl (zi4 _ _ _) (by simp [Value.oneCell']) (by unfold maxLen;omega) (by omega) (by have:=HBR.out.size;simp;omega) ?_))
    intro v7 wa hown hgrow hnn
    clear hnn
    have HBB:Hid (Below w1.heap.size w1 wa):=(HBR.out.alloc HBR.out.size _).grown hgrow (by have:=HBR.out.size;simp;omega) (fun q hq=>(HL.out.lt q hq).1)
    have HP1:Hid (wa.ownsRow w1.heap.size 9 1 u8 A.length (txs (A.map Prod.snd))):=(HP.out.alloc _).kept hgrow (zw5 HP.out HL.out (by decide))
    have HL1:=Lib.hid hown
    clear hown hgrow HL HP hc hm
    go_wp2
    have hcl2:A.length + 1=(A ++ [(c,Sk.takeWhile noMk)]).length:=by simp
    rw [← hcl,hcl2] at HL1
    clear hcl hcl2
    go_loopg [0,8,37] Sk.length (fun hh t0 t8 ti wy=>wa=wy∧t0=.string d∧t8=u8∧∃ j:Nat,ti=.int .i64 j∧j + hh=Sk.length∧Hid (∀ q (hq:q<Sk.length),q<j→noMk Sk[q]=true))
    case atStart=>exact ⟨rfl,rfl,rfl,0,rfl,by omega,fun q hq h=>absurd h (by omega)⟩
    case round =>
     obtain ⟨rfl,rfl,rfl,j,rfl,hj,HQ⟩:=hrel
     by_cases hjl:j<Sk.length
     ·have hjd:j<d.size:=by omega
      have hjI:(j:Int)<d.size:=by omega
      obtain ⟨y,hy⟩:∃ y,Sk[j]=y:=⟨_,rfl⟩
      have hdy:d[j]=y:=by subst hdd;exact hy
      have hmy:=KM y wa
      cases hyk:isMk y with
      | true =>
       rw [hyk] at hmy
       obtain ⟨t1,t2⟩:=zW4 hjl HQ.out (by rw [hy];exact hyk)
       have hx1:d.extract 0 j=bs (Sk.takeWhile noMk):=by rw [t1,← hdd];exact zv0 Sk j
       have hx2:d.extract j d.size=bs (Sk.dropWhile noMk):=by rw [t2,← hdd];exact zk7 Sk j
       have hdl:(Sk.dropWhile noMk).length≤100000:=by rw [t2,List.length_drop];omega
       have hjI2:(j:Int)≤d.size:=by omega
       have hps:txs ((A ++ [(c,Sk.takeWhile noMk)]).map Prod.snd)=txs (A.map Prod.snd) ++ [tx (Sk.takeWhile noMk)]:=by simp [txs]
       have hAl:A.length + 1=(A ++ [(c,Sk.takeWhile noMk)]).length:=by simp
       have HPS:=Lib.hid hps
       have HAL:=Lib.hid hAl
       clear HQ hy hsz t1 t2 hps hAl
       go_upto_region 15 with (first
        | (go_at_call 191;refine hmy.mono ?_;rintro e w' ⟨rfl,rfl⟩))
       go_region_law (refine step_append_lies (hgd:=rfl) (s:=.tmp 44) (x:=.tmp 48) (t:=99) (ho:=rfl) (base:=w1.heap.size) (e:=9) (i:=i9) (z:=.string ByteArray.empty) (size:=1) (bytes:=16) (ht:=Tryz.underlying99) (hi:=gi) (hz:=gz0) (hsize:=gz1) (hby:=gz2) (hzs:=rfl) (hsz:=by decide) (v:=u8) (n:=A.length) (xs:=txs (A.map Prod.snd)) (hs:=by simp [Act.eval]) (hown:=HP1.out.alloc (.cells #[tx (Sk.takeWhile noMk)] 9)) (ad:=⟨wa.heap.size,0,none⟩) (m:=1) (c:=1) (news:=[tx (Sk.takeWhile noMk)]) (hx:=by simp [Act.eval]) (hl:=rfl) (hnews:=zi4 wa _ _) (h1:=by simp [tx,Value.oneCell']) (hm:=by decide) (h63:=by unfold maxLen;omega) (hbytes:=by omega) (hbase:=by have:=HBB.out.size;simp;omega) (H:=_) (hH:=rfl) (h:=?_);intro gp cp wb hown hgrow hlies hltb;have HP2:=Lib.hid hown;have HG:=Lib.hid hgrow;clear hown hgrow hlies hltb)
       have HBB2:Hid (Below w1.heap.size w1 wb):=(Below.drew (HBB.out.alloc HBB.out.size (.cells #[tx (Sk.takeWhile noMk)] 9))).grown HG.out (by have:=HBB.out.size;simp;omega) (fun q hq=>(HP1.out.lt q hq).1)
       have HL2:Hid (wb.ownsRow w1.heap.size 5 1 v7 (A ++ [(c,Sk.takeWhile noMk)]).length (zd1 ((A ++ [(c,Sk.takeWhile noMk)]).map Prod.fst))):=(show World.ownsRow (wa.alloc (.cells #[tx (Sk.takeWhile noMk)] 9)).drew _ _ _ _ _ _ from HL1.out.alloc _).kept HG.out (zw5 HL1.out HP1.out (by decide))
       have HP3:=HP2.out
       rw [← HPS.out,HAL.out] at HP3
       have HP4:=Lib.hid HP3
       clear HP3 HP2 HG HPS HBB HL1 HP1
       have HA2:=Lib.hid hA
       clear hA
       obtain ⟨np,hnp⟩:∃ n,A.length + 1=n:=⟨_,rfl⟩
       have HNP:=HAL.out
       rw [hnp] at HNP ⊢
       clear hnp
       have HNPH:=Lib.hid HNP
       clear HNP HAL
       go_wp2
       go_roundg (O.length - (k + 1))
       case measure=>omega
       case rel=>exact ⟨k + 1,Sk.dropWhile noMk,A ++ [(c,Sk.takeWhile noMk)],by go_num,by omega,rfl,HA2,hdl,by simp;omega,HL2,by rw [HNPH.out];exact HP4,HBB2⟩
      | false =>
       rw [hyk] at hmy
       have HQ2:Hid (∀ q (hq:q<Sk.length),q<j + 1→noMk Sk[q]=true):=fun q hq h=>by
        rcases Nat.lt_succ_iff_lt_or_eq.1 h with h | rfl
        ·exact HQ.out q hq h
        ·unfold noMk;rw [hy,hyk];rfl
       clear HQ hy hsz
       go_wp2_with (first
        | (go_at_call 191;refine hmy.mono ?_;rintro e w' ⟨rfl,rfl⟩))
       go_roundg (Sk.length - (j + 1))
       case measure=>omega
       case rel=>exact ⟨rfl,rfl,rfl,j + 1,by go_num,by omega,HQ2⟩
     ·obtain ⟨t1,t2⟩:=Zh4 (s:=Sk) (fun q hq=>HQ.out q hq (by omega))
      have hps:txs ((A ++ [(c,Sk.takeWhile noMk)]).map Prod.snd)=txs (A.map Prod.snd) ++ [.string d]:=by rw [t1,← hdd];simp [txs,tx]
      have hAl:A.length + 1=(A ++ [(c,Sk.takeWhile noMk)]).length:=by simp
      rw [t2] at hA
      have hjz:¬ (j:Int)<d.size:=by omega
      have hjz2:¬ (j:Int)<Sk.length:=by omega
      have HPS:=Lib.hid hps
      have HAL:=Lib.hid hAl
      clear HQ hsz t1 t2 hps hAl
      go_wp2_with (first
       | (at_builtin;refine wpList_append_own _ rfl _ _ 99 rfl w1.heap.size 9 i9 (.string ByteArray.empty) 1 16 Tryz.underlying99 gi gz0 gz1 gz2 rfl (by decide) _ _ _ rfl (HP1.out.alloc _) ⟨wa.heap.size,0,none⟩ 1 1 [.string d] rfl rfl (zi4 _ _ _) (by simp [Value.oneCell']) (by unfold maxLen;omega) (by omega) (by have:=HBB.out.size;simp;omega) ?_))
      intro v8 wb hown hgrow hnn
      clear hnn
      have HBB2:Hid (Below w1.heap.size w1 wb):=(HBB.out.alloc HBB.out.size _).grown hgrow (by have:=HBB.out.size;simp;omega) (fun q hq=>(HP1.out.lt q hq).1)
      have HL2:Hid (wb.ownsRow w1.heap.size 5 1 v7 (A ++ [(c,Sk.takeWhile noMk)]).length (zd1 ((A ++ [(c,Sk.takeWhile noMk)]).map Prod.fst))):=(HL1.out.alloc _).kept hgrow (zw5 HL1.out HP1.out (by decide))
      rw [← HPS.out,HAL.out] at hown
      have HP4:=Lib.hid hown
      clear hown hgrow HPS HBB HL1 HP1 HAL
      have HA2:=Lib.hid hA
      clear hA
      go_wp2
      go_roundg (O.length - (k + 1))
      case measure=>omega
      case rel=>exact ⟨k + 1,[],A ++ [(c,Sk.takeWhile noMk)],by go_num,by omega,rfl,HA2,by simp,by simp;omega,HL2,HP4,HBB2⟩
  ·obtain rfl:k=O.length:=by omega
   have hA:=HA.out
   rw [List.drop_length,cutA] at hA
   have HR:=Lib.hid hA.symm
   have hE:((bs Sk).toList == [])=decide (Sk=[]):=by rw [ze3];cases Sk <;> rfl
   have hE2:(bs Sk).toList.isEmpty=decide (Sk=[]):=by rw [ze3];cases Sk <;> rfl
   clear hA HA
   go_wp2
   try rw [Exit.noGoto_ret]
   go_ret3
   try rw [HRS.out]
   rw [HR.out]
   exact ⟨_,_,_,rfl,rfl,Joins.ownsRow_le HL.out (Below.size HB.out),Joins.ownsRow_le HP.out (Below.size HB.out),Below.trans HB.out (HBR.out.mono (Below.size HB.out))⟩
open Go.RowKit
theorem cut_len (o:List UInt8):∀ s A B r,cutA o s A=some (B,r)→∀ x ∈ B,x ∈ A∨x.2.length≤s.length:=by
 induction o with
 | nil =>
  intro s A B r h x hx
  obtain ⟨rfl,rfl⟩:=Prod.mk.inj (Option.some.inj h)
  exact .inl hx
 | cons c o ih =>
  intro s A B r h x hx
  rw [cutA] at h
  cases hc:isMk c with
  | true =>
   rw [if_pos hc] at h
   obtain ⟨t,ht,hx2⟩:=Option.bind_eq_some_iff.1 h
   obtain rfl:=zS9 ht
   rcases ih _ _ _ _ hx2 x hx with h1 | h1
   ·exact .inl h1
   ·exact .inr (by simp;omega)
  | false =>
   rw [if_neg (by rw [hc];decide)] at h
   have hl:(s.takeWhile noMk).length + (s.dropWhile noMk).length=s.length:=by rw [← List.length_append,List.takeWhile_append_dropWhile]
   rcases ih _ _ _ _ h x hx with h1 | h1
   ·rcases List.mem_append.1 h1 with h2 | h2
    ·exact .inl h2
    ·rw [List.mem_singleton.1 h2];exact .inr (by simp only;omega)
   ·exact .inr (by omega)
theorem zU6 (N:List UInt8):I64 (zc9 N).op:=by
 by_cases h:(zc9 N).op=0
 ·rw [h];unfold I64;decide
 ·have:=(zx5 h).1;unfold I64;omega
theorem Zq4 (l:List (UInt8 × List UInt8)):∀ i b,(zf1 i l b).1.op=i.op:=by
 induction l with
 | nil=>intro i b;rfl
 | cons x l ih=>intro i b;rw [zf1,ih];exact (put_op i x.1 x.2).1
theorem zI2 (S:List UInt8):zt2 S=S.drop (zf9 S).length:=by
 unfold zt2 zf9
 have h:S.takeWhile no32 ++ S.dropWhile no32=S:=List.takeWhile_append_dropWhile
 rw [← congrArg (List.drop (S.takeWhile no32).length) h,List.drop_left]
theorem own_at {w:World} {base n:Nat} {e:TypeId} {v:Value} {xs:List Value} (h:w.ownsRow base e 1 v n xs):∃ A c,v=.slice A n c∧∀ k,k<n→∃ b,A=some ⟨b,0,none⟩∧base≤b∧b<w.heap.size∧w.cell? ⟨b,k,none⟩=xs[k]?:=by
 rcases h.2 with ⟨rfl,rfl⟩ | ⟨g,c,cur,rfl,hb,hg,hn,_,hs,ht⟩
 ·exact ⟨none,0,rfl,fun k hk=>absurd hk (Nat.not_lt_zero k)⟩
 ·refine ⟨_,c,rfl,fun k hk=>⟨g,rfl,hb,(Array.getElem?_eq_some_iff.1 hg).1,?_⟩⟩
  rw [cell_of_row w g k cur e (0,0) hg,← ht,Nat.mul_one,List.getElem?_take,if_pos hk,Array.getElem?_toList]
def RetRd (w:World) (o:Option Ins) (e:Ending) (w':World):Prop:=e=.returned (.tuple #[insV (o.getD za5),.int .i64 (if o.isSome then 0 else 5)])∧Below w.heap.size w w'
theorem Zr0 (S:List UInt8) (hl:S.length≤100000) (w:World) (T:TabR w) (hcut:cutA (shpT (zc9 (zf9 S)).op) (zt2 S) []=none):Calls Tryz.prog 126 #[tx S] w (RetRd w (zq3 S)):=by
 have KC:=fun x=>zQ7 S hl x
 have hnl:(zf9 S).length≤S.length:=by
  have h:S.takeWhile no32 ++ S.dropWhile no32=S:=List.takeWhile_append_dropWhile
  have:=congrArg List.length h
  rw [List.length_append] at this
  unfold zf9
  omega
 have KN:=fun x (h:BW w x)=>Zk3 (zf9 S) (by omega) x (T.below h)
 have hN:=zU6 (zf9 S)
 have HRD:Hid (zq3 S=match cutA (shpT (zc9 (zf9 S)).op) (zt2 S) [] with
  | none=>none
  | some x=>if (zf1 (zc9 (zf9 S)) x.1 (decide (x.2=[]))).2 && rgtB (zf1 (zc9 (zf9 S)) x.1 (decide (x.2=[]))).1 then some (zf1 (zc9 (zf9 S)) x.1 (decide (x.2=[]))).1 else none):=rfl
 have hR:=zI2 S
 have hex:=zk7 S (zf9 S).length
 rw [← hR] at hex
 have hrl:(zt2 S).length≤100000:=by rw [hR,List.length_drop];omega
 have HJ0:=zs2 za5 w
 generalize zq3 S=res at *
 generalize zt2 S=Rs at *
 obtain ⟨N,hNN⟩:∃ N,zf9 S=N:=⟨_,rfl⟩
 simp only [hNN] at *
 obtain ⟨ni,hni⟩:∃ ni,zc9 N=ni:=⟨_,rfl⟩
 simp only [hni] at *
 have KH:=fun g x (h:Jn w ni g x)=>Zf4 ni.op hN x (T.below h.1).dec.lasts (T.below h.1).shapes
 have hshl:=Zo9 ni.op
 have KQ:=fun x=>zS7 Rs (shpT ni.op) hrl (by omega) x
 have hsx:=(zV5 ni.op).2.2
 have hnlI:(N.length:Int)≤S.length:=by omega
 obtain ⟨d,hdd⟩:∃ d,bs S=d:=⟨_,rfl⟩
 obtain ⟨nd,hnd⟩:∃ d,bs N=d:=⟨_,rfl⟩
 have hds:d.size=S.length:=by rw [← hdd];rfl
 have hns:nd.size=N.length:=by rw [← hnd];rfl
 rw [hdd] at hex
 rw [← hns,← hds] at hnlI
 rw [← hns] at hex
 unfold tx at *
 simp only [hdd,hnd] at *
 clear hds hns hR hNN hni hdd hnd
 rw [hcut] at HRD
 simp only [hcut] at KQ
 have HR:Hid (res=none):=HRD
 have KQ0:∀ x,Calls Tryz.prog 161 #[.string (bs Rs),.string (bs (shpT ni.op))] x fun e w'=>e=.returned (.tuple #[.slice none 0 0,.slice none 0 0,.bool false])∧Below x.heap.size x w':=fun x=>KQ x
 clear KQ HRD hcut
 generalize shpT ni.op=sh at *
 obtain ⟨op,rd,rs1,rs2,imm,aq,rl,pred,succ⟩:=ni
 unfold insV za0 za5 at *
 simp only at *
 go_enter Tryz.func126,Tryz.ntmps126
 go_upto_region 1 with (fail)
 generalize w.alloc (.cells _ 39)=w1 at *
 obtain ⟨g0,hg0⟩:∃ g,w.heap.size=g:=⟨_,rfl⟩
 have HJ:Jn w za5 g0 w1:=by rw [← hg0];exact HJ0
 rw [hg0]
 clear hg0 HJ0
 go_upto_region 3 with (first
  | (go_at_call 83;refine (KC _).mono ?_;rintro e w2 ⟨r,b,rfl,hb⟩;have HJ2:=HJ.on hb;clear hb)
  | (go_at_call 160;refine (KN _ HJ2.1).mono ?_;rintro e w3 ⟨rfl,hb⟩;have HJ3:=HJ2.on hb;clear hb))
 have HJ7:Jn w ⟨op,rd,rs1,rs2,imm,aq,rl,pred,succ⟩ w3.heap.size (w3.alloc (.cells (za0 ⟨op,rd,rs1,rs2,imm,aq,rl,pred,succ⟩) 39)):=⟨HJ3.1.new _,Blk.new _ _ _,Below.size HJ3.1⟩
 have HJ4:Jn w za5 g0 (w3.alloc (.cells (za0 ⟨op,rd,rs1,rs2,imm,aq,rl,pred,succ⟩) 39)):=⟨HJ3.1.new _,HJ3.2.1.alloc _,HJ3.2.2⟩
 unfold za0 at HJ7 HJ4
 simp only at HJ7 HJ4
 clear HJ3
 generalize w3.alloc (.cells _ 39)=w4 at *
 obtain ⟨g7,hg7⟩:∃ g,w3.heap.size=g:=⟨_,rfl⟩
 rw [hg7] at HJ7 ⊢
 clear hg7 HJ HJ2 KC KN
 have c0:w4.cell? ⟨g7,0,none⟩=some (.int .i64 op):=HJ7.2.1.cell 0
 go_region_with (first
  | (go_at_call 162;with_reducible refine (KH g7 _ HJ7.drew).mono ?_;rintro e w5 ⟨rfl,rfl⟩)
  | (go_at_call 161;with_reducible refine (KQ0 _).mono ?_;rintro e w6 ⟨rfl,hb⟩;have HJ8:=HJ4.drew.on hb;clear hb))
 clear c0 HJ4 HJ7 KH KQ0 hex
 go_wp2
 go_loop [10,35] (fun ok i=>ok=.bool false∧i=.int .i64 0) (fun _ _=>0)
 case atStart=>exact ⟨rfl,rfl⟩
 case round =>
  obtain ⟨rfl,rfl⟩:=hrel
  have c0:=HJ8.2.1.cell 0
  have c1:=HJ8.2.1.cell 1
  have c2:=HJ8.2.1.cell 2
  have c3:=HJ8.2.1.cell 3
  have c4:=HJ8.2.1.cell 4
  have c5:=HJ8.2.1.cell 5
  have c6:=HJ8.2.1.cell 6
  have c7:=HJ8.2.1.cell 7
  have c8:=HJ8.2.1.cell 8
  simp only [za5,za0] at c0 c1 c2 c3 c4 c5 c6 c7 c8
  have f0:=HJ8.2.1.free 0
  have f1:=HJ8.2.1.free 1
  have f2:=HJ8.2.1.free 2
  have f3:=HJ8.2.1.free 3
  have f4:=HJ8.2.1.free 4
  have f5:=HJ8.2.1.free 5
  have f6:=HJ8.2.1.free 6
  have f7:=HJ8.2.1.free 7
  have f8:=HJ8.2.1.free 8
  go_wp2
  have HW:=(((((((((HJ8.2.1.set 0 (.int .i64 0)).set 1 (.int .i64 0)).set 2 (.int .i64 0)).set 3 (.int .i64 0)).set 4 (.int .i64 0)).set 5 (.bool false)).set 6 (.bool false)).set 7 (.int .i64 0)).set 8 (.int .i64 0))
  have HW':Blk (za0 za5) 39 g0 _:=HW
  rw [HR.out]
  refine bodyPost_ret (zc2 rfl rfl HW' Tryz.underlying39 rfl (by kernel_rfl)) rfl ⟨rfl,?_⟩
  exact ((((((((HJ8.1.setCell HJ8.2.2 _).setCell HJ8.2.2 _).setCell HJ8.2.2 _).setCell HJ8.2.2 _).setCell HJ8.2.2 _).setCell HJ8.2.2 _).setCell HJ8.2.2 _).setCell HJ8.2.2 _).setCell HJ8.2.2 _
theorem Zn3 (S:List UInt8) (hl:S.length≤100000) (w:World) (T:TabR w) (x:List (UInt8 × List UInt8) × List UInt8) (hcut:cutA (shpT (zc9 (zf9 S)).op) (zt2 S) []=some x):Calls Tryz.prog 126 #[tx S] w (RetRd w (zq3 S)):=by
 have KC:=fun x=>zQ7 S hl x
 have hnl:(zf9 S).length≤S.length:=by
  have h:S.takeWhile no32 ++ S.dropWhile no32=S:=List.takeWhile_append_dropWhile
  have:=congrArg List.length h
  rw [List.length_append] at this
  unfold zf9
  omega
 have KN:=fun x (h:BW w x)=>Zk3 (zf9 S) (by omega) x (T.below h)
 have hN:=zU6 (zf9 S)
 have HRD:Hid (zq3 S=match cutA (shpT (zc9 (zf9 S)).op) (zt2 S) [] with
  | none=>none
  | some x=>if (zf1 (zc9 (zf9 S)) x.1 (decide (x.2=[]))).2 && rgtB (zf1 (zc9 (zf9 S)) x.1 (decide (x.2=[]))).1 then some (zf1 (zc9 (zf9 S)) x.1 (decide (x.2=[]))).1 else none):=rfl
 have hR:=zI2 S
 have hex:=zk7 S (zf9 S).length
 rw [← hR] at hex
 have hrl:(zt2 S).length≤100000:=by rw [hR,List.length_drop];omega
 have HJ0:=zs2 za5 w
 generalize zq3 S=res at *
 generalize zt2 S=Rs at *
 obtain ⟨N,hNN⟩:∃ N,zf9 S=N:=⟨_,rfl⟩
 simp only [hNN] at *
 obtain ⟨ni,hni⟩:∃ ni,zc9 N=ni:=⟨_,rfl⟩
 simp only [hni] at *
 have KH:=fun g x (h:Jn w ni g x)=>Zf4 ni.op hN x (T.below h.1).dec.lasts (T.below h.1).shapes
 have hshl:=Zo9 ni.op
 have KQ:=fun x=>zS7 Rs (shpT ni.op) hrl (by omega) x
 have hsx:=(zV5 ni.op).2.2
 have hnlI:(N.length:Int)≤S.length:=by omega
 obtain ⟨d,hdd⟩:∃ d,bs S=d:=⟨_,rfl⟩
 obtain ⟨nd,hnd⟩:∃ d,bs N=d:=⟨_,rfl⟩
 have hds:d.size=S.length:=by rw [← hdd];rfl
 have hns:nd.size=N.length:=by rw [← hnd];rfl
 rw [hdd] at hex
 rw [← hns,← hds] at hnlI
 rw [← hns] at hex
 unfold tx at *
 simp only [hdd,hnd] at *
 clear hds hns hR hNN hni hdd hnd
 rw [hcut] at HRD
 simp only [hcut] at KQ
 obtain ⟨B,rr⟩:=x
 obtain ⟨D,hBD,hBf,_⟩:=zH1 _ _ _ _ _ hcut
 have hBl:=cut_len _ _ _ _ _ hcut
 rw [List.nil_append] at hBD
 rw [← hBD] at hBf
 have hBn:B.length≤20:=by
  have h1:=congrArg List.length hBf
  rw [List.length_map] at h1
  have h2:=List.length_filter_le noMk (shpT ni.op)
  omega
 have hsix:Hid (∀ y ∈ B,y.1 ∈ sixL):=fun y hy=>by
  have:y.1 ∈ (shpT ni.op).filter noMk:=by rw [← hBf];exact List.mem_map_of_mem hy
  exact hsx _ (List.mem_filter.1 this).1 (List.mem_filter.1 this).2
 have hpl:Hid (∀ y ∈ B,y.2.length≤100000):=fun y hy=>by
  rcases hBl y hy with h | h
  ·cases h
  ·omega
 clear hBD hBf hBl
 obtain ⟨b0,hb0⟩:∃ b,decide (rr=[])=b:=⟨_,rfl⟩
 have KQ1:∀ x,Calls Tryz.prog 161 #[.string (bs Rs),.string (bs (shpT ni.op))] x fun e w'=>∃ v7 v8 b,e=.returned (.tuple #[v7,v8,.bool b])∧b=b0∧w'.ownsRow x.heap.size 5 1 v7 B.length (zd1 (B.map Prod.fst))∧w'.ownsRow x.heap.size 9 1 v8 B.length (txs (B.map Prod.snd))∧Below x.heap.size x w':=fun x=>by rw [← hb0];exact KQ x
 have HRX:Hid (res=if (zf1 ni B b0).2 && rgtB (zf1 ni B b0).1 then some (zf1 ni B b0).1 else none):=by show _=_;rw [← hb0];exact HRD
 have hop:=Zq4 B ni b0
 have KG:=fun j x (h:BW w x) (ho:I64 j.op)=>zM7 j ho x (T.below h).dec
 clear KQ HRD hcut hb0 hsx T
 obtain ⟨RES,hRES⟩:∃ R,zf1 ni B b0=R:=⟨_,rfl⟩
 rw [hRES] at HRX hop
 rw [← hop] at hN
 have HRS:=Lib.hid hRES
 clear hRES hop
 generalize shpT ni.op=sh at *
 obtain ⟨op,rd,rs1,rs2,imm,aq,rl,pred,succ⟩:=ni
 unfold insV za0 za5 at *
 simp only at *
 go_enter Tryz.func126,Tryz.ntmps126
 go_upto_region 1 with (fail)
 generalize w.alloc (.cells _ 39)=w1 at *
 obtain ⟨g0,hg0⟩:∃ g,w.heap.size=g:=⟨_,rfl⟩
 have HJ:Jn w za5 g0 w1:=by rw [← hg0];exact HJ0
 rw [hg0]
 clear hg0 HJ0
 go_upto_region 3 with (first
  | (go_at_call 83;refine (KC _).mono ?_;rintro e w2 ⟨r,b,rfl,hb⟩;have HJ2:=HJ.on hb;clear hb)
  | (go_at_call 160;refine (KN _ HJ2.1).mono ?_;rintro e w3 ⟨rfl,hb⟩;have HJ3:=HJ2.on hb;clear hb))
 have HJ7:Jn w ⟨op,rd,rs1,rs2,imm,aq,rl,pred,succ⟩ w3.heap.size (w3.alloc (.cells (za0 ⟨op,rd,rs1,rs2,imm,aq,rl,pred,succ⟩) 39)):=⟨HJ3.1.new _,Blk.new _ _ _,Below.size HJ3.1⟩
 have HJ4:Jn w za5 g0 (w3.alloc (.cells (za0 ⟨op,rd,rs1,rs2,imm,aq,rl,pred,succ⟩) 39)):=⟨HJ3.1.new _,HJ3.2.1.alloc _,HJ3.2.2⟩
 have hne:g0≠w3.heap.size:=Nat.ne_of_lt HJ3.2.1.lt
 have hgs:w3.heap.size<(w3.alloc (.cells (za0 ⟨op,rd,rs1,rs2,imm,aq,rl,pred,succ⟩) 39)).heap.size:=by simp
 unfold za0 at HJ7 HJ4 hgs
 simp only at HJ7 HJ4 hgs
 clear HJ3
 generalize w3.alloc (.cells _ 39)=w4 at *
 obtain ⟨g7,hg7⟩:∃ g,w3.heap.size=g:=⟨_,rfl⟩
 rw [hg7] at HJ7 hne hgs ⊢
 clear hg7 HJ HJ2 KC KN
 have c0:w4.cell? ⟨g7,0,none⟩=some (.int .i64 op):=HJ7.2.1.cell 0
 go_region_with (first
  | (go_at_call 162;with_reducible refine (KH g7 _ HJ7.drew).mono ?_;rintro e w5 ⟨rfl,rfl⟩)
  | (go_at_call 161;with_reducible refine (KQ1 _).mono ?_;rintro e w6 ⟨v7,v8,b2,rfl,rfl,hL,hP,hb⟩;have HJ8:=HJ4.drew.on hb;have HJ9:=HJ7.drew.on hb;obtain ⟨A7,c7,rfl,q7⟩:=own_at hL;obtain ⟨A8,c8,rfl,q8⟩:=own_at hP;have Q7:=Lib.hid q7;have Q8:=Lib.hid q8;have hw64:=Lib.hid (Below.size hb);clear hb hL hP q7 q8))
 have HW64:Hid (w4.heap.size≤w6.heap.size):=hw64.out
 clear c0 HJ4 HJ7 KH KQ1 hex hw64
 have hg76:g7<w6.heap.size:=HJ9.2.1.lt
 go_wp2
 go_loopw [10,35] (fun ok i wr=>∃ (k:Nat) (ik:Ins) (bk:Bool),i=.int .i64 k∧k≤B.length∧ok=.bool bk∧Hid (zf1 ik (B.drop k) bk=RES)∧Hid (Jn w ik g7 wr)∧Hid (Jn w za5 g0 wr)∧Hid (KeptBut g7 w6 wr)) (fun _ i _=>B.length - (intOf i).toNat)
 case atStart=>exact ⟨0,_,_,rfl,Nat.zero_le _,rfl,HRS,HJ9,HJ8,KeptBut.refl _ _⟩
 case round =>
  obtain ⟨k,ik,bk,rfl,hk,rfl,HA,HJa,HJb,HKB⟩:=hrel
  by_cases hlt:k<B.length
  ·have hltI:(k:Int)<B.length:=by omega
   obtain ⟨y,hy⟩:∃ y,B[k]=y:=⟨_,rfl⟩
   have hmem:y ∈ B:=by rw [← hy];exact List.getElem_mem hlt
   obtain ⟨b7,e7,l7,z7,cc7⟩:=Q7.out k hlt
   obtain ⟨b8,e8,l8,z8,cc8⟩:=Q8.out k hlt
   have n7:b7≠g7:=by have:w4.drew.heap.size=w4.heap.size:=rfl;omega
   have n8:b8≠g7:=by have:w4.drew.heap.size=w4.heap.size:=rfl;omega
   have cL:wr.cell? ⟨b7,k,none⟩=some (.int .u8 (y.1.toNat:Int)):=by
    rw [HKB.out.cell z7 n7,cc7]
    unfold zd1
    rw [List.getElem?_map,List.getElem?_map,List.getElem?_eq_getElem hlt,hy]
    rfl
   have cP:wr.cell? ⟨b8,k,none⟩=some (tx y.2):=by
    rw [HKB.out.cell z8 n8,cc8]
    unfold txs
    rw [List.getElem?_map,List.getElem?_map,List.getElem?_eq_getElem hlt,hy]
    rfl
   have HP:=put_fill w ik g7 y.1 (hsix.out y hmem) y.2 (hpl.out y hmem) wr HJa.out
   have HA2:Hid (zf1 (putT ik y.1 y.2).1 (B.drop (k + 1)) ((putT ik y.1 y.2).2 && bk)=RES):=by
    show _=_
    rw [← HA.out,List.drop_eq_getElem_cons hlt,hy]
    rfl
   unfold tx at cP HP
   subst e7 e8
   clear hmem l7 z7 cc7 l8 z8 cc8 n7 n8 hy HA Q7 Q8
   generalize (putT ik y.1 y.2).1=i2 at *
   generalize (putT ik y.1 y.2).2=b2 at *
   generalize (y.1.toNat:Int)=C at *
   generalize bs y.2=P at *
   cases b2 with
   | true =>
    go_wp2_with (first
     | (go_at_call 163;refine HP.mono ?_;rintro e w7 ⟨rfl,hj,hkb⟩;have HJ2:=Lib.hid hj;have HK2:=Lib.hid (KeptBut.trans HKB.out hkb);have HB2:Hid (Jn w za5 g0 w7):=⟨hj.1,(hkb.2 g0 HJb.out.2.1.lt hne).trans HJb.out.2.1,HJb.out.2.2⟩;clear hj hkb))
    exact ⟨⟨k + 1,i2,bk,by go_num,by omega,rfl,by simpa using HA2,HJ2,HB2,HK2⟩,by simp [intOf];omega⟩
   | false =>
    go_wp2_with (first
     | (go_at_call 163;refine HP.mono ?_;rintro e w7 ⟨rfl,hj,hkb⟩;have HJ2:=Lib.hid hj;have HK2:=Lib.hid (KeptBut.trans HKB.out hkb);have HB2:Hid (Jn w za5 g0 w7):=⟨hj.1,(hkb.2 g0 HJb.out.2.1.lt hne).trans HJb.out.2.1,HJb.out.2.2⟩;clear hj hkb))
    exact ⟨⟨k + 1,i2,false,by go_num,by omega,rfl,by simpa using HA2,HJ2,HB2,HK2⟩,by simp [intOf];omega⟩
  ·obtain rfl:k=B.length:=by omega
   have hA:=HA.out
   rw [List.drop_length,zf1] at hA
   rw [← hA] at HRX hN
   simp only at HRX hN
   clear hA HA Q7 Q8
   cases bk with
   | false =>
    have HRR:Hid (res=none):=HRX.out
    have HJZ:=HJb.out
    have z0:=HJZ.2.1.cell 0
    have z1:=HJZ.2.1.cell 1
    have z2:=HJZ.2.1.cell 2
    have z3:=HJZ.2.1.cell 3
    have z4:=HJZ.2.1.cell 4
    have z5:=HJZ.2.1.cell 5
    have z6:=HJZ.2.1.cell 6
    have z7:=HJZ.2.1.cell 7
    have z8:=HJZ.2.1.cell 8
    simp only [za5,za0] at z0 z1 z2 z3 z4 z5 z6 z7 z8
    have y0:=HJZ.2.1.free 0
    have y1:=HJZ.2.1.free 1
    have y2:=HJZ.2.1.free 2
    have y3:=HJZ.2.1.free 3
    have y4:=HJZ.2.1.free 4
    have y5:=HJZ.2.1.free 5
    have y6:=HJZ.2.1.free 6
    have y7:=HJZ.2.1.free 7
    have y8:=HJZ.2.1.free 8
    clear KG HRX
    go_wp2
    have HW:=(((((((((HJZ.2.1.set 0 (.int .i64 0)).set 1 (.int .i64 0)).set 2 (.int .i64 0)).set 3 (.int .i64 0)).set 4 (.int .i64 0)).set 5 (.bool false)).set 6 (.bool false)).set 7 (.int .i64 0)).set 8 (.int .i64 0))
    have HW':Blk (za0 za5) 39 g0 _:=HW
    rw [HRR.out]
    refine bodyPost_ret (zc2 rfl rfl HW' Tryz.underlying39 rfl (by kernel_rfl)) rfl ⟨rfl,?_⟩
    exact ((((((((HJZ.1.setCell HJZ.2.2 _).setCell HJZ.2.2 _).setCell HJZ.2.2 _).setCell HJZ.2.2 _).setCell HJZ.2.2 _).setCell HJZ.2.2 _).setCell HJZ.2.2 _).setCell HJZ.2.2 _).setCell HJZ.2.2 _
   | true =>
    have hG:=KG ik wr HJa.out.1 hN
    have HRX2:Hid (res=if rgtB ik then some ik else none):=by show _=_;rw [HRX.out,Bool.true_and]
    have HJR:=HJa.out
    clear KG HRX hN
    cases hg:rgtB ik with
    | false =>
     rw [hg] at hG HRX2
     have HRR:Hid (res=none):=HRX2.out
     clear HRX2 hg
     obtain ⟨op,rd,rs1,rs2,imm,aq,rl,pred,succ⟩:=ik
     obtain ⟨c0,c1,c2,c3,c4,c5,c6,c7,c8⟩:=HJR.cells
     simp only at c0 c1 c2 c3 c4 c5 c6 c7 c8 hG
     go_upto_if 56 with (first
      | (go_at_call 93;refine hG.mono ?_;rintro e w8 ⟨rfl,hb⟩;have HJ8:=HJb.out.on hb;clear hb))
     clear c0 c1 c2 c3 c4 c5 c6 c7 c8
     have z0:=HJ8.2.1.cell 0
     have z1:=HJ8.2.1.cell 1
     have z2:=HJ8.2.1.cell 2
     have z3:=HJ8.2.1.cell 3
     have z4:=HJ8.2.1.cell 4
     have z5:=HJ8.2.1.cell 5
     have z6:=HJ8.2.1.cell 6
     have z7:=HJ8.2.1.cell 7
     have z8:=HJ8.2.1.cell 8
     simp only [za5,za0] at z0 z1 z2 z3 z4 z5 z6 z7 z8
     have y0:=HJ8.2.1.free 0
     have y1:=HJ8.2.1.free 1
     have y2:=HJ8.2.1.free 2
     have y3:=HJ8.2.1.free 3
     have y4:=HJ8.2.1.free 4
     have y5:=HJ8.2.1.free 5
     have y6:=HJ8.2.1.free 6
     have y7:=HJ8.2.1.free 7
     have y8:=HJ8.2.1.free 8
     go_wp2
     have HW:=(((((((((HJ8.2.1.set 0 (.int .i64 0)).set 1 (.int .i64 0)).set 2 (.int .i64 0)).set 3 (.int .i64 0)).set 4 (.int .i64 0)).set 5 (.bool false)).set 6 (.bool false)).set 7 (.int .i64 0)).set 8 (.int .i64 0))
     have HW':Blk (za0 za5) 39 g0 _:=HW
     rw [HRR.out]
     refine bodyPost_ret (zc2 rfl rfl HW' Tryz.underlying39 rfl (by kernel_rfl)) rfl ⟨rfl,?_⟩
     exact ((((((((HJ8.1.setCell HJ8.2.2 _).setCell HJ8.2.2 _).setCell HJ8.2.2 _).setCell HJ8.2.2 _).setCell HJ8.2.2 _).setCell HJ8.2.2 _).setCell HJ8.2.2 _).setCell HJ8.2.2 _).setCell HJ8.2.2 _
    | true =>
     rw [hg] at hG HRX2
     have HRR:Hid (res=some ik):=HRX2.out
     clear HRX2 hg
     obtain ⟨c0,c1,c2,c3,c4,c5,c6,c7,c8⟩:=HJR.cells
     go_upto_if 56 with (first
      | (go_at_call 93;refine hG.mono ?_;rintro e w8 ⟨rfl,hb⟩;have HJ8:=HJb.out.on hb;have HJ9:=HJa.out.on hb;clear hb))
     clear c0 c1 c2 c3 c4 c5 c6 c7 c8
     obtain ⟨w9,hs,k4⟩:=HJ8.put (P:=Tryz.prog) ik
     have HA:=HJ9.2.1
     go_wp2_with (with_reducible refine za8 (o:=⟨some 58,_,_,_,_,_⟩) rfl 39 (.tmp 7) rfl HA rfl Tryz.underlying39 rfl (by kernel_rfl) ?_)
     rw [HRR.out]
     exact bodyPost_ret (zc2 rfl rfl k4.2.1 Tryz.underlying39 rfl (by kernel_rfl)) rfl ⟨rfl,k4.1⟩
theorem Zi5 (S:List UInt8) (hl:S.length≤100000) (w:World) (T:TabR w):Calls Tryz.prog 126 #[tx S] w (RetRd w (zq3 S)):=by
 cases hcut:cutA (shpT (zc9 (zf9 S)).op) (zt2 S) [] with
 | none=>exact Zr0 S hl w T hcut
 | some x=>exact Zn3 S hl w T x hcut
end Go.Proofs.YtmamblgpekafbaaGreatDoor
