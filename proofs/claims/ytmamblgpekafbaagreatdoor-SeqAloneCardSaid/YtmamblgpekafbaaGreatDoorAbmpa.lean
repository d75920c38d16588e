/- Of stage 11. -/
import Derived.Test.YtmamblgpekafbaaGreatDoorAaspa
import Derived.Test.YtmamblgpekafbaaGreatDoorLw7pa
import Derived.Laws.CopyOwn
set_option maxHeartbeats 1000000
set_option maxRecDepth 100000
namespace Go.Proofs.YtmamblgpekafbaaGreatDoor
open Go.RowKit
theorem zL5 {X X':World} {k:TypeId} {R:Value→Option (DataW Unit × List MemPlace)} {b n:Nat} {D:DataW Unit} (h:X.ownsMap Tryz.prog k R b n D) (hb:Below X.heap.size X X'):X'.ownsMap Tryz.prog k R b n D:=h.kept (zh4 hb) (by simp)
def zj6 (L:Labs) (p:Int) (s:Stm):Ins:=if s.goal=[] then s.inst else { s.inst with imm:=(zm7 L s.goal).getD 0 - p }
def putB (L:Labs) (p:Int) (s:Stm):List Int:=if s.inst.op=0 then zc5 s.value (cap8 s.count) ++ List.replicate (s.count.toNat - cap8 s.count) 0 else zc5 (zd9 (zj6 L p s)) 4
def RetT (w:World) (l:List Int) (e:Ending) (w':World):Prop:=∃ A cap,e=.returned (.tuple #[.slice A l.length cap,.int .i64 0])∧Rd w' w'.heap.size A (za4 l)∧Below w.heap.size w w'
theorem Zm3 {w:World} {base g m c:Nat} {e:TypeId} {xs:List Value} (h:w.ownsRow base e 1 (.slice (some ⟨g,0,none⟩) m c) m xs) (hc:c=m):w.heap[g]?=some (.cells xs.toArray e (0,0)):=by
 obtain ⟨hl, h | ⟨g', c', cur, hv, _, hg, _, _, hs, ht⟩⟩ := h
 ·exact absurd h.1 (by simp)
 ·cases hv
  rw [hg]
  rw [← ht,List.take_of_length_le (by rw [Array.length_toList];omega)]
theorem zI6 (l:List Int) (m:Nat):splice (zf7 m) 0 (za4 l)=za4 (l ++ List.replicate (m - l.length) 0):=by
 unfold splice zf7 za4
 rw [List.take_zero,List.nil_append,Nat.zero_add,List.length_map,List.drop_replicate,List.map_append,List.map_replicate]
theorem Rd.of_row {w:World} {g:Nat} {xs:List Value} {t:TypeId} (h:w.heap[g]?=some (.cells xs.toArray t (0,0))):Rd w w.heap.size (some ⟨g,0,none⟩) xs :=
 .inr ⟨g,0,rfl,(Array.getElem?_eq_some_iff.1 h).1,fun i v hv=>by
  rw [cell_of_row w g (0 + i) _ _ (0,0) h,Nat.zero_add]
  simpa using hv⟩
theorem zI1 (l:List Int):∀ v ∈ za4 l,v.oneCell'=true:=by
 intro v hv
 obtain ⟨x,_,rfl⟩:=List.mem_map.1 hv
 rfl
theorem add_off (b off j:Nat):(⟨b,off,none⟩:Addr).add j=⟨b,off + j,none⟩:=by
 unfold Addr.add
 split
 ·next h=>subst h;rfl
 ·rfl
theorem Rd.src {w:World} {B:Nat} {A:Option Addr} {xs:List Value} (h:Rd w B A xs) (hp:0<xs.length):∃ ad,A=some ad∧∀ j v,xs[j]?=some v→w.cell? (ad.add j)=some v:=by
 rcases h with rfl | ⟨b,off,rfl,_,hc⟩
 ·exact absurd hp (by simp)
 ·exact ⟨_,rfl,fun j v hv=>by rw [add_off];exact hc j v hv⟩
theorem Zf8 (L:Labs) (s:Stm) (p:Int) (mv:Value) (h0:s.inst.op=0) (hc:0≤s.count∧s.count≤1024) (hv:0≤s.value) (X:World) :
  Calls Tryz.prog 27 #[stV s,.int .i64 p,mv] X (RetT X (putB L p s)):=by
 obtain ⟨i0,hi,hz0,hz1,hz2⟩:=info_parts Tryz.info5
 obtain ⟨m,hm⟩:∃ m:Nat,s.count=m:=⟨s.count.toNat,by omega⟩
 have KY:=fun x=>zs6 s.value (m:Int) hv x
 have hP:Hid (putB L p s=zc5 s.value (cap8 m) ++ List.replicate (m - (zc5 s.value (cap8 m)).length) 0):=by
  show _=_
  unfold putB
  rw [if_pos h0,hm,zc7]
  rfl
 have hcl:(zc5 s.value (cap8 m)).length≤m:=by rw [zc7];unfold cap8;omega
 have hm4:m≤1024:=by omega
 generalize putB L p s=P at *
 generalize zc5 s.value (cap8 m)=l at *
 unfold RetB at KY
 obtain ⟨lb,org,dest,count,value,⟨op,rd,rs1,rs2,imm,aq,rl,pred,succ⟩,goal⟩:=s
 unfold stV
 simp only at h0 hm hv KY ⊢
 subst hm
 subst h0
 clear hc
 have HL:=Lib.hid hcl
 have HB:Hid (∀ o,Below X.heap.size X (X.alloc o)):=Lib.hid (fun o=>(Below.refl _ X).alloc (Nat.le_refl _) o)
 generalize tx lb=lv at *
 generalize tx goal=gv at *
 go_enter Tryz.func27,Tryz.ntmps27
 go_wp2_with (first
  | (at_make;refine wpList_make_full _ rfl _ _ 26 rfl X.heap.size 5 i0 (.int .u8 0) 1 Tryz.underlying26 hi hz0 hz1 .i64 .i64 _ _ m rfl rfl rfl rfl ?_ ?_ ?_ ?_))
 ·rw [hz2];omega
 ·unfold maxLen;omega
 ·simp
 intro w1 hown hgrow
 have hK:Below (X.heap.size + 1) _ w1:=Below.grown (Below.refl _ _) hgrow (by simp) (fun _ h=>by cases h)
 have hbx:=(Blk.new #[lv,.bool org,.int .i64 dest,.int .i64 (m:Int),.int .u64 value,.int .i64 0,.int .i64 rd,.int .i64 rs1,.int .i64 rs2,.int .i64 imm,.bool aq,.bool rl,.int .i64 pred,.int .i64 succ,gv] 64 X).within hK (by omega)
 have hbw:Below X.heap.size X w1:=(HB.out _).trans (hK.mono (by omega))
 have hrow:=Zm3 hown rfl
 rw [zi5 m] at hrow
 have hsz:X.heap.size + 1<w1.heap.size:=by have:=(Array.getElem?_eq_some_iff.1 hrow).1;simpa using this
 clear hown hgrow hK
 have c4:=hbx.cell 4
 have HX:=Lib.hid hbw
 have HR:=Lib.hid hrow
 clear hbx hbw hrow HB
 have HIS:(Tryz.prog.info? 5).map (·.size)=some 1:=by kernel_rfl
 have HN1:Hid ((za4 l).length=Nat.min l.length m):=by
  show _=_
  rw [show (za4 l).length=l.length by simp [za4]]
  exact (Nat.min_eq_left HL.out).symm
 have HF1:Hid (0 + (za4 l).length≤(zf7 m).length):=by
  show _≤_
  have:=HL.out
  simp [za4,zf7]
  omega
 generalize hg:X.heap.size + 1=g at *
 go_wp2_with (first
  | (go_at_call 16;refine (KY _).mono ?_;rintro e w2 ⟨A,cap,rfl,hrd,hb2⟩;have HRD:=Lib.hid hrd;have HR2:=(hb2.block g hsz).trans HR.out;have HX2:=HX.out.trans (hb2.mono (by omega));clear hrd hb2)
  | (with_reducible refine wpList_copy_splice (o:=⟨some 26,_,_,_,_,_⟩) rfl (.tmp 20) (.tmp 25) 26 26 rfl 5 Tryz.underlying26 HIS _ _ _ _ _ _ rfl rfl g 0 (zf7 m) 5 HR2 (za4 l) HN1.out (fun hp=>⟨rfl,HRD.out.src hp⟩) HF1.out (zI1 l) X.heap.size X HX2 (by omega) ?_;intro w3 HG3 hB3))
 all_goals go_ret2
 all_goals
  have h3:=HG3.out
  rw [zI6 l m,← hP.out] at h3
  have hlen:P.length=m:=by rw [hP.out,List.length_append,List.length_replicate];have:=HL.out;omega
  exact ⟨_,_,by rw [hlen];rfl,Rd.of_row h3,hB3⟩
theorem zB0 (L:Labs) (s:Stm) (p:Int) (mv:Value) (hr:Rgt s.inst) (hg:s.goal=[]) (X:World) (T:Tab7 X) :
  Calls Tryz.prog 27 #[stV s,.int .i64 p,mv] X (RetT X (putB L p s)):=by
 have h0:s.inst.op≠0:=by have:=hr.op;omega
 have hP:Hid (putB L p s=zc5 (zd9 s.inst) 4):=by
  show _=_
  unfold putB zj6
  rw [if_neg h0,if_pos hg]
 have KE:=fun x (hb:Below X.heap.size X x)=>zQ3 s.inst (by have:=hr.op;unfold I64;omega) x (T.below hb)
 have hb:rgtB s.inst=true:=(zj3 _).2 hr
 have hw1:encW s.inst=zd9 s.inst:=by unfold encW;rw [if_pos hb]
 have hw2:encE s.inst=0:=by unfold encE;rw [if_pos hb]
 rw [hw1,hw2] at KE
 have hu:0≤zd9 s.inst∧zd9 s.inst<4294967296:=(Zd4 hr).1
 have KY:=fun x=>zs6 (zd9 s.inst) 4 hu.1 x
 have hcap:cap8 4=4:=rfl
 rw [hcap] at KY
 generalize putB L p s=P at *
 generalize zd9 s.inst=V at *
 have hlen:(zc5 V 4).length=4:=zc7 V 4
 generalize zc5 V 4=l at *
 unfold RetB at KY
 rw [hlen] at KY
 clear hw1 hw2 hb hr T
 obtain ⟨lb,org,dest,count,value,⟨op,rd,rs1,rs2,imm,aq,rl,pred,succ⟩,goal⟩:=s
 unfold stV
 unfold insV at KE
 simp only at h0 hg KE ⊢
 subst hg
 have e0:decide (op=0)=false:=decide_eq_false h0
 have hcv:IntKind.u64.wrap V=V:=by rw [IntKind.wrap_u64];omega
 have HB:Hid (∀ o,Below X.heap.size X (X.alloc o)):=Lib.hid (fun o=>(Below.refl _ X).alloc (Nat.le_refl _) o)
 generalize tx lb=lv at *
 have eg:tx []=.string ⟨#[]⟩:=rfl
 rw [eg]
 go_enter Tryz.func27,Tryz.ntmps27
 go_wp2_with (first
  | (go_at_call 54;refine (KE _ (HB.out _)).mono ?_;rintro e w2 ⟨rfl,hb2⟩;have HB2:=Lib.hid ((HB.out _).trans (hb2.mono (by simp)));clear hb2)
  | (go_at_call 16;refine (KY _).mono ?_;rintro e w3 ⟨A,cap,rfl,hrd,hb3⟩;have HRD:=Lib.hid hrd;have HB3:=Lib.hid (HB2.out.trans (hb3.mono HB2.out.size));clear hrd hb3))
 go_ret2
 rw [hP.out]
 exact ⟨A,cap,by rw [hlen];rfl,HRD.out,HB3.out⟩
theorem zZ0 (L:Labs) (s:Stm) (p:Int) (b z:Nat) (hr:Rgt (zj6 L p s)) (hg:s.goal≠[]) (hgl:s.goal.length≤16) (hsome:(zm7 L s.goal).isSome=true) (hI:I64 ((zm7 L s.goal).getD 0 - p)) (X:World) (hm:X.ownsMap Tryz.prog 9 (plainElem Tryz.prog 3) b z (labD L)) (T:Tab7 X) :
  Calls Tryz.prog 27 #[stV s,.int .i64 p,.map (some b)] X (RetT X (putB L p s)):=by
 have hop:(zj6 L p s).op=s.inst.op:=by unfold zj6;rw [if_neg hg]
 have h0:s.inst.op≠0:=by have:=hr.op;omega
 have hP:Hid (putB L p s=zc5 (zd9 (zj6 L p s)) 4):=by
  show _=_
  unfold putB
  rw [if_neg h0]
 have KE:=fun x (hb:Below X.heap.size X x)=>zQ3 (zj6 L p s) (by have:=hr.op;unfold I64;omega) x (T.below hb)
 have hb:rgtB (zj6 L p s)=true:=(zj3 _).2 hr
 have hw1:encW (zj6 L p s)=zd9 (zj6 L p s):=by unfold encW;rw [if_pos hb]
 have hw2:encE (zj6 L p s)=0:=by unfold encE;rw [if_pos hb]
 rw [hw1,hw2] at KE
 have hu:0≤zd9 (zj6 L p s)∧zd9 (zj6 L p s)<4294967296:=(Zd4 hr).1
 have KY:=fun x=>zs6 (zd9 (zj6 L p s)) 4 hu.1 x
 have hcap:cap8 4=4:=rfl
 rw [hcap] at KY
 generalize putB L p s=P at *
 generalize zd9 (zj6 L p s)=V at *
 have hlen:(zc5 V 4).length=4:=zc7 V 4
 generalize zc5 V 4=l at *
 unfold RetB at KY
 rw [hlen] at KY
 have hin:zj6 L p s={ s.inst with imm:=(zm7 L s.goal).getD 0 - p }:=by unfold zj6;rw [if_neg hg]
 rw [hin] at KE
 have hlk:=zQ5 s.goal L
 rw [hsome] at hlk
 obtain ⟨hhas,hatk⟩:=hlk
 have hkey:=key_of s.goal (by omega)
 have hq:((bs s.goal).toList.isEmpty)=false:=by
  rw [ze3]
  cases hs:s.goal with
  | nil=>exact absurd hs hg
  | cons a t=>rfl
 generalize (zm7 L s.goal).getD 0=at0 at *
 clear hw1 hw2 hb hr T hin hg hgl hsome
 have hm1:∀ x,Below X.heap.size X x→x.ownsMap Tryz.prog 9 (plainElem Tryz.prog 3) b z (labD L):=fun x hb=>zL5 hm hb
 obtain ⟨lb,org,dest,count,value,⟨op,rd,rs1,rs2,imm,aq,rl,pred,succ⟩,goal⟩:=s
 unfold stV
 unfold insV at KE
 simp only at h0 hq hkey hhas hatk hop KE ⊢
 unfold I64 at hI
 have hwi:IntKind.i64.wrap (at0 - p)=at0 - p:=by rw [IntKind.wrap_i64];omega
 have hwi2:wrap64 (at0 - p)=at0 - p:=zy6 hI
 have e0:decide (op=0)=false:=decide_eq_false h0
 have hcv:IntKind.u64.wrap V=V:=by rw [IntKind.wrap_u64];omega
 have HB:Hid (∀ o,Below X.heap.size X (X.alloc o)):=Lib.hid (fun o=>(Below.refl _ X).alloc (Nat.le_refl _) o)
 generalize tx lb=lv at *
 unfold tx at *
 generalize bs goal=gq at *
 go_enter Tryz.func27,Tryz.ntmps27
 go_upto_region 7 with (first
  | (at_lookup;refine wpList_lookup_own_ok_int _ rfl _ _ 58 rfl 9 3 .i64 zG2 Tryz.underlying58 Tryz.underlying3 (Tryz.zeroValue3 _) b z (labD L) rfl (hm1 _ (HB.out _)) _ _ rfl hkey ?_;intro c hat hwc;rw [hhas];obtain rfl:at0=c:=(by have e:=hatk.symm.trans hat;cases e;rfl);clear hat hwc))
 go_wp2_with (first
  | (go_at_call 54;refine (KE _ (HB.out _)).mono ?_;rintro e w2 ⟨rfl,hb2⟩;have HB2:=Lib.hid ((HB.out _).trans (hb2.mono (by simp)));clear hb2)
  | (go_at_call 16;refine (KY _).mono ?_;rintro e w3 ⟨A,cap,rfl,hrd,hb3⟩;have HRD:=Lib.hid hrd;have HB3:=Lib.hid (HB2.out.trans (hb3.mono HB2.out.size));clear hrd hb3))
 go_ret2
 rw [hP.out]
 exact ⟨A,cap,by rw [hlen];rfl,HRD.out,HB3.out⟩
open Go.RowKit
def Laid1 (X:World) (g q:Nat) (img:List Value) (l:List Int) (e:Ending) (X':World):Prop :=
 e=.returned (.int .i64 0)∧X'.heap[g]?=some (.cells (splice img q (za4 l)).toArray 5 (0,0))∧X.grownBy X' (some g)
theorem grown_in {X Y Z:World} {g:Nat} (h:Below X.heap.size X Y) (k:Y.grownBy Z (some g)) (_:g<X.heap.size):X.grownBy Z (some g) :=
 ⟨k.os.trans h.os,k.tape.trans h.tape,k.output.trans h.output,Nat.le_trans h.size k.size,fun b hb hne=>(k.block b (Nat.lt_of_lt_of_le hb h.size) hne).trans (h.block b hb)⟩
theorem zH8 (w:World) (g:Nat) (cs:Array Value):w.grownBy (w.setRow g cs) (some g) :=
 ⟨rfl,rfl,rfl,by simp [World.setRow],fun k _ hk=>setRow_other w g k cs (fun e=>hk (by rw [e]))⟩
theorem Zc5 {X Y:World} {g:Nat} (h:Below X.heap.size X Y):X.grownBy Y (some g):=⟨h.os,h.tape,h.output,h.size,fun k hk _=>h.block k hk⟩
theorem Zd6 (s:Stm) (q n:Nat) (mv:Value) (b1 b2 g:Nat) (img:List Value) (X:World) (_:img.length=n) (hq:q≤n) (_:n≤1024)
  (hm:X.cell? ⟨b1,0,none⟩=some mv) (hi:X.cell? ⟨b2,0,none⟩=some (.slice (some ⟨g,0,none⟩) n n)) (hr:X.heap[g]?=some (.cells img.toArray 5 (0,0)))
  (KB:∀ x,Below X.heap.size X x→Calls Tryz.prog 27 #[stV s,.int .i64 q,mv] x (RetT x [])) :
  Calls Tryz.prog 26 #[stV s,.int .i64 q,.pointer (some ⟨b1,0,none⟩),.pointer (some ⟨b2,0,none⟩)] X (Laid1 X g q img []):=by
 have hlt1:b1<X.heap.size:=World.block_lt_of_cell? X _ hm
 have hlt2:b2<X.heap.size:=World.block_lt_of_cell? X _ hi
 have hltg:g<X.heap.size:=(Array.getElem?_eq_some_iff.1 hr).1
 have hm1:∀ x,Below X.heap.size X x→x.cell? ⟨b1,0,none⟩=some mv:=fun x hb=>(hb.cell (p:=⟨b1,0,none⟩) hlt1).trans hm
 have hi1:∀ x,Below X.heap.size X x→x.cell? ⟨b2,0,none⟩=some (.slice (some ⟨g,0,none⟩) n n):=fun x hb=>(hb.cell (p:=⟨b2,0,none⟩) hlt2).trans hi
 have HIS:(Tryz.prog.info? 5).map (·.size)=some 1:=by kernel_rfl
 have HB:Hid (∀ o,Below X.heap.size X (X.alloc o)):=Lib.hid (fun o=>(Below.refl _ X).alloc (Nat.le_refl _) o)
 have HE:Hid (splice img q (za4 [])=img):=by show _=_;simp [splice,za4]
 unfold RetT at KB
 obtain ⟨lb,org,dest,count,value,⟨op,rd,rs1,rs2,imm,aq,rl,pred,succ⟩,goal⟩:=s
 unfold stV at *
 simp only at KB ⊢
 have hm2:=fun o=>hm1 _ (HB.out o)
 have hmin:Nat.min 0 (n - q)=0:=by simp
 generalize tx lb=lv at *
 generalize tx goal=gv at *
 go_enter Tryz.func26,Tryz.ntmps26
 go_wp2_with (first
  | (go_at_call 27;refine (KB _ (HB.out _)).mono ?_;rintro e x2 ⟨A,cap,rfl,hrd,hb2⟩;have HX2:=Lib.hid ((HB.out _).trans (hb2.mono (by simp)));have hi2:=hi1 _ HX2.out;clear hrd hb2)
  | (with_reducible refine wpList_copy_nothing (o:=⟨some 20,_,_,_,_,_⟩) rfl (.tmp 18) (.tmp 19) 26 26 rfl 5 Tryz.underlying26 HIS _ _ _ _ _ _ rfl rfl (Nat.zero_min _) ?_))
 all_goals go_ret
 all_goals exact ⟨rfl,by rw [HE.out];exact (HX2.out.block g hltg).trans hr,Zc5 HX2.out⟩
theorem Zp9 (s:Stm) (l:List Int) (h0:0<l.length) (q n:Nat) (mv:Value) (b1 b2 g:Nat) (img:List Value) (X:World) (hn:img.length=n) (hq:q + l.length≤n) (hn2:n≤1024)
  (hm:X.cell? ⟨b1,0,none⟩=some mv) (hi:X.cell? ⟨b2,0,none⟩=some (.slice (some ⟨g,0,none⟩) n n)) (hr:X.heap[g]?=some (.cells img.toArray 5 (0,0)))
  (KB:∀ x,Below X.heap.size X x→Calls Tryz.prog 27 #[stV s,.int .i64 q,mv] x (RetT x l)) :
  Calls Tryz.prog 26 #[stV s,.int .i64 q,.pointer (some ⟨b1,0,none⟩),.pointer (some ⟨b2,0,none⟩)] X (Laid1 X g q img l):=by
 have hlt1:b1<X.heap.size:=World.block_lt_of_cell? X _ hm
 have hlt2:b2<X.heap.size:=World.block_lt_of_cell? X _ hi
 have hltg:g<X.heap.size:=(Array.getElem?_eq_some_iff.1 hr).1
 have hm1:∀ x,Below X.heap.size X x→x.cell? ⟨b1,0,none⟩=some mv:=fun x hb=>(hb.cell (p:=⟨b1,0,none⟩) hlt1).trans hm
 have hi1:∀ x,Below X.heap.size X x→x.cell? ⟨b2,0,none⟩=some (.slice (some ⟨g,0,none⟩) n n):=fun x hb=>(hb.cell (p:=⟨b2,0,none⟩) hlt2).trans hi
 have HIS:(Tryz.prog.info? 5).map (·.size)=some 1:=by kernel_rfl
 have HB:Hid (∀ o,Below X.heap.size X (X.alloc o)):=Lib.hid (fun o=>(Below.refl _ X).alloc (Nat.le_refl _) o)
 have hqn:(q:Int)<n:=by omega
 have HN1:Hid ((za4 l).length=Nat.min l.length (n - q)):=by
  show _=_
  rw [show (za4 l).length=l.length by simp [za4]]
  exact (Nat.min_eq_left (by omega)).symm
 have HF1:Hid (q + (za4 l).length≤img.toArray.size):=by
  show _≤_
  simp [za4]
  omega
 have HL0:Hid (0<(za4 l).length):=by show _<_;simp [za4];exact h0
 have hq2:(q:Int)≤n:=by omega
 unfold RetT at KB
 generalize hcl:za4 l=cl at *
 have ho1:∀ v ∈ cl,v.oneCell'=true:=hcl ▸ zI1 l
 have HCL:Hid (za4 l=cl):=hcl
 clear hcl hq h0
 obtain ⟨lb,org,dest,count,value,⟨op,rd,rs1,rs2,imm,aq,rl,pred,succ⟩,goal⟩:=s
 unfold stV at *
 simp only at KB ⊢
 have hm2:=fun o=>hm1 _ (HB.out o)
 have hmin:Nat.min 0 (n - q)=0:=by simp
 generalize tx lb=lv at *
 generalize tx goal=gv at *
 go_enter Tryz.func26,Tryz.ntmps26
 go_wp2_with (first
  | (go_at_call 27;refine (KB _ (HB.out _)).mono ?_;rintro e x2 ⟨A,cap,rfl,hrd,hb2⟩;have HX2:=Lib.hid ((HB.out _).trans (hb2.mono (by simp)));have hi2:=hi1 _ HX2.out;obtain ⟨ad,rfl,hsrc⟩:=hrd.src HL0.out;have HSRC:=Lib.hid hsrc;have HR2:=Lib.hid ((HX2.out.block g hltg).trans hr);clear hrd hb2 hsrc)
  | (with_reducible refine wpList_copy_own (o:=⟨some 20,_,_,_,_,_⟩) rfl (.tmp 18) (.tmp 19) 26 26 rfl 5 Tryz.underlying26 HIS g q _ _ ad _ _ rfl rfl img.toArray 5 HR2.out cl HN1.out HSRC.out HF1.out ho1 ?_))
 go_ret
 refine ⟨rfl,?_,grown_in HX2.out (zH8 _ _ _) hltg⟩
 unfold splice
 rw [HCL.out]
 exact setRow_heap _ g _ _ _ _ HR2.out
open Go.RowKit Go.Shelf
def imgS (m:Nat) (L:Labs) (ss:Nat→Stm) (pl:Nat→Int):Nat→List Value
 | 0=>zf7 m
 | k + 1=>splice (imgS m L ss pl k) (pl k).toNat (za4 (putB L (pl k) (ss k)))
def Puts (L:Labs) (p:Int) (s:Stm):Prop:=0≤s.count∧((s.inst.op=0∧0≤s.value∧s.count≤1024)∨(Rgt (zj6 L p s)∧s.count=4∧(s.goal=[]∨(s.goal.length≤16∧(zm7 L s.goal).isSome=true∧I64 ((zm7 L s.goal).getD 0 - p)))))
theorem instG_op (L:Labs) (p:Int) (s:Stm):(zj6 L p s).op=s.inst.op:=by
 unfold zj6
 split <;> rfl
theorem zQ1 {L:Labs} {p:Int} {s:Stm} (h:Puts L p s):((putB L p s).length:Int)=s.count:=by
 obtain ⟨h0,⟨h1,_,h3⟩ | ⟨h1,h2,_⟩⟩:=h
 ·unfold putB
  rw [if_pos h1,List.length_append,zc7,List.length_replicate]
  unfold cap8
  omega
 ·have:s.inst.op≠0:=by have:=h1.op;rw [instG_op] at this;omega
  unfold putB
  rw [if_neg this,zc7,h2]
  rfl
theorem puts_c {L:Labs} {p:Int} {s:Stm} (h:Puts L p s) (b z:Nat) (X:World) (hm:X.ownsMap Tryz.prog 9 (plainElem Tryz.prog 3) b z (labD L)) (T:Tab7 X):Calls Tryz.prog 27 #[stV s,.int .i64 p,.map (some b)] X (RetT X (putB L p s)):=by
 obtain ⟨h0,⟨h1,h2,h3⟩ | ⟨h1,h2,h3 | ⟨h3,h4,h5⟩⟩⟩:=h
 ·exact Zf8 L s p _ h1 ⟨h0,h3⟩ h2 X
 ·have e:zj6 L p s=s.inst:=by unfold zj6;rw [if_pos h3]
  rw [e] at h1
  exact zB0 L s p _ h1 h3 X T
 ·by_cases hg:s.goal=[]
  ·have e:zj6 L p s=s.inst:=by unfold zj6;rw [if_pos hg]
   rw [e] at h1
   exact zB0 L s p _ h1 hg X T
  ·exact zZ0 L s p b z h1 hg h3 h4 h5 X hm T
structure AsmJ (w:World) (m:Nat) (r:Nat) (L:Labs) (v:Value) (img:List Value) (b0 b1 b2 g:Nat) (X:World):Prop where
 places:Boxed X b1 58 (.map (some r))
 image:Boxed X b2 26 (.slice (some ⟨g,0,none⟩) m m)
 cells:X.heap[g]?=some (.cells img.toArray 5 (0,0))
 below:Below b0 w X
 map:X.ownsMap Tryz.prog 9 (plainElem Tryz.prog 3) r L.length (labD L)
 row:X.ownsRow b0 85 2 v L.length (labC L)
theorem laid_all {X:World} {s:Stm} {l:List Int} (q n:Nat) (mv:Value) (b1 b2 g:Nat) (img:List Value) (hn:img.length=n) (hq:q + l.length≤n) (hn2:n≤1024)
  (hm:X.cell? ⟨b1,0,none⟩=some mv) (hi:X.cell? ⟨b2,0,none⟩=some (.slice (some ⟨g,0,none⟩) n n)) (hr:X.heap[g]?=some (.cells img.toArray 5 (0,0)))
  (KB:∀ x,Below X.heap.size X x→Calls Tryz.prog 27 #[stV s,.int .i64 q,mv] x (RetT x l)) :
  Calls Tryz.prog 26 #[stV s,.int .i64 q,.pointer (some ⟨b1,0,none⟩),.pointer (some ⟨b2,0,none⟩)] X (Laid1 X g q img l):=by
 by_cases h0:0<l.length
 ·exact Zp9 s l h0 q n mv b1 b2 g img X hn hq hn2 hm hi hr KB
 ·obtain rfl:l=[]:=List.eq_nil_of_length_eq_zero (by omega)
  exact Zd6 s q n mv b1 b2 g img X hn (by simpa using hq) hn2 hm hi hr KB
theorem zV0 {w:World} {S:List UInt8} {m:Nat} {L:Labs} {ss:Nat→Stm} {pl:Nat→Int} {lab:Nat→Labs} (h:Prog1 w S m ss pl lab) (h2:∀ k,k<(zb2 S).length→Puts L (pl k) (ss k)):∀ k,k≤(zb2 S).length→(imgS m L ss pl k).length=m
 | 0,_=>by simp [imgS,zf7]
 | k + 1,hk=>by
  have ih:=zV0 h h2 k (by omega)
  have hp:=h.place k (by omega)
  have hl:=zQ1 (h2 k (by omega))
  rw [imgS,length_splice _ _ _ (by
   rw [show (za4 (putB L (pl k) (ss k))).length=(putB L (pl k) (ss k)).length by simp [za4],ih]
   omega),ih]
theorem Zo3 {w:World} {S:List UInt8} {m:Nat} {L:Labs} {ss:Nat→Stm} {pl:Nat→Int} {lab:Nat→Labs} (h:Prog1 w S m ss pl lab) (h2:∀ k,k<(zb2 S).length→Puts L (pl k) (ss k)) (T:Tab7 w) (b0 b1 b2 g n0 r:Nat) (v:Value) (hw:w.heap.size=b0) (hb:b0≤b1∧b0≤b2∧b0≤g∧g<n0∧g≠b1∧g≠b2)
  (k:Nat) (X:World) (hk:k<(zb2 S).length) (hX:AsmJ w m r L v (imgS m L ss pl k) b0 b1 b2 g X) :
  Calls Tryz.prog 26 #[stV (ss k),.int .i64 (pl k),.pointer (some ⟨b1,0,none⟩),.pointer (some ⟨b2,0,none⟩)] X fun e X'=>e=.returned (.int .i64 0)∧AsmJ w m r L v (imgS m L ss pl (k + 1)) b0 b1 b2 g X'∧Dk n0 X X':=by
 have hp:=h.place k hk
 have hl:=zQ1 (h2 k hk)
 have hsz:=h.size
 obtain ⟨q,hq⟩:∃ q:Nat,pl k=q:=⟨(pl k).toNat,by omega⟩
 have hpu:=h2 k hk
 rw [hq] at hp hl hpu ⊢
 refine (laid_all (l:=putB L q (ss k)) q m (.map (some r)) b1 b2 g (imgS m L ss pl k) (zV0 h h2 k (by omega)) (by omega) (by omega) hX.places.cell hX.image.cell hX.cells (fun x hx=>puts_c hpu r L.length x (zL5 hX.map hx) (T.below (by
  have h4:=hX.below
  rw [← hw] at h4
  exact h4.trans (hx.mono h4.size))))).mono ?_
 rintro e X' ⟨rfl,h3,hg⟩
 have hgm:r≠g:=by
  intro e
  obtain ⟨es,clock,hm,_⟩:=hX.map
  rw [e,hX.cells] at hm
  cases hm
 have hgr:v.ownBlock≠some g:=by
  intro e
  obtain ⟨_,cs,hcs⟩:=zv7 hX.row e.symm
  rw [hX.cells] at hcs
  cases hcs
 refine ⟨rfl,⟨Boxed.kept hX.places hg (by simp;omega),Boxed.kept hX.image hg (by simp;omega),?_,?_,hX.map.kept hg (by simpa using hgm),hX.row.kept hg (.inr hgr)⟩,?_⟩
 ·rw [imgS,hq]
  exact h3
 ·refine hX.below.grown hg (Nat.le_trans (by omega) hX.below.size) (fun j e=>by cases e;omega)
 ·refine ⟨hg.size,fun r o hr ho _=>(hg.block r (Array.getElem?_eq_some_iff.1 ho).1 (by simp;omega)).trans ho⟩
theorem row_at2 {X X':World} {base:Nat} {t:TypeId} {z n:Nat} {v:Value} {xs:List Value} (h:X.ownsRow base t z v n xs) (e:∀ g cs,some g=v.ownBlock→X.heap[g]?=some (.cells cs t (0,0))→X'.heap[g]?=some (.cells cs t (0,0))):X'.ownsRow base t z v n xs:=by
 refine ⟨h.1,?_⟩
 rcases h.2 with h2 | ⟨g,c,cur,hv,hb,hg,r⟩
 ·exact .inl h2
 ·have hq:some g=v.ownBlock:=by rw [hv];simp [Value.ownBlock]
  exact .inr ⟨g,c,cur,hv,hb,e g cur hq hg,r⟩
def Zi4 (w:World) (m:Nat) (L:Labs) (img:List Value) (e:Ending) (w':World):Prop :=
 ∃ g v,e=.returned (.tuple #[.slice (some ⟨g,0,none⟩) m m,v,.int .i64 0,.int .i64 0])∧w'.heap[g]?=some (.cells img.toArray 5 (0,0))∧w.heap.size≤g∧w'.ownsRow w.heap.size 85 2 v L.length (labC L)∧Below w.heap.size w w'
theorem asm_c (S:List UInt8) (m:Nat) (ss:Nat→Stm) (pl:Nat→Int) (lab:Nat→Labs) (w:World) (h:Prog1 w S m ss pl lab) (h2:∀ k,k<(zb2 S).length→Puts (lab (zb2 S).length) (pl k) (ss k)) (T:Tab7 w) :
  Calls Tryz.prog 9 #[tx S,.int .i64 m] w (Zi4 w m (lab (zb2 S).length) (imgS m (lab (zb2 S).length) ss pl (zb2 S).length)):=by
 obtain ⟨i0,hi,hz0,hz1,hz2⟩:=info_parts Tryz.info5
 have KS:=survey_c S m ss pl lab w h
 obtain ⟨L,hL⟩:∃ L,lab (zb2 S).length=L:=⟨_,rfl⟩
 rw [hL] at KS h2 ⊢
 have KT:=Lib.hid (fun (b0 b1 b2 g r:Nat) (v:Value) (x:World) (hw:w.heap.size=b0) (hb:b0≤b1∧b0≤b2∧b0≤g∧g<x.heap.size∧b1<x.heap.size∧b2<x.heap.size∧g≠b1∧g≠b2) (hr:r<x.heap.size) (hv:∀ q,some q=v.ownBlock→q<x.heap.size) (hj:AsmJ w m r L v (zf7 m) b0 b1 b2 g x) =>
  Zh1 S (by have:=h.len;omega) (.pointer (some ⟨b1,0,none⟩)) (.pointer (some ⟨b2,0,none⟩)) ss pl x (fun k X=>AsmJ w m r L v (imgS m L ss pl k) b0 b1 b2 g X)
   (fun k X X' hX hf=>⟨hf.boxed hX.places (by omega),hf.boxed hX.image (by omega),hf.block g _ hX.cells (.inl (by omega)),hf.below hX.below (by omega) (by omega),Zp7 hX.map (fun o ho=>hf.block r o ho (.inl hr)),row_at2 hX.row (fun q _ hq ho=>hf.block q _ ho (.inl (hv q hq)))⟩)
   (fun k X hk hX=>h.read k X hk (by have:=hX.below;rw [← hw] at this;exact this))
   (fun k X hk _ hX=>Zo3 h h2 T b0 b1 b2 g x.heap.size r v hw (by omega) k X hk hX)
   (fun k hk=>⟨h.next k hk,by have:=h.place k hk;omega,by have:=h.place k hk;have:=h.size;omega⟩) h.start.1 hj)
 have hl:=h.len
 have hm4:m≤1024:=by have:=h.size;omega
 have hs:(bs S).size=S.length:=rfl
 clear h h2 T hL
 unfold tx at KS KT ⊢
 generalize imgS m L ss pl (zb2 S).length=img at *
 generalize bs S=q at *
 rw [← hs] at hl
 have d1:decide ((m:Int)<0)=false:=decide_eq_false (by omega)
 have d2:decide ((1024:Int)<m)=false:=decide_eq_false (by omega)
 have d3:decide ((65536:Int)<(q.size:Int))=false:=decide_eq_false (by omega)
 clear hs
 go_enter Tryz.func9,Tryz.ntmps9
 go_upto_region 6 with (first
  | (go_at_call 24;refine KS.mono ?_;rintro e x2 ⟨r,v,rfl,hb2,hrb,hmap,hlr⟩))
 have HM:=Lib.hid hmap
 have HLR:=Lib.hid hlr
 have j1:=Boxed.new x2 58 (.map (some r))
 have hB3:Below w.heap.size w (x2.alloc (.cells #[.map (some r)] 58)):=hb2.alloc hb2.size _
 have hA3:Below x2.heap.size x2 (x2.alloc (.cells #[.map (some r)] 58)):=(Below.refl _ x2).alloc (Nat.le_refl _) _
 have s3:=World.size_alloc x2 (.cells #[.map (some r)] 58)
 have hb2s:=hb2.size
 clear hb2 KS d1 d2 d3 hmap hlr hrb
 obtain ⟨b1,hb1⟩:∃ b,x2.heap.size=b:=⟨_,rfl⟩
 have HB1:=Lib.hid hb1
 rw [hb1] at j1 s3 hb2s hA3 ⊢
 generalize x2.alloc (.cells #[.map (some r)] 58)=x3 at *
 clear hb1
 go_upto_region 7 with (at_make;refine wpList_make_full _ rfl _ _ 26 rfl b1 5 i0 (.int .u8 0) 1 Tryz.underlying26 hi hz0 hz1 .i64 .i64 _ _ m rfl rfl rfl rfl ?_ ?_ ?_ ?_)
 ·rw [hz2];omega
 ·unfold maxLen;omega
 ·omega
 intro x4 hown hgrow
 have hK:Below x3.heap.size x3 x4:=Below.grown (Below.refl _ _) hgrow (Nat.le_refl _) (fun _ h=>by cases h)
 have hrow:=Zm3 hown rfl
 rw [zi5 m] at hrow
 have hB4:=hB3.trans (hK.mono (by omega))
 have hA4:=hA3.trans (hK.mono (by omega))
 have j4:=Boxed.on hK j1
 have hlt:b1 + 1<x4.heap.size:=(Array.getElem?_eq_some_iff.1 hrow).1
 clear hown hgrow hK j1 hB3 hA3 s3
 go_upto_region 7 with (fail)
 obtain ⟨g,hg⟩:∃ g,b1 + 1=g:=⟨_,rfl⟩
 rw [hg] at hrow hlt ⊢
 have k1:=j4.alloc (.cells #[.slice (some ⟨g,0,none⟩) m m] 26)
 have k2:=Boxed.new x4 26 (.slice (some ⟨g,0,none⟩) m m)
 have k3:=(Below.heap_alloc x4 (.cells #[.slice (some ⟨g,0,none⟩) m m] 26) g hlt).trans hrow
 have k4:=hB4.alloc hB4.size (.cells #[.slice (some ⟨g,0,none⟩) m m] 26)
 have k5:=hA4.alloc (by omega) (.cells #[.slice (some ⟨g,0,none⟩) m m] 26)
 have s5:=World.size_alloc x4 (.cells #[.slice (some ⟨g,0,none⟩) m m] 26)
 clear j4 hrow hB4 hA4
 obtain ⟨b2,hb2⟩:∃ b,x4.heap.size=b:=⟨_,rfl⟩
 rw [hb2] at k2 s5 hlt ⊢
 generalize x4.alloc (.cells #[.slice (some ⟨g,0,none⟩) m m] 26)=x5 at *
 rw [← HB1.out] at k5
 have k6:=zL5 HM.out k5
 have k7:=Zl1 HLR.out (fun q _ _ ho=>(k5.block q (Array.getElem?_eq_some_iff.1 ho).1).trans ho)
 have hr5:r<x5.heap.size:=by obtain ⟨es,clock,hb,_⟩:=k6;exact (Array.getElem?_eq_some_iff.1 hb).1
 have hv5:∀ q,some q=v.ownBlock→q<x5.heap.size:=fun q hq=>by obtain ⟨_,cs,hcs⟩:=zv7 k7 hq;exact (Array.getElem?_eq_some_iff.1 hcs).1
 have KR:=KT.out w.heap.size b1 b2 g r v x5 rfl (by omega) hr5 hv5 ⟨k1,k2,k3,k4,k6,k7⟩
 clear KT k1 k2 k3 k4 k5 k6 k7 hv5 HM HLR HB1
 go_wp2_with (first
  | (go_at_call 25;refine KR.mono ?_;rintro e x6 ⟨rfl,hX⟩;have c2:=Boxed.cell hX.image;have HX:=Lib.hid hX;clear hX))
 exact bodyPost_ret (zu9 rfl _ _ _) rfl ⟨g,v,rfl,HX.out.cells,by omega,HX.out.row,HX.out.below⟩
end Go.Proofs.YtmamblgpekafbaaGreatDoor
