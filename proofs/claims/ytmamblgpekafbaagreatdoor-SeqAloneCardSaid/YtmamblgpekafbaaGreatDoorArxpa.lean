/- Of stage 11. -/
import Derived.Test.YtmamblgpekafbaaGreatDoorAaspa
import Derived.Test.YtmamblgpekafbaaGreatDoorKr9pa
set_option maxHeartbeats 2000000
set_option maxRecDepth 100000
namespace Go.Proofs.YtmamblgpekafbaaGreatDoor
open Go.RowKit
theorem Blk.kept {cs:Array Value} {t:TypeId} {g h:Nat} {X Y:World} (hb:Blk cs t g X) (hg:X.grownBy Y (some h)) (hne:g≠h):Blk cs t g Y:=(hg.block g hb.lt (by simpa using hne)).trans hb
theorem zs0 {P:Program} {ops:Array Oper} {rest:List Oper} {o:Oper} {a:Act} {w:World} {Q:Exit→Act→World→Prop} {cs ys:Array Value} {t:TypeId} {g:Nat} (hgd:o.guard=none) (hdst:o.dst=none) (ty:TypeId) (x y:Operand) (ho:o.op=.store ty x y) (hb:Blk cs t g w)
  (hx:a.eval x=.pointer (some ⟨g,0,none⟩)) (hy:a.eval y=.agg ys) (hi:(P.info? ty).map (·.size)=some ys.size) (hs:(P.info? ty).map (·.size)=some cs.size) (h1:∀ v ∈ ys.toList,v.oneCell'=true)
  (h : ∀ w', Blk ys t g w' → w.grownBy w' (some g) → wpList P ops Q rest a w') : wpList P ops Q (o :: rest) a w := by
 have hse:cs.size=ys.size:=Option.some.inj (hs.symm.trans hi)
 obtain ⟨w', hr, hb', hg⟩ := hb.store (P := P) ys.toList (by rw [Array.length_toList, hse]) h1
 refine wpList_plain hgd fun K hK=>?_
 unfold Oper.wp execOp
 have hsz:(sizeOf ty).run P w=.ok ys.size w:=by
  obtain ⟨i,hi1,hi2⟩:=Option.map_eq_some_iff.1 hi
  simp [sizeOf,typeInfo,hi1,hi2]
 simp only [ho,hx,hy,Instr.storeAt,Instr.sureAddr,storeVar,Value.cells,Sem.run_bind,Sem.run_pure,Result.andThen_ok,hsz,ne_eq,not_true_eq_false,if_false,hr]
 have hp:a.put o.dst undef=a:=by rw [hdst];rfl
 exact hK _ _ (hp.symm ▸ h w' (by simpa using hb') hg)
theorem zE7 (s:Stm):∀ v ∈ (ze8 s).toList,v.oneCell'=true:=by
 intro v hv
 simp [ze8] at hv
 rcases hv with rfl | rfl | rfl | rfl | rfl | rfl | rfl | rfl | rfl | rfl | rfl | rfl | rfl | rfl | rfl <;> rfl
def zk8 (i:Ins):Stm:=⟨[],false,0,4,0,i,[]⟩
theorem zR0 (i:Ins) (w:World):Calls Tryz.prog 89 #[insV i] w fun e w'=>e=.returned (stV (zk8 i))∧Below w.heap.size w w':=by
 have HB:∀ o o' ,Below w.heap.size w ((w.alloc o).alloc o'):=fun o o'=>((Below.refl _ w).alloc (Nat.le_refl _) o).alloc (by simp) o'
 obtain ⟨op,rd,rs1,rs2,imm,aq,rl,pred,succ⟩:=i
 unfold insV stV zk8
 simp only
 go_enter Tryz.func89,Tryz.ntmps89
 go_upto_region 1 with (fail)
 have hz:=Blk.new (ze8 noStm) 64 (w.alloc (.cells #[.int .i64 op,.int .i64 rd,.int .i64 rs1,.int .i64 rs2,.int .i64 imm,.bool aq,.bool rl,.int .i64 pred,.int .i64 succ] 39))
 have hcs:ze8 noStm=#[.string ⟨#[]⟩,.bool false,.int .i64 0,.int .i64 0,.int .u64 0,.int .i64 0,.int .i64 0,.int .i64 0,.int .i64 0,.int .i64 0,.bool false,.bool false,.int .i64 0,.int .i64 0,.string ⟨#[]⟩]:=rfl
 rw [World.size_alloc,hcs] at hz
 have HB1:=Lib.hid (HB (.cells #[.int .i64 op,.int .i64 rd,.int .i64 rs1,.int .i64 rs2,.int .i64 imm,.bool aq,.bool rl,.int .i64 pred,.int .i64 succ] 39) (.cells (ze8 noStm) 64))
 rw [hcs] at HB1
 have ho:=zE7 (zk8 ⟨op,rd,rs1,rs2,imm,aq,rl,pred,succ⟩)
 unfold ze8 zk8 at ho
 have e0:tx []=.string ⟨#[]⟩:=rfl
 rw [e0] at ho
 have hlt:w.heap.size<((w.alloc (.cells #[.int .i64 op,.int .i64 rd,.int .i64 rs1,.int .i64 rs2,.int .i64 imm,.bool aq,.bool rl,.int .i64 pred,.int .i64 succ] 39)).alloc (.cells #[.string ⟨#[]⟩,.bool false,.int .i64 0,.int .i64 0,.int .u64 0,.int .i64 0,.int .i64 0,.int .i64 0,.int .i64 0,.int .i64 0,.bool false,.bool false,.int .i64 0,.int .i64 0,.string ⟨#[]⟩] 64)).heap.size:=by simp;omega
 go_wp2_with (with_reducible refine zs0 (o:=⟨none,_,_,_,_,_⟩) rfl rfl 64 (.tmp 2) (.tmp 4) rfl hz rfl rfl (by kernel_rfl) (by kernel_rfl) ho ?_;intro w4 hb4 hg4)
 exact bodyPost_ret (zb7 rfl rfl hb4 Tryz.underlying64 rfl (by kernel_rfl)) rfl ⟨rfl,Below.stored HB1.out hg4 (Nat.le_succ _) (Nat.le_of_lt hlt)⟩
theorem zJ3 (S:List UInt8) (hl:S.length≤100000) (s:Stm) (hc:Lib.hasSuffix S [58]=false) (hk:∀ K ∈ ([[],[46,111,114,103],[46,98,121,116,101],[46,104,97,108,102],[46,119,111,114,100],[46,100,119,111,114,100],[46,122,101,114,111],[110,111,112],[104,97,108,116],[108,105],[106]]:List (List UInt8)),befT 32 S≠K)
  (w:World) (KI:∀ x,Below w.heap.size w x→Calls Tryz.prog 92 #[tx S] x fun e w'=>e=.returned (.tuple #[stV (s),.bool true])∧Below x.heap.size x w') :
  Calls Tryz.prog 52 #[tx S] w fun e w'=>e=.returned (.tuple #[stV (s),.bool true])∧Below w.heap.size w w':=by
 have KC:=fun x=>zt4 S hl x
 have KU:=fun x=>zF8 32 S hl x
 rw [hc] at KC
 unfold CutR at KU
 generalize befT 32 S=F at *
 generalize aftT 32 S=G at *
 generalize decide (32 ∈ S)=bb at *
 generalize Lib.trimSuffix S [58]=Z at *
 have q0:(bs F).toList.isEmpty=false:=by
  cases F with
  | nil=>exact absurd rfl (hk [] (by simp))
  | cons a F=>rw [ze3];rfl
 have q1:((bs F).toList == [46,111,114,103])=false:=by rw [ze3];exact beq_eq_false_iff_ne.2 (hk [46,111,114,103] (by simp))
 have q2:((bs F).toList == [46,98,121,116,101])=false:=by rw [ze3];exact beq_eq_false_iff_ne.2 (hk [46,98,121,116,101] (by simp))
 have q3:((bs F).toList == [46,104,97,108,102])=false:=by rw [ze3];exact beq_eq_false_iff_ne.2 (hk [46,104,97,108,102] (by simp))
 have q4:((bs F).toList == [46,119,111,114,100])=false:=by rw [ze3];exact beq_eq_false_iff_ne.2 (hk [46,119,111,114,100] (by simp))
 have q5:((bs F).toList == [46,100,119,111,114,100])=false:=by rw [ze3];exact beq_eq_false_iff_ne.2 (hk [46,100,119,111,114,100] (by simp))
 have q6:((bs F).toList == [46,122,101,114,111])=false:=by rw [ze3];exact beq_eq_false_iff_ne.2 (hk [46,122,101,114,111] (by simp))
 have q7:((bs F).toList == [110,111,112])=false:=by rw [ze3];exact beq_eq_false_iff_ne.2 (hk [110,111,112] (by simp))
 have q8:((bs F).toList == [104,97,108,116])=false:=by rw [ze3];exact beq_eq_false_iff_ne.2 (hk [104,97,108,116] (by simp))
 have q9:((bs F).toList == [108,105])=false:=by rw [ze3];exact beq_eq_false_iff_ne.2 (hk [108,105] (by simp))
 have q10:((bs F).toList == [106])=false:=by rw [ze3];exact beq_eq_false_iff_ne.2 (hk [106] (by simp))
 unfold tx at *
 clear hk
 generalize bs F=q at *
 have hz:=Blk.new #[.string ⟨#[]⟩,.bool false,.int .i64 0,.int .i64 0,.int .u64 0,.int .i64 0,.int .i64 0,.int .i64 0,.int .i64 0,.int .i64 0,.bool false,.bool false,.int .i64 0,.int .i64 0,.string ⟨#[]⟩] 64 w
 have HB:Hid (Below w.heap.size w (w.alloc (.cells #[.string ⟨#[]⟩,.bool false,.int .i64 0,.int .i64 0,.int .u64 0,.int .i64 0,.int .i64 0,.int .i64 0,.int .i64 0,.int .i64 0,.bool false,.bool false,.int .i64 0,.int .i64 0,.string ⟨#[]⟩] 64))):=Lib.hid ((Below.refl _ w).alloc (Nat.le_refl _) _)
 have hst:stV (s)=.agg (ze8 (s)):=rfl
 have hsz:(ze8 (s)).size=15:=rfl
 have hone:=zE7 (s)
 rw [hst] at KI ⊢
 clear hst
 generalize ze8 (s)=ys at *
 go_enter Tryz.func52,Tryz.ntmps52
 go_wp2_with (first
  | (go_at_call 85;refine (KC _).mono ?_;rintro e w2 ⟨rfl,rfl⟩)
  | (go_at_call 83;refine (KU _).mono ?_;rintro e w3 ⟨rfl,hb3⟩;have HB3:=Lib.hid (HB.out.trans (hb3.mono HB.out.size));have HZ3:=hz.on hb3;clear hb3)
  | (go_at_call 92;refine (KI _ HB3.out).mono ?_;rintro e w4 ⟨rfl,hb4⟩;have HB4:=Lib.hid (HB3.out.trans (hb4.mono HB3.out.size));have HZ4:=HZ3.on hb4;clear hb4)
  | (with_reducible refine zs0 (o:=⟨none,_,_,_,_,_⟩) rfl rfl 64 (.tmp 2) (.tmp 81) rfl HZ4 rfl rfl (by rw [hsz];kernel_rfl) (by kernel_rfl) hone ?_;intro w5 hb5 hg5))
 exact bodyPost_ret (zc2 rfl rfl hb5 Tryz.underlying64 rfl (by rw [hsz];kernel_rfl)) rfl ⟨rfl,Below.stored HB4.out hg5 (Nat.le_refl _) HB4.out.size⟩
theorem zA6 (S:List UInt8) (hl:S.length≤100000) (i:Ins) (h:zq3 S=some i) (w:World) (T:TabR w) :
  Calls Tryz.prog 92 #[tx S] w fun e w'=>e=.returned (.tuple #[stV (zk8 i),.bool true])∧Below w.heap.size w w':=by
 have KR:=fun x (hb:Below w.heap.size w x)=>Zi5 S hl x (T.below hb)
 rw [h] at KR
 unfold RetRd at KR
 have e1:insV ((some i).getD za5)=insV i:=rfl
 have e2:(if (some i).isSome then (0:Int) else 5)=0:=rfl
 rw [e1,e2] at KR
 have KO:=fun x=>zR0 i x
 clear h T e1 e2
 have hst:stV (zk8 i)=.agg (ze8 (zk8 i)):=rfl
 have hsz:(ze8 (zk8 i)).size=15:=rfl
 have hone:=zE7 (zk8 i)
 rw [hst] at KO ⊢
 clear hst
 generalize ze8 (zk8 i)=ys at *
 have hin:insV i=.agg (za0 i):=rfl
 have hisz:(za0 i).size=9:=rfl
 have hio:∀ v ∈ (za0 i).toList,v.oneCell'=true:=zn2 i
 rw [hin] at KR KO
 clear hin
 generalize za0 i=zs at *
 generalize tx S=sv at *
 have hz:=Blk.new #[.string ⟨#[]⟩,.bool false,.int .i64 0,.int .i64 0,.int .u64 0,.int .i64 0,.int .i64 0,.int .i64 0,.int .i64 0,.int .i64 0,.bool false,.bool false,.int .i64 0,.int .i64 0,.string ⟨#[]⟩] 64 w
 have HB:Hid (Below w.heap.size w (w.alloc (.cells #[.string ⟨#[]⟩,.bool false,.int .i64 0,.int .i64 0,.int .u64 0,.int .i64 0,.int .i64 0,.int .i64 0,.int .i64 0,.int .i64 0,.bool false,.bool false,.int .i64 0,.int .i64 0,.string ⟨#[]⟩] 64))):=Lib.hid ((Below.refl _ w).alloc (Nat.le_refl _) _)
 go_enter Tryz.func92,Tryz.ntmps92
 go_wp2_with (first
  | (go_at_call 126;refine (KR _ HB.out).mono ?_;rintro e w2 ⟨rfl,hb2⟩;have HB2:=Lib.hid (HB.out.trans (hb2.mono HB.out.size));have HZ2:=hz.on hb2;have HI2:=Blk.new #[.int .i64 0,.int .i64 0,.int .i64 0,.int .i64 0,.int .i64 0,.bool false,.bool false,.int .i64 0,.int .i64 0] 39 w2;clear hb2)
  | (with_reducible refine zs0 (o:=⟨none,_,_,_,_,_⟩) rfl rfl 39 (.tmp 4) (.tmp 12) rfl HI2 rfl rfl (by rw [hisz];kernel_rfl) (by kernel_rfl) hio ?_;intro w3 hb3 hg3;have HB3:=Lib.hid (Below.stored (HB2.out.alloc HB2.out.size _) hg3 HB2.out.size (by have:=HB2.out.size;simp;omega));have HZ3:=(HZ2.alloc _).kept hg3 (by have:=HB2.out.size;have:=HZ2.lt;simp;omega);clear HZ2 hg3)
  | (with_reducible refine za8 (o:=⟨some 16,_,_,_,_,_⟩) rfl 39 (.tmp 4) rfl hb3 rfl Tryz.underlying39 rfl (by rw [hisz];kernel_rfl) ?_)
  | (go_at_call 89;refine (KO _).mono ?_;rintro e w4 ⟨rfl,hb4⟩;have HB4:=Lib.hid (HB3.out.trans (hb4.mono HB3.out.size));have HZ4:=HZ3.on hb4;clear hb4)
  | (with_reducible refine zs0 (o:=⟨none,_,_,_,_,_⟩) rfl rfl 64 (.tmp 2) (.tmp 17) rfl HZ4 rfl rfl (by rw [hsz];kernel_rfl) (by kernel_rfl) hone ?_;intro w5 hb5 hg5))
 exact bodyPost_ret (zc2 rfl rfl hb5 Tryz.underlying64 rfl (by rw [hsz];kernel_rfl)) rfl ⟨rfl,Below.stored HB4.out hg5 (Nat.le_refl _) HB4.out.size⟩
open Go.RowKit
def numS (c n:Int):Stm:=⟨[],false,0,c,IntKind.u64.wrap n,za5,[]⟩
theorem blk15 {o0 o1 o2 o3 o4 o5 o6 o7 o8 o9 o10 o11 o12 o13 o14 v0 v1 v2 v3 v4 v5 v6 v7 v8 v9 v10 v11 v12 v13 v14:Value} {t:TypeId} {g:Nat} {X:World} (h:Blk #[o0,o1,o2,o3,o4,o5,o6,o7,o8,o9,o10,o11,o12,o13,o14] t g X):Blk #[v0,v1,v2,v3,v4,v5,v6,v7,v8,v9,v10,v11,v12,v13,v14] t g (((((((((((((((X.setCell ⟨g,0,none⟩ (v0)).setCell ⟨g,1,none⟩ (v1)).setCell ⟨g,2,none⟩ (v2)).setCell ⟨g,3,none⟩ (v3)).setCell ⟨g,4,none⟩ (v4)).setCell ⟨g,5,none⟩ (v5)).setCell ⟨g,6,none⟩ (v6)).setCell ⟨g,7,none⟩ (v7)).setCell ⟨g,8,none⟩ (v8)).setCell ⟨g,9,none⟩ (v9)).setCell ⟨g,10,none⟩ (v10)).setCell ⟨g,11,none⟩ (v11)).setCell ⟨g,12,none⟩ (v12)).setCell ⟨g,13,none⟩ (v13)).setCell ⟨g,14,none⟩ (v14)):=by
 have:=(((((((((((((((h.set 0 v0).set 1 v1).set 2 v2).set 3 v3).set 4 v4).set 5 v5).set 6 v6).set 7 v7).set 8 v8).set 9 v9).set 10 v10).set 11 v11).set 12 v12).set 13 v13).set 14 v14)
 simpa using this
theorem below15 {v0 v1 v2 v3 v4 v5 v6 v7 v8 v9 v10 v11 v12 v13 v14:Value} {g:Nat} {X:World}:Below g X (((((((((((((((X.setCell ⟨g,0,none⟩ (v0)).setCell ⟨g,1,none⟩ (v1)).setCell ⟨g,2,none⟩ (v2)).setCell ⟨g,3,none⟩ (v3)).setCell ⟨g,4,none⟩ (v4)).setCell ⟨g,5,none⟩ (v5)).setCell ⟨g,6,none⟩ (v6)).setCell ⟨g,7,none⟩ (v7)).setCell ⟨g,8,none⟩ (v8)).setCell ⟨g,9,none⟩ (v9)).setCell ⟨g,10,none⟩ (v10)).setCell ⟨g,11,none⟩ (v11)).setCell ⟨g,12,none⟩ (v12)).setCell ⟨g,13,none⟩ (v13)).setCell ⟨g,14,none⟩ (v14)):=((((((((((((((((Below.refl g X).setCell (p:=⟨g,0,none⟩) (Nat.le_refl _) v0).setCell (p:=⟨g,1,none⟩) (Nat.le_refl _) v1).setCell (p:=⟨g,2,none⟩) (Nat.le_refl _) v2).setCell (p:=⟨g,3,none⟩) (Nat.le_refl _) v3).setCell (p:=⟨g,4,none⟩) (Nat.le_refl _) v4).setCell (p:=⟨g,5,none⟩) (Nat.le_refl _) v5).setCell (p:=⟨g,6,none⟩) (Nat.le_refl _) v6).setCell (p:=⟨g,7,none⟩) (Nat.le_refl _) v7).setCell (p:=⟨g,8,none⟩) (Nat.le_refl _) v8).setCell (p:=⟨g,9,none⟩) (Nat.le_refl _) v9).setCell (p:=⟨g,10,none⟩) (Nat.le_refl _) v10).setCell (p:=⟨g,11,none⟩) (Nat.le_refl _) v11).setCell (p:=⟨g,12,none⟩) (Nat.le_refl _) v12).setCell (p:=⟨g,13,none⟩) (Nat.le_refl _) v13).setCell (p:=⟨g,14,none⟩) (Nat.le_refl _) v14)
theorem zC2 (n:Int) (w:World):Calls Tryz.prog 88 #[tx [46,119,111,114,100],.int .i64 n] w fun e w'=>e=.returned (stV (numS 4 n))∧Below w.heap.size w w':=by
 have hz:=Blk.new #[.string ⟨#[]⟩,.bool false,.int .i64 0,.int .i64 0,.int .u64 0,.int .i64 0,.int .i64 0,.int .i64 0,.int .i64 0,.int .i64 0,.bool false,.bool false,.int .i64 0,.int .i64 0,.string ⟨#[]⟩] 64 w
 have HB:Hid (Below w.heap.size w (w.alloc (.cells #[.string ⟨#[]⟩,.bool false,.int .i64 0,.int .i64 0,.int .u64 0,.int .i64 0,.int .i64 0,.int .i64 0,.int .i64 0,.int .i64 0,.bool false,.bool false,.int .i64 0,.int .i64 0,.string ⟨#[]⟩] 64))):=Lib.hid ((Below.refl _ w).alloc (Nat.le_refl _) _)
 have hb:=Blk.new #[.string ⟨#[]⟩,.bool false,.int .i64 0,.int .i64 4,.int .u64 (IntKind.u64.wrap n),.int .i64 0,.int .i64 0,.int .i64 0,.int .i64 0,.int .i64 0,.bool false,.bool false,.int .i64 0,.int .i64 0,.string ⟨#[]⟩] 64 w
 have ew:tx [46,119,111,114,100]=.string ⟨#[46,119,111,114,100]⟩:=rfl
 rw [ew]
 go_enter Tryz.func88,Tryz.ntmps88
 go_wp2
 exact bodyPost_ret (zb7 rfl rfl hb Tryz.underlying64 rfl (by kernel_rfl)) rfl ⟨rfl,(Below.refl _ w).alloc (Nat.le_refl _) _⟩
theorem Zo7 (S:List UInt8) (hl:S.length≤100000) (n:Int) (hc:Lib.hasSuffix S [58]=false) (hF:befT 32 S=[46,119,111,114,100]) (hN:numV (aftT 32 S)=some n) (w:World) :
  Calls Tryz.prog 52 #[tx S] w fun e w'=>e=.returned (.tuple #[stV (numS 4 n),.bool true])∧Below w.heap.size w w':=by
 have KC:=fun x=>zt4 S hl x
 have KU:=fun x=>zF8 32 S hl x
 have hal:(aftT 32 S).length≤100000:=by
  unfold aftT
  rw [List.length_drop]
  have h:S.takeWhile (fun x=>x != 32) ++ S.dropWhile (fun x=>x != 32)=S:=List.takeWhile_append_dropWhile
  have:=congrArg List.length h
  rw [List.length_append] at this
  omega
 have KN:=fun x=>Zl9 (aftT 32 S) hal x
 rw [hN] at KN
 rw [hc] at KC
 unfold CutR at KU
 rw [hF] at KU
 have KO:=fun x=>zC2 n x
 have er:retO (some n)=.tuple #[.int .i64 n,.bool true]:=rfl
 rw [er] at KN
 generalize aftT 32 S=G at *
 generalize decide (32 ∈ S)=bb at *
 generalize Lib.trimSuffix S [58]=Z at *
 clear hal hN hF hc er
 unfold tx at *
 have ef:bs [46,119,111,114,100]=⟨#[46,119,111,114,100]⟩:=rfl
 rw [ef] at KU KO
 have hz:=Blk.new #[.string ⟨#[]⟩,.bool false,.int .i64 0,.int .i64 0,.int .u64 0,.int .i64 0,.int .i64 0,.int .i64 0,.int .i64 0,.int .i64 0,.bool false,.bool false,.int .i64 0,.int .i64 0,.string ⟨#[]⟩] 64 w
 have HB:Hid (Below w.heap.size w (w.alloc (.cells #[.string ⟨#[]⟩,.bool false,.int .i64 0,.int .i64 0,.int .u64 0,.int .i64 0,.int .i64 0,.int .i64 0,.int .i64 0,.int .i64 0,.bool false,.bool false,.int .i64 0,.int .i64 0,.string ⟨#[]⟩] 64))):=Lib.hid ((Below.refl _ w).alloc (Nat.le_refl _) _)
 unfold stV numS za5 at KO ⊢
 have e0:tx []=.string ⟨#[]⟩:=rfl
 rw [e0] at KO ⊢
 simp only at KO ⊢
 generalize IntKind.u64.wrap n=u at *
 go_enter Tryz.func52,Tryz.ntmps52
 go_upto_region 16 with (first
  | (go_at_call 85;refine (KC _).mono ?_;rintro e w2 ⟨rfl,rfl⟩)
  | (go_at_call 83;refine (KU _).mono ?_;rintro e w3 ⟨rfl,hb3⟩;have HB3:=Lib.hid (HB.out.trans (hb3.mono HB.out.size));have HZ3:=hz.on hb3;clear hb3)
  | (go_at_call 87;refine (KN _).mono ?_;rintro e w4 ⟨rfl,hb4⟩;have HB4:=Lib.hid (HB3.out.trans (hb4.mono HB3.out.size));have HZ4:=HZ3.on hb4;clear hb4)
  | (go_at_call 88;refine (KO _).mono ?_;rintro e w5 ⟨rfl,hb5⟩;have HB5:=Lib.hid (HB4.out.trans (hb5.mono HB4.out.size));have HZ5:=HZ4.on hb5;clear hb5))
 have hb6:=Blk.new #[.string ⟨#[]⟩,.bool false,.int .i64 0,.int .i64 4,.int .u64 u,.int .i64 0,.int .i64 0,.int .i64 0,.int .i64 0,.int .i64 0,.bool false,.bool false,.int .i64 0,.int .i64 0,.string ⟨#[]⟩] 64 w5
 have HZ6:=HZ5.alloc (.cells #[.string ⟨#[]⟩,.bool false,.int .i64 0,.int .i64 4,.int .u64 u,.int .i64 0,.int .i64 0,.int .i64 0,.int .i64 0,.int .i64 0,.bool false,.bool false,.int .i64 0,.int .i64 0,.string ⟨#[]⟩] 64)
 have HB6:=Lib.hid (HB5.out.alloc HB5.out.size (.cells #[.string ⟨#[]⟩,.bool false,.int .i64 0,.int .i64 4,.int .u64 u,.int .i64 0,.int .i64 0,.int .i64 0,.int .i64 0,.int .i64 0,.bool false,.bool false,.int .i64 0,.int .i64 0,.string ⟨#[]⟩] 64))
 have hlt:=HZ5.lt
 obtain ⟨g,hg⟩:∃ g,w5.heap.size=g:=⟨_,rfl⟩
 rw [hg] at hb6 hlt ⊢
 obtain ⟨g0,hg0⟩:∃ g0,w.heap.size=g0:=⟨_,rfl⟩
 rw [hg0] at HZ6 hlt ⊢
 generalize w5.alloc (.cells _ 64)=w6 at *
 clear HB5 HZ5 HB4 HZ4 HB3 HZ3 HB hz KC KU KN KO hg
 have c0:=hb6.cell 0
 have c1:=hb6.cell 1
 have c2:=hb6.cell 2
 have c3:=hb6.cell 3
 have c4:=hb6.cell 4
 have c5:=hb6.cell 5
 have c6:=hb6.cell 6
 have c7:=hb6.cell 7
 have c8:=hb6.cell 8
 have c9:=hb6.cell 9
 have c10:=hb6.cell 10
 have c11:=hb6.cell 11
 have c12:=hb6.cell 12
 have c13:=hb6.cell 13
 have c14:=hb6.cell 14
 have d0:=HZ6.cell 0
 have f0:=HZ6.free 0
 have d1:=HZ6.cell 1
 have f1:=HZ6.free 1
 have d2:=HZ6.cell 2
 have f2:=HZ6.free 2
 have d3:=HZ6.cell 3
 have f3:=HZ6.free 3
 have d4:=HZ6.cell 4
 have f4:=HZ6.free 4
 have d5:=HZ6.cell 5
 have f5:=HZ6.free 5
 have d6:=HZ6.cell 6
 have f6:=HZ6.free 6
 have d7:=HZ6.cell 7
 have f7:=HZ6.free 7
 have d8:=HZ6.cell 8
 have f8:=HZ6.free 8
 have d9:=HZ6.cell 9
 have f9:=HZ6.free 9
 have d10:=HZ6.cell 10
 have f10:=HZ6.free 10
 have d11:=HZ6.cell 11
 have f11:=HZ6.free 11
 have d12:=HZ6.cell 12
 have f12:=HZ6.free 12
 have d13:=HZ6.cell 13
 have f13:=HZ6.free 13
 have d14:=HZ6.cell 14
 have f14:=HZ6.free 14
 have HB7:Below g0 w6 (((((((((((((((w6.setCell ⟨g0,0,none⟩ (.string ⟨#[]⟩)).setCell ⟨g0,1,none⟩ (.bool false)).setCell ⟨g0,2,none⟩ (.int .i64 0)).setCell ⟨g0,3,none⟩ (.int .i64 4)).setCell ⟨g0,4,none⟩ (.int .u64 u)).setCell ⟨g0,5,none⟩ (.int .i64 0)).setCell ⟨g0,6,none⟩ (.int .i64 0)).setCell ⟨g0,7,none⟩ (.int .i64 0)).setCell ⟨g0,8,none⟩ (.int .i64 0)).setCell ⟨g0,9,none⟩ (.int .i64 0)).setCell ⟨g0,10,none⟩ (.bool false)).setCell ⟨g0,11,none⟩ (.bool false)).setCell ⟨g0,12,none⟩ (.int .i64 0)).setCell ⟨g0,13,none⟩ (.int .i64 0)).setCell ⟨g0,14,none⟩ (.string ⟨#[]⟩)):=below15
 have hb7:Blk #[.string ⟨#[]⟩,.bool false,.int .i64 0,.int .i64 4,.int .u64 u,.int .i64 0,.int .i64 0,.int .i64 0,.int .i64 0,.int .i64 0,.bool false,.bool false,.int .i64 0,.int .i64 0,.string ⟨#[]⟩] 64 g0 (((((((((((((((w6.setCell ⟨g0,0,none⟩ (.string ⟨#[]⟩)).setCell ⟨g0,1,none⟩ (.bool false)).setCell ⟨g0,2,none⟩ (.int .i64 0)).setCell ⟨g0,3,none⟩ (.int .i64 4)).setCell ⟨g0,4,none⟩ (.int .u64 u)).setCell ⟨g0,5,none⟩ (.int .i64 0)).setCell ⟨g0,6,none⟩ (.int .i64 0)).setCell ⟨g0,7,none⟩ (.int .i64 0)).setCell ⟨g0,8,none⟩ (.int .i64 0)).setCell ⟨g0,9,none⟩ (.int .i64 0)).setCell ⟨g0,10,none⟩ (.bool false)).setCell ⟨g0,11,none⟩ (.bool false)).setCell ⟨g0,12,none⟩ (.int .i64 0)).setCell ⟨g0,13,none⟩ (.int .i64 0)).setCell ⟨g0,14,none⟩ (.string ⟨#[]⟩)):=blk15 HZ6
 obtain ⟨w8,hw8⟩:∃ w8,(((((((((((((((w6.setCell ⟨g0,0,none⟩ (.string ⟨#[]⟩)).setCell ⟨g0,1,none⟩ (.bool false)).setCell ⟨g0,2,none⟩ (.int .i64 0)).setCell ⟨g0,3,none⟩ (.int .i64 4)).setCell ⟨g0,4,none⟩ (.int .u64 u)).setCell ⟨g0,5,none⟩ (.int .i64 0)).setCell ⟨g0,6,none⟩ (.int .i64 0)).setCell ⟨g0,7,none⟩ (.int .i64 0)).setCell ⟨g0,8,none⟩ (.int .i64 0)).setCell ⟨g0,9,none⟩ (.int .i64 0)).setCell ⟨g0,10,none⟩ (.bool false)).setCell ⟨g0,11,none⟩ (.bool false)).setCell ⟨g0,12,none⟩ (.int .i64 0)).setCell ⟨g0,13,none⟩ (.int .i64 0)).setCell ⟨g0,14,none⟩ (.string ⟨#[]⟩))=w8:=⟨_,rfl⟩
 rw [hw8] at HB7 hb7
 have HW8:=Lib.hid hw8
 have HB8:=Lib.hid (HB6.out.trans (hg0.symm ▸ HB7))
 have hb8:=Lib.hid hb7
 clear hb6 HZ6 HB6 hb7 HB7 hw8
 go_region
 rw [HW8.out]
 clear HW8
 have hb9:Blk #[.string ⟨#[]⟩,.bool false,.int .i64 0,.int .i64 4,.int .u64 u,.int .i64 0,.int .i64 0,.int .i64 0,.int .i64 0,.int .i64 0,.bool false,.bool false,.int .i64 0,.int .i64 0,.string ⟨#[]⟩] 64 g0 w8.drew:=hb8.out
 have HB9:=Lib.hid (Below.drew HB8.out)
 clear d0 d1 d2 d3 d4 d5 d6 d7 d8 d9 d10 d11 d12 d13 d14 f0 f1 f2 f3 f4 f5 f6 f7 f8 f9 f10 f11 f12 f13 f14 c0 c1 c2 c3 c4 c5 c6 c7 c8 c9 c10 c11 c12 c13 c14 hb8 HB8
 generalize w8.drew=w9 at *
 go_wp2
 exact bodyPost_ret (zc2 rfl rfl hb9 Tryz.underlying64 rfl (by kernel_rfl)) rfl ⟨rfl,HB9.out⟩
open Go.RowKit
def zE6:Ins:=⟨53,0,0,0,0,false,false,0,0⟩
theorem Zh3 (w:World):Calls Tryz.prog 52 #[tx [104,97,108,116]] w fun e w'=>e=.returned (.tuple #[stV (zk8 zE6),.bool true])∧Below w.heap.size w w':=by
 have KC:=fun x=>zt4 [104,97,108,116] (by decide) x
 have KU:=fun x=>zF8 32 [104,97,108,116] (by decide) x
 have e1:Lib.hasSuffix [104,97,108,116] [58]=false:=by decide
 have e2:befT 32 [104,97,108,116]=[104,97,108,116]:=by decide
 rw [e1] at KC
 unfold CutR at KU
 rw [e2] at KU
 have KO:=fun x=>zR0 zE6 x
 generalize aftT 32 [104,97,108,116]=G at *
 generalize decide (32 ∈ ([104,97,108,116]:List UInt8))=bb at *
 generalize Lib.trimSuffix [104,97,108,116] [58]=Z at *
 clear e1 e2
 unfold tx at *
 have ef:bs [104,97,108,116]=⟨#[104,97,108,116]⟩:=rfl
 rw [ef] at KU KC ⊢
 have hst:stV (zk8 zE6)=.agg (ze8 (zk8 zE6)):=rfl
 have hsz:(ze8 (zk8 zE6)).size=15:=rfl
 have hone:=zE7 (zk8 zE6)
 rw [hst] at KO ⊢
 clear hst
 generalize ze8 (zk8 zE6)=ys at *
 unfold insV zE6 at KO
 simp only at KO
 have hz:=Blk.new #[.string ⟨#[]⟩,.bool false,.int .i64 0,.int .i64 0,.int .u64 0,.int .i64 0,.int .i64 0,.int .i64 0,.int .i64 0,.int .i64 0,.bool false,.bool false,.int .i64 0,.int .i64 0,.string ⟨#[]⟩] 64 w
 have HB:Hid (Below w.heap.size w (w.alloc (.cells #[.string ⟨#[]⟩,.bool false,.int .i64 0,.int .i64 0,.int .u64 0,.int .i64 0,.int .i64 0,.int .i64 0,.int .i64 0,.int .i64 0,.bool false,.bool false,.int .i64 0,.int .i64 0,.string ⟨#[]⟩] 64))):=Lib.hid ((Below.refl _ w).alloc (Nat.le_refl _) _)
 go_enter Tryz.func52,Tryz.ntmps52
 go_wp2_with (first
  | (go_at_call 85;refine (KC _).mono ?_;rintro e w2 ⟨rfl,rfl⟩)
  | (go_at_call 83;refine (KU _).mono ?_;rintro e w3 ⟨rfl,hb3⟩;have HB3:=Lib.hid (HB.out.trans (hb3.mono HB.out.size));have HZ3:=hz.on hb3;clear hb3)
  | (go_at_call 89;refine (KO _).mono ?_;rintro e w4 ⟨rfl,hb4⟩;have HB4:=Lib.hid (HB3.out.trans (hb4.mono HB3.out.size));have HZ4:=HZ3.on hb4;clear hb4)
  | (with_reducible refine zs0 (o:=⟨none,_,_,_,_,_⟩) rfl rfl 64 (.tmp 2) (.tmp 63) rfl HZ4 rfl rfl (by rw [hsz];kernel_rfl) (by kernel_rfl) hone ?_;intro w5 hb5 hg5))
 exact bodyPost_ret (zc2 rfl rfl hb5 Tryz.underlying64 rfl (by rw [hsz];kernel_rfl)) rfl ⟨rfl,Below.stored HB4.out hg5 (Nat.le_refl _) HB4.out.size⟩
open Go.RowKit
open Go.RowKit
open Go.RowKit
open Go.RowKit
end Go.Proofs.YtmamblgpekafbaaGreatDoor
