/- Of stage 11. -/
import Derived.Test.YtmamblgpekafbaaGreatDoorQ0pa
import Derived.Test.YtmamblgpekafbaaGreatDoorLw7pa
set_option linter.unusedVariables false
set_option maxHeartbeats 1000000
set_option maxRecDepth 100000
namespace Go.Proofs.YtmamblgpekafbaaGreatDoor
open Go.RowKit
structure Tab11 (w:World):Prop where
 t6:Tab6 w
 t8:Tab8 w
theorem Tab11.below {W w:World} (h:Tab11 W) (hb:Below W.heap.size W w):Tab11 w:=⟨h.t6.below hb,h.t8.below hb⟩
theorem zk5 (op:Int):siz op=0∨siz op=1∨siz op=2∨siz op=4∨siz op=8:=by
 by_cases h:1≤op∧op≤75
 ·have:∀ k:Fin 75,siz ((k.val:Int) + 1)=0∨siz ((k.val:Int) + 1)=1∨siz ((k.val:Int) + 1)=2∨siz ((k.val:Int) + 1)=4∨siz ((k.val:Int) + 1)=8:=by decide
  have:=this ⟨op.toNat - 1,by omega⟩
  simp only [show ((op.toNat - 1:Nat):Int) + 1=op by omega] at this
  exact this
 ·exact .inl (by unfold siz;rw [if_neg h])
def whrN (n addr len:Int):Int:=if n=0 then 0 else if addr % n≠0 then 4 else if len<addr + n then 3 else 0
theorem whr_n (op addr len:Int):whrV op addr len=whrN (siz op) addr len:=rfl
theorem where_c (op ad len:Int) (ho:I64 op) (ha:U64 ad) (h0:0≤len) (h1:len≤1024) (w:World) (T:TabL w) :
  Calls Tryz.prog 56 #[.int .i64 op,.int .u64 ad,.int .i64 len] w fun e w'=>e=.returned (.int .i64 (whrV op ad len))∧w=w':=by
 have KS:=zm5 op ho w T
 rw [whr_n]
 have hw:=zk5 op
 obtain ⟨a0,a1⟩:=ha
 clear ho T
 generalize siz op=n at *
 rcases hw with rfl | hw
 ·go_enter Tryz.func56,Tryz.ntmps56
  go_wp2_with (first
   | (go_at_call 31;refine KS.mono ?_;rintro e w2 ⟨rfl,rfl⟩))
  go_ret
  exact ⟨rfl,rfl⟩
 ·by_cases hm:ad % n=0
  ·by_cases hl:len<n
   ·have HV:Hid (whrN n ad len=3):=by show _=_;unfold whrN;rw [if_neg (by omega),if_neg (by omega),if_pos (by omega)]
    have bm:(ad % n != 0)=false:=by simpa using hm
    clear hm
    rcases hw with rfl | rfl | rfl | rfl
    all_goals
     go_enter Tryz.func56,Tryz.ntmps56
     go_wp2_with (first
      | (go_at_call 31;refine KS.mono ?_;rintro e w2 ⟨rfl,rfl⟩))
     go_ret
     exact ⟨za1 HV.out.symm,rfl⟩
   ·have hl0:0≤len - n:=by omega
    have hl1:len - n≤1024:=by omega
    have hl2:¬ len<n:=hl
    have bm:(ad % n != 0)=false:=by simpa using hm
    by_cases hg:len - n<ad
    ·have HV:Hid (whrN n ad len=3):=by show _=_;unfold whrN;rw [if_neg (by omega),if_neg (by omega),if_pos (by omega)]
     clear hm
     rcases hw with rfl | rfl | rfl | rfl
     all_goals
      go_enter Tryz.func56,Tryz.ntmps56
      go_wp2_with (first
       | (go_at_call 31;refine KS.mono ?_;rintro e w2 ⟨rfl,rfl⟩))
      go_ret
      exact ⟨za1 HV.out.symm,rfl⟩
    ·have HV:Hid (whrN n ad len=0):=by show _=_;unfold whrN;rw [if_neg (by omega),if_neg (by omega),if_neg (by omega)]
     have hg2:¬ len - n<ad:=hg
     clear hm
     rcases hw with rfl | rfl | rfl | rfl
     all_goals
      go_enter Tryz.func56,Tryz.ntmps56
      go_wp2_with (first
       | (go_at_call 31;refine KS.mono ?_;rintro e w2 ⟨rfl,rfl⟩))
      go_ret
      exact ⟨za1 HV.out.symm,rfl⟩
  ·have HV:Hid (whrN n ad len=4):=by show _=_;unfold whrN;rw [if_neg (by omega),if_pos hm]
   have bm:(ad % n != 0)=true:=by simpa using hm
   have hw:n=2∨n=4∨n=8:=by
    rcases hw with rfl | h
    ·exact absurd (by omega) hm
    ·exact h
   clear hm
   rcases hw with rfl | rfl | rfl
   all_goals
    go_enter Tryz.func56,Tryz.ntmps56
    go_wp2_with (first
     | (go_at_call 31;refine KS.mono ?_;rintro e w2 ⟨rfl,rfl⟩))
    go_ret
    exact ⟨za1 HV.out.symm,rfl⟩
theorem zF9 (op addr len:Int):whrV op addr len=0∨whrV op addr len=4∨whrV op addr len=3:=by
 unfold whrV
 split
 ·exact .inl rfl
 ·split
  ·exact .inr (.inl rfl)
  ·split
   ·exact .inr (.inr rfl)
   ·exact .inl rfl
theorem cause_c (op ad len:Int) (ho:I64 op) (ha:U64 ad) (h0:0≤len) (h1:len≤1024) (w:World) (T:TabL w) :
  Calls Tryz.prog 30 #[.int .i64 op,.int .u64 ad,.int .i64 len] w fun e w'=>e=.returned (.int .i64 (cauV op ad len))∧w=w':=by
 have KW:=where_c op ad len ho ha h0 h1 w T
 have hw:=zF9 op ad len
 have HV:Hid (cauV op ad len=if op=52 then 1 else if op=53 then 2 else if whrV op ad len=4 then 5 else if whrV op ad len=3 then 6 else 0):=rfl
 clear ho ha h0 h1 T
 by_cases e1:op=52
 ·subst e1
  have HX:Hid (cauV 52 ad len=1):=by show _=_;rw [HV.out];rfl
  clear HV KW hw
  go_enter Tryz.func30,Tryz.ntmps30
  go_wp2
  go_ret
  exact ⟨za1 HX.out.symm,rfl⟩
 by_cases e2:op=53
 ·subst e2
  have HX:Hid (cauV 53 ad len=2):=by show _=_;rw [HV.out];rfl
  clear HV KW hw
  go_enter Tryz.func30,Tryz.ntmps30
  go_wp2
  go_ret
  exact ⟨za1 HX.out.symm,rfl⟩
 have HX:Hid (cauV op ad len=if whrV op ad len=4 then 5 else if whrV op ad len=3 then 6 else 0):=by show _=_;rw [HV.out,if_neg e1,if_neg e2]
 have b1:(op == 52)=false:=by simpa using e1
 have b2:(op == 53)=false:=by simpa using e2
 clear HV e1 e2
 generalize whrV op ad len=k at *
 generalize cauV op ad len=c at *
 rcases hw with rfl | rfl | rfl
 all_goals
  go_enter Tryz.func30,Tryz.ntmps30
  go_wp2_with (first
   | (go_at_call 56;refine KW.mono ?_;rintro e w2 ⟨rfl,rfl⟩))
  go_ret
  exact ⟨za1 (HX.out.trans (by decide)).symm,rfl⟩
theorem zC4 (A:Option Addr) (n cap:Nat) (hn:n≤1024) (hc:n≤cap) (hc2:cap≤9223372036854775807) (w:World) :
  Calls Tryz.prog 10 #[.slice A n cap] w fun e w'=>e=.returned (.slice A n cap)∧w=w':=by
 have h1:(n:Int)≤1024:=by omega
 have h2:(n:Int)≤cap:=by omega
 have h3:¬ (1024:Int)<n:=by omega
 go_enter Tryz.func10,Tryz.ntmps10
 go_wp2
 go_ret
 exact ⟨rfl,rfl⟩
open Go.RowKit
def ImgAt (w:World) (A:Option Addr) (cap:Nat) (B:List Int):Prop:=Rd w w.heap.size A (za4 B)∧(∀ b ∈ B,0≤b∧b<256)∧B.length≤1024∧B.length≤cap∧cap≤9223372036854775807
theorem ImgAt.on {w w':World} {A:Option Addr} {cap:Nat} {B:List Int} (h:ImgAt w A cap B) (hb:Below w.heap.size w w'):ImgAt w' A cap B :=
 ⟨(h.1.below hb).mono (Below.size hb),h.2⟩
theorem zE5 {B:List Int} (hb:∀ b ∈ B,0≤b∧b<256) (k:Nat) (h:k + 4≤B.length):U32 (zq4 B k):=by
 have h0:=zj4 hb (i:=k) (by omega)
 have h1:=zj4 hb (i:=k + 1) (by omega)
 have h2:=zj4 hb (i:=k + 2) (by omega)
 have h3:=zj4 hb (i:=k + 3) (by omega)
 unfold zq4
 constructor <;> omega
theorem of4_at {W:World} {A:Option Addr} {cap:Nat} {B:List Int} (h:ImgAt W A cap B) (k:Nat) (hk:k + 4≤B.length) :
  ∃ b off,A=some ⟨b,off,none⟩∧b<W.heap.size∧∀ x c,BW W x→Calls Tryz.prog 39 #[.slice (some ⟨b,off + k,none⟩) 4 c] x fun e w'=>e=.returned (.int .u64 (zq4 B k))∧x=w':=by
 obtain ⟨b,off,rfl,hlt,hcell⟩:=h.1.byte (i:=0) (by omega)
 refine ⟨b,off,rfl,hlt,fun x c hx=>?_⟩
 have h0:=zj4 h.2.1 (i:=k) (by omega)
 have h1:=zj4 h.2.1 (i:=k + 1) (by omega)
 have h2:=zj4 h.2.1 (i:=k + 2) (by omega)
 have h3:=zj4 h.2.1 (i:=k + 3) (by omega)
 have g:=Zb0 (some ⟨b,off + k,none⟩) c [B.getD k 0,B.getD (k + 1) 0,B.getD (k + 2) 0,B.getD (k + 3) 0] x (by simp) (by
  intro z hz
  simp only [List.mem_cons,List.not_mem_nil,or_false] at hz
  rcases hz with rfl | rfl | rfl | rfl <;> assumption) (.inr ⟨b,off + k,rfl,Nat.lt_of_lt_of_le hlt (Below.size hx),fun i v hv=>by
  have hi:i<4:=by
   have:=(List.getElem?_eq_some_iff.1 hv).1
   simpa [za4] using this
  rw [Below.cell hx (p:=⟨b,off + k + i,none⟩) hlt,Nat.add_assoc,hcell (k + i) (by omega)]
  have hi':i=0∨i=1∨i=2∨i=3:=by omega
  rcases hi' with rfl | rfl | rfl | rfl <;> exact hv⟩)
 rw [ofB4] at g
 exact g
theorem Zm9 {B:List Int} {pc:Int} (h:pc % 4≠0∨(B.length:Int)<pc + 4):fetI B pc=za5∧fetC B pc=4:=by
 have e:fetC B pc=4:=by unfold fetC;rw [if_pos h]
 exact ⟨by unfold fetI;rw [e,if_neg (by decide)],e⟩
theorem zL9 {B:List Int} {pc:Int} (h1:pc % 4=0) (h2:¬ (B.length:Int)<pc + 4):fetI B pc=decI (zq4 B pc.toNat)∧fetC B pc=if decB (zq4 B pc.toNat)=true then 0 else 3:=by
 have e:fetC B pc=if decB (zq4 B pc.toNat)=true then 0 else 3:=by unfold fetC;rw [if_neg (by omega)]
 refine ⟨?_,e⟩
 unfold fetI
 rw [e]
 by_cases hd:decB (zq4 B pc.toNat)=true
 ·rw [if_pos hd,if_pos rfl]
 ·rw [if_neg hd,if_neg (by decide)]
  unfold decB at hd
  unfold decI
  rw [if_pos (by simpa using hd)]
theorem zt0 {W w1:World} {z:Ins} {g:Nat} (i:Ins) (h1:Blk (za0 z) 39 g w1) (h2:BW W w1) (hg:W.heap.size≤g:=by exact Nat.le_refl _) :
  ∃ w2,(storeVar 39 ⟨g,0,none⟩ (.agg (za0 i))).run Tryz.prog w1=.ok () w2∧Blk (za0 i) 39 g w2∧BW W w2:=by
 obtain ⟨w2,e1,e2,e3⟩:=(Has.of h1 rfl).put (P:=Tryz.prog) (za0 i) rfl (zn2 i) (ty:=39) (by kernel_rfl)
 exact ⟨w2,e1,e2,Below.stored h2 e3 hg (Below.size h2)⟩
def RetF (w:World) (i:Ins) (c:Int) (e:Ending) (w':World):Prop:=e=.returned (.tuple #[insV i,.int .i64 c])∧Below w.heap.size w w'
theorem fetch_no (A:Option Addr) (cap:Nat) (B:List Int) (pc:Int) (w:World) (hi:ImgAt w A cap B) (hp:U64 pc) (h:pc % 4≠0∨(B.length:Int)<pc + 4) :
  Calls Tryz.prog 28 #[.slice A B.length cap,.int .u64 pc] w (RetF w (fetI B pc) (fetC B pc)):=by
 obtain ⟨e1,e2⟩:=Zm9 h
 rw [e1,e2]
 have KI:=fun x=>zC4 A B.length cap hi.2.2.1 hi.2.2.2.1 hi.2.2.2.2 x
 have hn:=hi.2.2.1
 obtain ⟨p0,p1⟩:=hp
 clear hi e1 e2
 generalize B.length=n at *
 have HA:=Blk.new (za0 za5) 39 w
 have HR:Hid (Blk (za0 za5) 39 w.heap.size (w.alloc (.cells (za0 za5) 39))):=HA
 have HB:Hid (Below w.heap.size w (w.alloc (.cells (za0 za5) 39))):=(Below.refl _ _).alloc (Nat.le_refl _) _
 unfold za5 za0 at HR HB
 simp only at HR HB
 clear HA
 have fin:∀ w1:World,Blk (za0 za5) 39 w.heap.size w1→BW w w1→∃ w2,(storeVar 39 ⟨w.heap.size,0,none⟩ (.agg (za0 za5))).run Tryz.prog w1=.ok () w2∧Blk (za0 za5) 39 w.heap.size w2∧BW w w2:=fun w1 h1 h2=>zt0 za5 h1 h2
 have hc:((pc % 4 != 0)=true)∨((pc % 4 != 0)=false∧(n:Int)<4)∨((pc % 4 != 0)=false∧¬ (n:Int)<4∧(n:Int) - 4<pc):=by
  by_cases h0:pc % 4=0
  ·by_cases h4:(n:Int)<4
   ·exact .inr (.inl ⟨by simpa using h0,h4⟩)
   ·exact .inr (.inr ⟨by simpa using h0,h4,by omega⟩)
  ·exact .inl (by simpa using h0)
 have hn1:(n:Int)≤1024:=by omega
 clear h hn
 rcases hc with b | ⟨b,h4⟩ | ⟨b,h4,h5⟩
 all_goals
  go_enter Tryz.func28,Tryz.ntmps28
  go_upto_region 1 with (fail)
  generalize w.alloc (.cells _ 39)=w0 at *
  go_upto_region 4 with (first
   | (go_at_call 10;refine (KI _).mono ?_;rintro e w2 ⟨rfl,rfl⟩))
  obtain ⟨w9,hs,hb9,hbw⟩:=fin w0 HR.out HB.out
  go_wp2_with (with_reducible refine zc4 (o:=⟨none,.store _ (.tmp 4) (.tmp 27),_,_,_,_⟩) rfl 39 (.tmp 4) (.tmp 27) rfl rfl rfl hs ?_)
  refine bodyPost_ret (zc2 rfl rfl hb9 Tryz.underlying39 rfl (by kernel_rfl)) rfl ?_
  exact ⟨rfl,hbw⟩
theorem Zj2 (A:Option Addr) (cap:Nat) (B:List Int) (pc:Int) (w:World) (T:Tab6 w) (hi:ImgAt w A cap B) (hp:U64 pc) (h1:pc % 4=0) (h2:¬ (B.length:Int)<pc + 4) :
  Calls Tryz.prog 28 #[.slice A B.length cap,.int .u64 pc] w (RetF w (fetI B pc) (fetC B pc)):=by
 obtain ⟨e1,e2⟩:=zL9 h1 h2
 rw [e1,e2]
 have KI:=fun x=>zC4 A B.length cap hi.2.2.1 hi.2.2.2.1 hi.2.2.2.2 x
 obtain ⟨k,rfl⟩:∃ k:Nat,pc=(k:Int):=⟨pc.toNat,by have:=hp.1;omega⟩
 have hk:k + 4≤B.length:=by omega
 obtain ⟨b,off,rfl,hblt,KO⟩:=of4_at hi k hk
 have hvr:=zE5 hi.2.1 k hk
 rw [show ((k:Int)).toNat=k from rfl]
 generalize hV:zq4 B k=V at *
 have KD:=fun x (hx:BW w x)=>decode_c V hvr x (T.below hx)
 have hw32:=w32 hvr
 have hcap:=hi.2.2.2.1
 have hcap2:=hi.2.2.2.2
 have hlen:=hi.2.2.1
 clear hi e1 e2 T h2 hV
 generalize B.length=n at *
 have bm:(((k:Int) % 4) != 0)=false:=by simpa using h1
 have g1:¬ (n:Int)<4:=by omega
 have g2:¬ (n:Int) - 4<k:=by omega
 have g3:(k:Int)≤n:=by omega
 have g4:(n:Int)≤cap:=by omega
 have g5:¬ cap=k:=by omega
 have g6:(4:Int)≤(cap:Int) - k:=by omega
 have g7:(n:Int)≤1024:=by omega
 have g8:(cap:Int)≤9223372036854775807:=by omega
 have HR:Hid (Blk (za0 za5) 39 w.heap.size (w.alloc (.cells (za0 za5) 39))):=Blk.new _ _ w
 have HB:Hid (Below w.heap.size w (w.alloc (.cells (za0 za5) 39))):=(Below.refl _ _).alloc (Nat.le_refl _) _
 unfold za5 za0 at HR HB
 simp only at HR HB
 have HD0:Hid (decB V=false→decI V=za5):=fun hd=>by
  unfold decB at hd
  unfold decI
  rw [if_pos (by simpa using hd)]
 clear h1 hk hcap hcap2 hlen hvr
 have HE:decE V=if decB V=true then 0 else 2:=rfl
 cases hd:decB V
 all_goals
  rw [hd] at HE
  have HD:=Lib.hid hd
  clear hd
  simp only [Bool.false_eq_true,if_false,if_true] at HE
  rw [HE] at KD
  clear HE
  unfold insV at KD
  generalize hz:decI V=z at *
  have HZ:=Lib.hid hz
  clear hz
  go_enter Tryz.func28,Tryz.ntmps28
  go_upto_region 1 with (fail)
  generalize w.alloc (.cells _ 39)=w0 at *
  go_upto_region 6 with (first
   | (go_at_call 10;refine (KI _).mono ?_;rintro e w2 ⟨rfl,rfl⟩)
   | (go_at_call 39;refine (KO _ _ HB.out).mono ?_;rintro e w3 ⟨rfl,rfl⟩)
   | (go_at_call 55;refine (KD _ HB.out).mono ?_;rintro e w4 ⟨rfl,hb4⟩;have hbw4:=BW.on HB.out hb4;have HR4:=Lib.hid (HR.out.on hb4);clear hb4))
 ·obtain ⟨w9,hs,hb9,hbw⟩:=zt0 (W:=w) za5 ((show Blk (za0 za5) 39 w.heap.size w4 from HR4.out).alloc (.cells (za0 z) 39)) (hbw4.new _)
  obtain rfl:z=za5:=HD0.out HD.out
  clear HR4 HR hbw4 HB
  go_wp2_with (with_reducible refine zc4 (o:=⟨none,.store _ (.tmp 4) (.tmp 40),_,_,_,_⟩) rfl 39 (.tmp 4) (.tmp 40) rfl rfl rfl hs ?_)
  refine bodyPost_ret (zc2 rfl rfl hb9 Tryz.underlying39 rfl (by kernel_rfl)) rfl ?_
  exact ⟨rfl,hbw⟩
 ·obtain ⟨w9,hs,hb9,hbw⟩:=zt0 (W:=w) z ((show Blk (za0 za5) 39 w.heap.size w4 from HR4.out).alloc (.cells (za0 z) 39)) (hbw4.new _)
  have HX:=Blk.new (za0 z) 39 w4
  clear HR4 HR hbw4 HB
  go_wp2_with (first
   | (with_reducible refine za8 (o:=⟨some 41,_,_,_,_,_⟩) rfl 39 (.tmp 7) rfl HX rfl Tryz.underlying39 rfl (by kernel_rfl) ?_)
   | (with_reducible refine zc4 (o:=⟨none,.store _ (.tmp 4) (.tmp 41),_,_,_,_⟩) rfl 39 (.tmp 4) (.tmp 41) rfl rfl rfl hs ?_))
  refine bodyPost_ret (zc2 rfl rfl hb9 Tryz.underlying39 rfl (by kernel_rfl)) rfl ?_
  exact ⟨rfl,hbw⟩
theorem fetch_c (A:Option Addr) (cap:Nat) (B:List Int) (pc:Int) (w:World) (T:Tab6 w) (hi:ImgAt w A cap B) (hp:U64 pc) :
  Calls Tryz.prog 28 #[.slice A B.length cap,.int .u64 pc] w (RetF w (fetI B pc) (fetC B pc)):=by
 by_cases h:pc % 4≠0∨(B.length:Int)<pc + 4
 ·exact fetch_no A cap B pc w hi hp h
 ·exact Zj2 A cap B pc w T hi hp (by omega) (by omega)
end Go.Proofs.YtmamblgpekafbaaGreatDoor
