/- Of stage 11. -/
import Derived.Test.YtmamblgpekafbaaGreatDoorAalpa
set_option linter.unusedVariables false
set_option maxRecDepth 100000
set_option maxHeartbeats 1000000
namespace Go.Proofs.YtmamblgpekafbaaGreatDoor
open Go.RowKit
theorem zV1 {op ad len n:Int} (hn:siz op=n) (h0:n≠0):whrV op ad len=if ad % n≠0 then 4 else if len<ad + n then 3 else 0:=by
 unfold whrV
 rw [hn,if_neg h0]
theorem zP9 (op ad len:Int) (ho:I64 op) (ha:U64 ad) (hl:0≤len∧len≤1024) (w:World) :
  Calls Tryz.prog 20 #[.int .i64 op,.int .u64 ad,.int .i64 len] w fun e w'=>e=.returned (.int .i64 (whrV op ad len))∧Below w.heap.size w w':=by
 have KZ:=fun x=>zg9 op ho.1 ho.2 x
 obtain ⟨ha0,ha1⟩:=ha
 obtain ⟨hl0,hl1⟩:=hl
 rcases zk5 op with hs | hs | hs | hs | hs
 ·have HV:Hid (whrV op ad len=0):=by show _=_;unfold whrV;rw [if_pos hs]
  rw [hs] at KZ
  clear hs
  generalize whrV op ad len=r at *
  go_enter Tryz.func20,Tryz.ntmps20
  go_wp2_with (first | (go_at_call 18;refine (KZ _).mono ?_;rintro e w2 ⟨rfl,hb⟩))
  go_ret
  exact ⟨za1 HV.out.symm,hb⟩
 ·have hw:=zV1 (ad:=ad) (len:=len) hs (by decide)
  rw [hs] at KZ
  clear hs
  generalize whrV op ad len=r at *
  by_cases h4:ad / 1 * 1=ad
  ·have h4b:(ad / 1 * 1 == ad)=true:=by rw [h4];exact beq_self_eq_true ad
   by_cases h3:len<1
   ·have HV:Hid (r=3):=by show _=_;rw [hw,if_neg (by omega),if_pos (by omega)]
    clear hw
    go_enter Tryz.func20,Tryz.ntmps20
    go_wp2_with (first | (go_at_call 18;refine (KZ _).mono ?_;rintro e w2 ⟨rfl,hb⟩))
    go_ret
    exact ⟨za1 HV.out.symm,hb⟩
   ·by_cases h9:9000000000000000000<ad
    ·have HV:Hid (r=3):=by show _=_;rw [hw,if_neg (by omega),if_pos (by omega)]
     clear hw
     go_enter Tryz.func20,Tryz.ntmps20
     go_wp2_with (first | (go_at_call 18;refine (KZ _).mono ?_;rintro e w2 ⟨rfl,hb⟩))
     go_ret
     exact ⟨za1 HV.out.symm,hb⟩
    ·by_cases hx:len - 1<ad
     ·have HV:Hid (r=3):=by show _=_;rw [hw,if_neg (by omega),if_pos (by omega)]
      clear hw
      go_enter Tryz.func20,Tryz.ntmps20
      go_wp2_with (first | (go_at_call 18;refine (KZ _).mono ?_;rintro e w2 ⟨rfl,hb⟩))
      go_ret
      exact ⟨za1 HV.out.symm,hb⟩
     ·have HV:Hid (r=0):=by show _=_;rw [hw,if_neg (by omega),if_neg (by omega)]
      clear hw
      go_enter Tryz.func20,Tryz.ntmps20
      go_wp2_with (first | (go_at_call 18;refine (KZ _).mono ?_;rintro e w2 ⟨rfl,hb⟩))
      go_ret
      exact ⟨za1 HV.out.symm,hb⟩
  ·exact absurd (by omega) h4
 ·have hw:=zV1 (ad:=ad) (len:=len) hs (by decide)
  rw [hs] at KZ
  clear hs
  generalize whrV op ad len=r at *
  by_cases h4:ad / 2 * 2=ad
  ·have h4b:(ad / 2 * 2 == ad)=true:=by rw [h4];exact beq_self_eq_true ad
   by_cases h3:len<2
   ·have HV:Hid (r=3):=by show _=_;rw [hw,if_neg (by omega),if_pos (by omega)]
    clear hw
    go_enter Tryz.func20,Tryz.ntmps20
    go_wp2_with (first | (go_at_call 18;refine (KZ _).mono ?_;rintro e w2 ⟨rfl,hb⟩))
    go_ret
    exact ⟨za1 HV.out.symm,hb⟩
   ·by_cases h9:9000000000000000000<ad
    ·have HV:Hid (r=3):=by show _=_;rw [hw,if_neg (by omega),if_pos (by omega)]
     clear hw
     go_enter Tryz.func20,Tryz.ntmps20
     go_wp2_with (first | (go_at_call 18;refine (KZ _).mono ?_;rintro e w2 ⟨rfl,hb⟩))
     go_ret
     exact ⟨za1 HV.out.symm,hb⟩
    ·by_cases hx:len - 2<ad
     ·have HV:Hid (r=3):=by show _=_;rw [hw,if_neg (by omega),if_pos (by omega)]
      clear hw
      go_enter Tryz.func20,Tryz.ntmps20
      go_wp2_with (first | (go_at_call 18;refine (KZ _).mono ?_;rintro e w2 ⟨rfl,hb⟩))
      go_ret
      exact ⟨za1 HV.out.symm,hb⟩
     ·have HV:Hid (r=0):=by show _=_;rw [hw,if_neg (by omega),if_neg (by omega)]
      clear hw
      go_enter Tryz.func20,Tryz.ntmps20
      go_wp2_with (first | (go_at_call 18;refine (KZ _).mono ?_;rintro e w2 ⟨rfl,hb⟩))
      go_ret
      exact ⟨za1 HV.out.symm,hb⟩
  ·have h4b:(ad / 2 * 2 == ad)=false:=by simpa using h4
   have HV:Hid (r=4):=by show _=_;rw [hw,if_pos (by omega)]
   clear hw
   go_enter Tryz.func20,Tryz.ntmps20
   go_wp2_with (first | (go_at_call 18;refine (KZ _).mono ?_;rintro e w2 ⟨rfl,hb⟩))
   go_ret
   exact ⟨za1 HV.out.symm,hb⟩
 ·have hw:=zV1 (ad:=ad) (len:=len) hs (by decide)
  rw [hs] at KZ
  clear hs
  generalize whrV op ad len=r at *
  by_cases h4:ad / 4 * 4=ad
  ·have h4b:(ad / 4 * 4 == ad)=true:=by rw [h4];exact beq_self_eq_true ad
   by_cases h3:len<4
   ·have HV:Hid (r=3):=by show _=_;rw [hw,if_neg (by omega),if_pos (by omega)]
    clear hw
    go_enter Tryz.func20,Tryz.ntmps20
    go_wp2_with (first | (go_at_call 18;refine (KZ _).mono ?_;rintro e w2 ⟨rfl,hb⟩))
    go_ret
    exact ⟨za1 HV.out.symm,hb⟩
   ·by_cases h9:9000000000000000000<ad
    ·have HV:Hid (r=3):=by show _=_;rw [hw,if_neg (by omega),if_pos (by omega)]
     clear hw
     go_enter Tryz.func20,Tryz.ntmps20
     go_wp2_with (first | (go_at_call 18;refine (KZ _).mono ?_;rintro e w2 ⟨rfl,hb⟩))
     go_ret
     exact ⟨za1 HV.out.symm,hb⟩
    ·by_cases hx:len - 4<ad
     ·have HV:Hid (r=3):=by show _=_;rw [hw,if_neg (by omega),if_pos (by omega)]
      clear hw
      go_enter Tryz.func20,Tryz.ntmps20
      go_wp2_with (first | (go_at_call 18;refine (KZ _).mono ?_;rintro e w2 ⟨rfl,hb⟩))
      go_ret
      exact ⟨za1 HV.out.symm,hb⟩
     ·have HV:Hid (r=0):=by show _=_;rw [hw,if_neg (by omega),if_neg (by omega)]
      clear hw
      go_enter Tryz.func20,Tryz.ntmps20
      go_wp2_with (first | (go_at_call 18;refine (KZ _).mono ?_;rintro e w2 ⟨rfl,hb⟩))
      go_ret
      exact ⟨za1 HV.out.symm,hb⟩
  ·have h4b:(ad / 4 * 4 == ad)=false:=by simpa using h4
   have HV:Hid (r=4):=by show _=_;rw [hw,if_pos (by omega)]
   clear hw
   go_enter Tryz.func20,Tryz.ntmps20
   go_wp2_with (first | (go_at_call 18;refine (KZ _).mono ?_;rintro e w2 ⟨rfl,hb⟩))
   go_ret
   exact ⟨za1 HV.out.symm,hb⟩
 ·have hw:=zV1 (ad:=ad) (len:=len) hs (by decide)
  rw [hs] at KZ
  clear hs
  generalize whrV op ad len=r at *
  by_cases h4:ad / 8 * 8=ad
  ·have h4b:(ad / 8 * 8 == ad)=true:=by rw [h4];exact beq_self_eq_true ad
   by_cases h3:len<8
   ·have HV:Hid (r=3):=by show _=_;rw [hw,if_neg (by omega),if_pos (by omega)]
    clear hw
    go_enter Tryz.func20,Tryz.ntmps20
    go_wp2_with (first | (go_at_call 18;refine (KZ _).mono ?_;rintro e w2 ⟨rfl,hb⟩))
    go_ret
    exact ⟨za1 HV.out.symm,hb⟩
   ·by_cases h9:9000000000000000000<ad
    ·have HV:Hid (r=3):=by show _=_;rw [hw,if_neg (by omega),if_pos (by omega)]
     clear hw
     go_enter Tryz.func20,Tryz.ntmps20
     go_wp2_with (first | (go_at_call 18;refine (KZ _).mono ?_;rintro e w2 ⟨rfl,hb⟩))
     go_ret
     exact ⟨za1 HV.out.symm,hb⟩
    ·by_cases hx:len - 8<ad
     ·have HV:Hid (r=3):=by show _=_;rw [hw,if_neg (by omega),if_pos (by omega)]
      clear hw
      go_enter Tryz.func20,Tryz.ntmps20
      go_wp2_with (first | (go_at_call 18;refine (KZ _).mono ?_;rintro e w2 ⟨rfl,hb⟩))
      go_ret
      exact ⟨za1 HV.out.symm,hb⟩
     ·have HV:Hid (r=0):=by show _=_;rw [hw,if_neg (by omega),if_neg (by omega)]
      clear hw
      go_enter Tryz.func20,Tryz.ntmps20
      go_wp2_with (first | (go_at_call 18;refine (KZ _).mono ?_;rintro e w2 ⟨rfl,hb⟩))
      go_ret
      exact ⟨za1 HV.out.symm,hb⟩
  ·have h4b:(ad / 8 * 8 == ad)=false:=by simpa using h4
   have HV:Hid (r=4):=by show _=_;rw [hw,if_pos (by omega)]
   clear hw
   go_enter Tryz.func20,Tryz.ntmps20
   go_wp2_with (first | (go_at_call 18;refine (KZ _).mono ?_;rintro e w2 ⟨rfl,hb⟩))
   go_ret
   exact ⟨za1 HV.out.symm,hb⟩
open Go.RowKit
theorem rof4_at {W:World} {A:Option Addr} {cap:Nat} {B:List Int} (h:ImgAt W A cap B) (k:Nat) (hk:k + 4≤B.length) :
  ∃ b off,A=some ⟨b,off,none⟩∧b<W.heap.size∧∀ x c,BW W x→Calls Tryz.prog 21 #[.slice (some ⟨b,off + k,none⟩) 4 c] x fun e w'=>e=.returned (.int .u64 (zq4 B k))∧x=w':=by
 obtain ⟨b,off,rfl,hlt,hcell⟩:=h.1.byte (i:=0) (by omega)
 refine ⟨b,off,rfl,hlt,fun x c hx=>?_⟩
 have h0:=zj4 h.2.1 (i:=k) (by omega)
 have h1:=zj4 h.2.1 (i:=k + 1) (by omega)
 have h2:=zj4 h.2.1 (i:=k + 2) (by omega)
 have h3:=zj4 h.2.1 (i:=k + 3) (by omega)
 have g:=Zo8 (some ⟨b,off + k,none⟩) c [B.getD k 0,B.getD (k + 1) 0,B.getD (k + 2) 0,B.getD (k + 3) 0] x (by simp) (by
  intro z hz
  simp only [List.mem_cons,List.not_mem_nil,or_false] at hz
  rcases hz with rfl | rfl | rfl | rfl <;> assumption) (.inr ⟨b,off + k,rfl,Nat.lt_of_lt_of_le hlt (Below.size hx),fun i v hv=>by
  have hi:i<4:=by
   have:=(List.getElem?_eq_some_iff.1 hv).1
   simpa [za4] using this
  rw [Below.cell hx (p:=⟨b,off + k + i,none⟩) hlt,Nat.add_assoc,hcell (k + i) (by omega)]
  have hi':i=0∨i=1∨i=2∨i=3:=by omega
  rcases hi' with rfl | rfl | rfl | rfl <;> exact hv⟩)
 rw [ofB4] at g
 exact g
theorem Zr8 (A:Option Addr) (cap:Nat) (B:List Int) (pc:Int) (w:World) (hi:ImgAt w A cap B) (hp:U64 pc) (h:pc % 4≠0∨(B.length:Int)<pc + 4) :
  Calls Tryz.prog 17 #[.slice A B.length cap,.int .u64 pc] w (RetF w (fetI B pc) (fetC B pc)):=by
 obtain ⟨e1,e2⟩:=Zm9 h
 rw [e1,e2]
 have hn:=hi.2.2.1
 obtain ⟨p0,p1⟩:=hp
 clear hi e1 e2
 generalize B.length=n at *
 have HR:Hid (Blk (za0 za5) 39 w.heap.size (w.alloc (.cells (za0 za5) 39))):=Blk.new _ _ w
 have HB:Hid (Below w.heap.size w (w.alloc (.cells (za0 za5) 39))):=(Below.refl _ _).alloc (Nat.le_refl _) _
 unfold za5 za0 at HR HB
 simp only at HR HB
 have fin:∀ w1:World,Blk (za0 za5) 39 w.heap.size w1→BW w w1→∃ w2,(storeVar 39 ⟨w.heap.size,0,none⟩ (.agg (za0 za5))).run Tryz.prog w1=.ok () w2∧Blk (za0 za5) 39 w.heap.size w2∧BW w w2:=fun w1 h1 h2=>zt0 za5 h1 h2
 have hc:((pc % 4 != 0)=true)∨((pc % 4 != 0)=false∧2000<pc)∨((pc % 4 != 0)=false∧¬ 2000<pc∧(n:Int)<pc + 4):=by
  by_cases h0:pc % 4=0
  ·by_cases h4:2000<pc
   ·exact .inr (.inl ⟨by simpa using h0,h4⟩)
   ·exact .inr (.inr ⟨by simpa using h0,h4,by omega⟩)
  ·exact .inl (by simpa using h0)
 have hn1:(n:Int)≤1024:=by omega
 clear h hn
 rcases hc with b | ⟨b,h4⟩ | ⟨b,h4,h5⟩
 all_goals
  go_enter Tryz.func17,Tryz.ntmps17
  go_upto_region 1 with (fail)
  generalize w.alloc (.cells _ 39)=w0 at *
  obtain ⟨w9,hs,hb9,hbw⟩:=fin w0 HR.out HB.out
  go_wp2_with (with_reducible refine zc4 (o:=⟨none,.store _ (.tmp 4) (.tmp 23),_,_,_,_⟩) rfl 39 (.tmp 4) (.tmp 23) rfl rfl rfl hs ?_)
  refine bodyPost_ret (zc2 rfl rfl hb9 Tryz.underlying39 rfl (by kernel_rfl)) rfl ?_
  exact ⟨rfl,hbw⟩
theorem zZ3 (A:Option Addr) (cap:Nat) (B:List Int) (pc:Int) (w:World) (hi:ImgAt w A cap B) (hp:U64 pc) (h1:pc % 4=0) (h2:¬ (B.length:Int)<pc + 4) :
  Calls Tryz.prog 17 #[.slice A B.length cap,.int .u64 pc] w (RetF w (fetI B pc) (fetC B pc)):=by
 obtain ⟨e1,e2⟩:=zL9 h1 h2
 rw [e1,e2]
 obtain ⟨k,rfl⟩:∃ k:Nat,pc=(k:Int):=⟨pc.toNat,by have:=hp.1;omega⟩
 have hk:k + 4≤B.length:=by omega
 obtain ⟨b,off,rfl,hblt,KO⟩:=rof4_at hi k hk
 have hvr:=zE5 hi.2.1 k hk
 rw [show ((k:Int)).toNat=k from rfl]
 generalize hV:zq4 B k=V at *
 have KD:=fun x=>rdec_any (fun op ho=>is_any op ho) V hvr.1 hvr.2 x
 have hw32:=w32 hvr
 have hcap:=hi.2.2.2.1
 have hcap2:=hi.2.2.2.2
 have hlen:=hi.2.2.1
 clear hi e1 e2 h2 hV
 generalize B.length=n at *
 have bm:(((k:Int) % 4) != 0)=false:=by simpa using h1
 have g2:¬ (2000:Int)<k:=by omega
 have g3:¬ (n:Int)<(k:Int) + 4:=by omega
 have g4:(k:Int) + 4≤cap:=by omega
 have g5:¬ cap=k:=by omega
 have g7:(n:Int)≤1024:=by omega
 have g8:(cap:Int)≤9223372036854775807:=by omega
 have HR:Hid (Blk (za0 za5) 39 w.heap.size (w.alloc (.cells (za0 za5) 39))):=Blk.new _ _ w
 have HB:Hid (Below w.heap.size w (w.alloc (.cells (za0 za5) 39))):=(Below.refl _ _).alloc (Nat.le_refl _) _
 unfold za5 za0 at HR HB
 simp only at HR HB
 have HD0:Hid (decB V=false→decI V=za5):=fun hd=>by
  unfold decB at hd
  unfold decI
  rw [if_pos (by simpa using hd)]
 clear h1 hk hcap hcap2 hlen hvr
 cases hd:decB V
 all_goals
  rw [hd] at KD
  have HD:=Lib.hid hd
  clear hd
  simp only [Bool.false_eq_true,if_false,if_true]
  unfold insV at KD
  generalize hz:decI V=z at *
  have HZ:=Lib.hid hz
  clear hz
  go_enter Tryz.func17,Tryz.ntmps17
  go_upto_region 1 with (fail)
  generalize w.alloc (.cells _ 39)=w0 at *
  go_upto_region 4 with (first
   | (go_at_call 21;refine (KO _ _ HB.out).mono ?_;rintro e w3 ⟨rfl,rfl⟩)
   | (go_at_call 40;refine (KD _).mono ?_;rintro e w4 ⟨rfl,hb4⟩;have hbw4:=BW.on HB.out hb4;have HR4:=Lib.hid (HR.out.on hb4);clear hb4))
 ·obtain ⟨w9,hs,hb9,hbw⟩:=zt0 (W:=w) za5 ((show Blk (za0 za5) 39 w.heap.size w4 from HR4.out).alloc (.cells (za0 z) 39)) (hbw4.new _)
  obtain rfl:z=za5:=HD0.out HD.out
  clear HR4 HR hbw4 HB
  go_wp2_with (with_reducible refine zc4 (o:=⟨none,.store _ (.tmp 4) (.tmp 39),_,_,_,_⟩) rfl 39 (.tmp 4) (.tmp 39) rfl rfl rfl hs ?_)
  refine bodyPost_ret (zc2 rfl rfl hb9 Tryz.underlying39 rfl (by kernel_rfl)) rfl ?_
  exact ⟨rfl,hbw⟩
 ·obtain ⟨w9,hs,hb9,hbw⟩:=zt0 (W:=w) z ((show Blk (za0 za5) 39 w.heap.size w4 from HR4.out).alloc (.cells (za0 z) 39)) (hbw4.new _)
  have HX:=Blk.new (za0 z) 39 w4
  clear HR4 HR hbw4 HB
  go_wp2_with (first
   | (with_reducible refine za8 (o:=⟨some 40,_,_,_,_,_⟩) rfl 39 (.tmp 6) rfl HX rfl Tryz.underlying39 rfl (by kernel_rfl) ?_)
   | (with_reducible refine zc4 (o:=⟨none,.store _ (.tmp 4) (.tmp 40),_,_,_,_⟩) rfl 39 (.tmp 4) (.tmp 40) rfl rfl rfl hs ?_))
  refine bodyPost_ret (zc2 rfl rfl hb9 Tryz.underlying39 rfl (by kernel_rfl)) rfl ?_
  exact ⟨rfl,hbw⟩
theorem zS3 (A:Option Addr) (cap:Nat) (B:List Int) (pc:Int) (w:World) (hi:ImgAt w A cap B) (hp:U64 pc) :
  Calls Tryz.prog 17 #[.slice A B.length cap,.int .u64 pc] w (RetF w (fetI B pc) (fetC B pc)):=by
 by_cases h:pc % 4≠0∨(B.length:Int)<pc + 4
 ·exact Zr8 A cap B pc w hi hp h
 ·exact zZ3 A cap B pc w hi hp (by omega) (by omega)
end Go.Proofs.YtmamblgpekafbaaGreatDoor
