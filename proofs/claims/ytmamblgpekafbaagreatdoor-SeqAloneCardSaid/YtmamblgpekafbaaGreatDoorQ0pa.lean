/- Of stage 11. -/
import Derived.Test.YtmamblgpekafbaaGreatDoorCespa
import Derived.Test.YtmamblgpekafbaaGreatDoorRlpa
import Derived.Test.YtmamblgpekafbaaGreatDoorTipa
set_option maxRecDepth 100000
namespace Go.Proofs.YtmamblgpekafbaaGreatDoor
open Go.RowKit
structure Hrt where
 pc:Int
 x:List Int
 cause:Int
structure Dn where
 pc:Int
 inst:Ins
 cause:Int
 val:Int
 addr:Int
 read:Int
 wrote:Int
 failed:Bool
structure Wh (h:Hrt):Prop where
 pc:U64 h.pc
 len:h.x.length=32
 x:∀ r,U64 (h.x.getD r 0)
 cause:I64 h.cause
def hrtL (h:Hrt):List Value:=.int .u64 h.pc :: (h.x.map (Value.int .u64) ++ [.int .i64 h.cause])
def za2 (h:Hrt):Array Value:=(hrtL h).toArray
def za3 (d:Dn):Array Value:=#[.int .u64 d.pc,.int .i64 d.inst.op,.int .i64 d.inst.rd,.int .i64 d.inst.rs1,.int .i64 d.inst.rs2,.int .i64 d.inst.imm,.bool d.inst.aq,.bool d.inst.rl,.int .i64 d.inst.pred,.int .i64 d.inst.succ,
 .int .i64 d.cause,.int .u64 d.val,.int .u64 d.addr,.int .u64 d.read,.int .u64 d.wrote,.bool d.failed]
def noDn:Dn:=⟨0,za5,0,0,0,0,0,false⟩
def xAt (h:Hrt) (r:Int):Int:=h.x.getD r.toNat 0
def zerX (h:Hrt):Hrt:=⟨h.pc,h.x.set 0 0,h.cause⟩
theorem hrtL_len {h:Hrt} (hl:h.x.length=32):(hrtL h).length=34:=by simp [hrtL,hl]
theorem zb6 {h:Hrt} (hl:h.x.length=32):(za2 h).size=34:=by simp [za2,hrtL_len hl]
theorem zu3 (h:Hrt):(za2 h)[0]?=some (.int .u64 h.pc):=rfl
theorem zl4 {h:Hrt} (hl:h.x.length=32) {r:Nat} (hr:r<32):(za2 h)[1 + r]?=some (.int .u64 (h.x.getD r 0)):=by
 unfold za2 hrtL
 rw [List.getElem?_toArray,Nat.add_comm,List.getElem?_cons_succ,List.getElem?_append_left (by simp;omega),List.getElem?_map,List.getD_eq_getElem?_getD,List.getElem?_eq_getElem (by omega)]
 rfl
theorem zg3 {h:Hrt} (hl:h.x.length=32):(za2 h)[33]?=some (.int .i64 h.cause):=by
 unfold za2 hrtL
 rw [List.getElem?_toArray,List.getElem?_cons_succ,List.getElem?_append_right (by simp [hl])]
 simp [hl]
theorem zt7 (h:Hrt) (v:Int):(za2 h).setIfInBounds 0 (.int .u64 v)=za2 { h with pc:=v }:=by
 unfold za2 hrtL
 simp
theorem zl8 {h:Hrt} (hl:h.x.length=32) {r:Nat} (hr:r<32) (v:Int):(za2 h).setIfInBounds (1 + r) (.int .u64 v)=za2 { h with x:=h.x.set r v }:=by
 unfold za2 hrtL
 rw [List.setIfInBounds_toArray]
 congr 1
 rw [Nat.add_comm,List.set_cons_succ,List.set_append_left _ _ (by simp;omega),List.map_set]
theorem zh1 {h:Hrt} (hl:h.x.length=32) (v:Int):(za2 h).setIfInBounds 33 (.int .i64 v)=za2 { h with cause:=v }:=by
 unfold za2 hrtL
 rw [List.setIfInBounds_toArray]
 congr 1
 rw [List.set_cons_succ,List.set_append_right _ _ (by simp [hl])]
 simp [hl]
theorem zg5 (h:Hrt):∀ v ∈ (za2 h).toList,v.oneCell'=true:=by
 intro v hv
 simp only [za2,hrtL,List.mem_cons,List.mem_append,List.mem_map,List.not_mem_nil,or_false] at hv
 rcases hv with rfl | ⟨x,_,rfl⟩ | rfl <;> rfl
theorem zj0 (d:Dn):∀ v ∈ (za3 d).toList,v.oneCell'=true:=by
 intro v hv
 simp [za3] at hv
 rcases hv with rfl | rfl | rfl | rfl | rfl | rfl | rfl | rfl | rfl | rfl | rfl | rfl | rfl | rfl | rfl | rfl <;> rfl
def whrV (op addr len:Int):Int:=if siz op=0 then 0 else if addr % siz op≠0 then 4 else if len<addr + siz op then 3 else 0
def fetC (B:List Int) (pc:Int):Int:=if pc % 4≠0∨(B.length:Int)<pc + 4 then 4 else if decB (zq4 B pc.toNat)=true then 0 else 3
def fetI (B:List Int) (pc:Int):Ins:=if fetC B pc=0 then decI (zq4 B pc.toNat) else za5
def cauV (op addr len:Int):Int:=if op=52 then 1 else if op=53 then 2 else if whrV op addr len=4 then 5 else if whrV op addr len=3 then 6 else 0
def begD (h:Hrt) (B:List Int):Dn :=
 if fetC B h.pc=0 then ⟨h.pc,fetI B h.pc,cauV (fetI B h.pc).op (adrV (fetI B h.pc).op (fetI B h.pc).imm (xAt h (fetI B h.pc).rs1)) B.length,0,adrV (fetI B h.pc).op (fetI B h.pc).imm (xAt h (fetI B h.pc).rs1),0,0,false⟩
 else ⟨h.pc,za5,fetC B h.pc,0,0,0,0,false⟩
def faiB (d:Dn) (failed:Bool):Bool:=failed && decide (srt d.inst.op=11)
def redV (d:Dn) (read:Int):Int:=if ldsB d.inst.op=true then zx read (8 * siz d.inst.op).toNat else d.read
def wroV (h:Hrt) (d:Dn) (read:Int) (failed:Bool):Int:=if (stsB d.inst.op && !faiB d failed)=true then stoV d.inst.op read (xAt h d.inst.rs2) else d.wrote
def valW (h:Hrt) (d:Dn) (read:Int) (failed:Bool):Int :=
 if ldsB d.inst.op=true then loaV d.inst.op (redV d read) else if faiB d failed=true then 1 else resV d.inst.op d.inst.imm d.pc (xAt h d.inst.rs1) (xAt h d.inst.rs2)
def doD (h:Hrt) (d:Dn) (read:Int) (failed:Bool):Dn :=
 if d.cause=0 then ⟨d.pc,d.inst,d.cause,if tgt d.inst=0 then d.val else valW h d read failed,d.addr,redV d read,wroV h d read failed,faiB d failed⟩ else d
def doH (h:Hrt) (d:Dn) (read:Int) (failed:Bool):Hrt :=
 if d.cause=0 then ⟨nxtV d.inst.op d.inst.imm h.pc (xAt h d.inst.rs1) (xAt h d.inst.rs2),if tgt d.inst=0 then h.x else h.x.set (tgt d.inst).toNat (valW h d read failed),h.cause⟩ else ⟨h.pc,h.x,d.cause⟩
def stpH (h:Hrt) (B:List Int) (read:Int) (failed:Bool):Hrt:=if h.cause=0 then doH (zerX h) (begD (zerX h) B) read failed else zerX h
def stpD (h:Hrt) (B:List Int) (read:Int) (failed:Bool):Dn:=if h.cause=0 then doD (zerX h) (begD (zerX h) B) read failed else noDn
structure Alo where
 h:Hrt
 mem:List Int
 ra:Int
 rs:Int
 done:List Dn
def putM (M:List Int) (a:Nat) (bs:List Int):List Int:=M.take a ++ bs ++ M.drop (a + bs.length)
def reaA (d:Dn):Int:=if d.cause=0 then d.addr else 0
def reaS (d:Dn):Int:=if d.cause=0 then siz d.inst.op else 0
def numM (M:List Int) (a s:Int):Int:=ofB ((M.drop a.toNat).take s.toNat)
def nowD (B:List Int) (s:Alo):Dn:=doD s.h (begD s.h B) (numM s.mem (reaA (begD s.h B)) (reaS (begD s.h B))) (!(decide (reaA (begD s.h B)=s.ra) && decide (reaS (begD s.h B)=s.rs)))
def nowH (B:List Int) (s:Alo):Hrt:=doH s.h (begD s.h B) (numM s.mem (reaA (begD s.h B)) (reaS (begD s.h B))) (!(decide (reaA (begD s.h B)=s.ra) && decide (reaS (begD s.h B)=s.rs)))
def nowM (B:List Int) (s:Alo):List Int :=
 if srt (nowD B s).inst.op=5∨srt (nowD B s).inst.op=12∨(srt (nowD B s).inst.op=11∧(nowD B s).failed=false) then putM s.mem (reaA (begD s.h B)).toNat (zc5 (nowD B s).wrote (reaS (begD s.h B)).toNat) else s.mem
def aloS (B:List Int) (s:Alo):Alo :=
 ⟨nowH B s,nowM B s,if srt (nowD B s).inst.op=10 then reaA (begD s.h B) else if srt (nowD B s).inst.op=11 then 0 else s.ra,
  if srt (nowD B s).inst.op=10 then reaS (begD s.h B) else if srt (nowD B s).inst.op=11 then 0 else s.rs,s.done ++ [nowD B s]⟩
def aloK (B:List Int) (h:Hrt):Nat→Alo
 | 0=>⟨zerX h,B,0,0,[]⟩
 | n + 1=>if (aloK B h n).h.cause=0 then aloS B (aloK B h n) else aloK B h n
open Go.ChangeShapes Go.WideShapes Go.ChangeAt Go.RowKit Go.Deep
theorem Zj0 {k:IntKind} {p:Int→Prop}:∀ (L:List Value),(∀ i,i<L.length→∃ a,L[i]?=some (.int k a)∧p a)→∃ l:List Int,L=l.map (Value.int k)∧∀ z ∈ l,p z
 | [],_=>⟨[],rfl,fun z hz=>by cases hz⟩
 | v :: L,h=>by
  obtain ⟨a,e,ha⟩:=h 0 (by simp)
  obtain ⟨l,hl,hp⟩:=Zj0 L (fun i hi=>by
   have:=h (i + 1) (by simp;omega)
   simpa using this)
  simp at e
  subst e
  subst hl
  exact ⟨a :: l,rfl,fun z hz=>by rcases List.mem_cons.1 hz with rfl | hz;exact ha;exact hp z hz⟩
section
variable {H:Type} {enc:TypeId × Value→H} {w:World} {spare:Nat→Bool} {held:Bool}
theorem zW8 {base fuel:Nat} {cs:List Value} {x:DataW H × List MemPlace} (h:DataW.trod enc Tryz.prog w base spare held fuel 23 cs=some x):∃ l:List Int,l.length=32∧cs=l.map (Value.int .u64)∧∀ z ∈ l,U64 z:=by
 obtain ⟨ys,m,_,_,hl,hy,hel⟩:=DataW.trod_array Tryz.underlying23 h
 rw [show Tryz.prog.cellsOf 23=32 by kernel_rfl] at hl
 rw [show Tryz.prog.cellsOf 22=1 by kernel_rfl] at hel
 obtain ⟨l,e,hp⟩:=Zj0 (k:=.u64) (p:=U64) cs (fun i hi=>by
  have h1:=hel i (by omega)
  rw [List.getElem?_eq_getElem (show i<ys.length by omega)] at h1
  obtain ⟨a,e,_,wf⟩:=DataW.trod_int Tryz.underlying22 h1
  refine ⟨a,?_,zt9 wf⟩
  have e2:((cs.drop (i * 1)).take 1)[0]?=some (.int .u64 a):=by rw [e];rfl
  rw [List.getElem?_take,if_pos (by decide),List.getElem?_drop,Nat.mul_one,Nat.add_zero] at e2
  exact e2)
 refine ⟨l,?_,e,hp⟩
 rw [e,List.length_map] at hl
 exact hl
theorem Zp4 {base fuel:Nat} {cs:List Value} {x:DataW H × List MemPlace} (h:DataW.trod enc Tryz.prog w base spare held fuel 25 cs=some x):∃ k:Hrt,cs=hrtL k∧Wh k:=by
 obtain ⟨xs,n,_,_,hl,hx,hf⟩:=DataW.trod_struct Tryz.underlying25 h
 rw [show Tryz.prog.cellsOf 25=34 by kernel_rfl] at hl
 have hx3:xs.length=3:=hx
 have g0:DataW.trod enc Tryz.prog w base spare held n 22 ((cs.drop 0).take (Tryz.prog.cellsOf 22))=xs[0]?:=hf 0 _ rfl
 have g1:DataW.trod enc Tryz.prog w base spare held n 23 ((cs.drop 1).take (Tryz.prog.cellsOf 23))=xs[1]?:=hf 1 _ rfl
 have g2:DataW.trod enc Tryz.prog w base spare held n 3 ((cs.drop 33).take (Tryz.prog.cellsOf 3))=xs[2]?:=hf 2 _ rfl
 rw [show Tryz.prog.cellsOf 22=1 by kernel_rfl] at g0
 rw [show Tryz.prog.cellsOf 23=32 by kernel_rfl] at g1
 rw [show Tryz.prog.cellsOf 3=1 by kernel_rfl] at g2
 match xs,hx3 with
 | [y0,y1,y2],_ =>
  obtain ⟨a0,e0,_,w0⟩:=DataW.trod_int Tryz.underlying22 (x:=y0) g0
  obtain ⟨l,hll,e1,hp⟩:=zW8 (x:=y1) g1
  obtain ⟨a2,e2,_,w2⟩:=DataW.trod_int Tryz.underlying3 (x:=y2) g2
  refine ⟨⟨a0,l,a2⟩,?_,zt9 w0,hll,fun r=>?_,Za2 w2⟩
  ·unfold hrtL
   have h1:cs=(cs.drop 0).take 1 ++ ((cs.drop 1).take 32 ++ (cs.drop 33).take 1):=by
    rw [List.take_of_length_le (l:=cs.drop 33) (by rw [List.length_drop];omega),show cs.drop 33=(cs.drop 1).drop 32 by rw [List.drop_drop],List.take_append_drop,List.drop_zero,List.take_append_drop]
   rw [h1,e0,e1,e2]
   rfl
  ·show U64 (l.getD r 0)
   rw [List.getD_eq_getElem?_getD]
   rcases Nat.lt_or_ge r l.length with hr | hr
   ·rw [List.getElem?_eq_getElem hr]
    exact hp _ (List.getElem_mem hr)
   ·rw [List.getElem?_eq_none hr]
    exact ⟨by decide,by decide⟩
theorem open_hart {r:Reach} {b0 base:Nat} {v:Value} {d:DataW H} {p:List MemPlace} (hv:Value.okWide Tryz.prog w r b0 25 v) (h:DataW.Trod enc Tryz.prog w base spare held 25 v d p) :
  ∃ k:Hrt,v=.agg (za2 k)∧Wh k:=by
 obtain ⟨cs,rfl,hsz⟩:=okWide_struct Tryz.underlying25 hv
 obtain ⟨fuel,hf⟩:=h
 obtain ⟨k,hk,ho⟩:=Zp4 hf
 refine ⟨k,?_,ho⟩
 have e:cs.toList=hrtL k:=hk
 have e2:cs=za2 k:=Array.toList_inj.1 (by rw [e];rfl)
 rw [e2]
end
end Go.Proofs.YtmamblgpekafbaaGreatDoor
