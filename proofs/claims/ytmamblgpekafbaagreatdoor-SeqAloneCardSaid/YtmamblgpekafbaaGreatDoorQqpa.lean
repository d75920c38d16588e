/- Of stage 11. -/
import Derived.Test.YtmamblgpekafbaaGreatDoorQupa
import Derived.Test.YtmamblgpekafbaaGreatDoorQhpa
set_option linter.unusedVariables false
set_option maxRecDepth 100000
namespace Go.Proofs.YtmamblgpekafbaaGreatDoor
def AtR (s:Alo) (a z:Int):Prop:=(a=-1∧s.ra=0∧s.rs=0)∨(a=s.ra∧z=s.rs∧0≤a)
theorem siz_srt {op:Int} (h:siz op=0):ldsB op=false∧stsB op=false∧srt op≠11:=by
 by_cases ho:1≤op∧op≤75
 ·have h1:∀ k:Nat,k<76→siz (k:Int)=0→ldsB (k:Int)=false∧stsB (k:Int)=false∧srt (k:Int)≠11:=by decide +kernel
  have hk:=h1 op.toNat (by omega)
  rw [Int.toNat_of_nonneg (by omega)] at hk
  exact hk h
 ·have e:srt op=0:=by
   unfold srt
   by_cases h1:op<1
   ·rw [if_pos h1]
   ·repeat rw [if_neg (by omega)]
  unfold ldsB stsB
  rw [e]
  decide
theorem do_ind (h:Hrt) (d:Dn) (hd:d.cause≠0∨siz d.inst.op=0) (r r':Int) (f f':Bool):doD h d r f=doD h d r' f'∧doH h d r f=doH h d r' f':=by
 rcases hd with hd | hd
 ·unfold doD doH
  rw [if_neg hd,if_neg hd,if_neg hd,if_neg hd]
  exact ⟨rfl,rfl⟩
 ·obtain ⟨h1,h2,h3⟩:=siz_srt hd
  have ef:∀ f,faiB d f=false:=fun f=>by unfold faiB;rw [decide_eq_false h3,Bool.and_false]
  have ev:∀ r f,valW h d r f=valW h d 0 false:=fun r f=>by unfold valW;rw [h1,ef,ef];rfl
  have er:∀ r,redV d r=redV d 0:=fun r=>by unfold redV;rw [h1];rfl
  have ew:∀ r f,wroV h d r f=wroV h d 0 false:=fun r f=>by unfold wroV;rw [h2];rfl
  unfold doD doH
  rw [ev r f, ev r' f', er r, er r', ew r f, ew r' f', ef f, ef f']
  exact ⟨rfl,rfl⟩
theorem Zn7 {s:Alo} {B:List Int} (hc:s.h.cause=0) (hx:zerX s.h=s.h) (r:Int) (f:Bool):stpD s.h B r f=doD s.h (begD s.h B) r f∧stpH s.h B r f=doH s.h (begD s.h B) r f:=by
 unfold stpD stpH
 rw [if_pos hc,if_pos hc,hx]
 exact ⟨rfl,rfl⟩
theorem Ze1 {s:Alo} {B:List Int} (hc:s.h.cause=0) (hx:zerX s.h=s.h) {a z:Int} (ha:AtR s a z) (hs:0<siz (fetI B s.h.pc).op) (hz:whrV (fetI B s.h.pc).op (adrV (fetI B s.h.pc).op (fetI B s.h.pc).imm (xAt s.h (fetI B s.h.pc).rs1)) B.length=0)
  (h0:0≤adrV (fetI B s.h.pc).op (fetI B s.h.pc).imm (xAt s.h (fetI B s.h.pc).rs1)) :
  stpD s.h B (numM s.mem (adrV (fetI B s.h.pc).op (fetI B s.h.pc).imm (xAt s.h (fetI B s.h.pc).rs1)) (siz (fetI B s.h.pc).op)) (!(decide (a=adrV (fetI B s.h.pc).op (fetI B s.h.pc).imm (xAt s.h (fetI B s.h.pc).rs1)) && decide (z=siz (fetI B s.h.pc).op)))=nowD B s ∧
  stpH s.h B (numM s.mem (adrV (fetI B s.h.pc).op (fetI B s.h.pc).imm (xAt s.h (fetI B s.h.pc).rs1)) (siz (fetI B s.h.pc).op)) (!(decide (a=adrV (fetI B s.h.pc).op (fetI B s.h.pc).imm (xAt s.h (fetI B s.h.pc).rs1)) && decide (z=siz (fetI B s.h.pc).op)))=nowH B s ∧
  reaA (begD s.h B)=adrV (fetI B s.h.pc).op (fetI B s.h.pc).imm (xAt s.h (fetI B s.h.pc).rs1)∧reaS (begD s.h B)=siz (fetI B s.h.pc).op:=by
 have hf:fetC B s.h.pc=0:=by
  apply Classical.byContradiction
  intro g
  have:siz (fetI B s.h.pc).op=0:=by unfold fetI;rw [if_neg g];decide
  omega
 have h52:(fetI B s.h.pc).op≠52:=fun e=>by rw [e] at hs;exact absurd hs (by decide)
 have h53:(fetI B s.h.pc).op≠53:=fun e=>by rw [e] at hs;exact absurd hs (by decide)
 have hb:=zf8 (h:=s.h) hf
 have hca:cauV (fetI B s.h.pc).op (adrV (fetI B s.h.pc).op (fetI B s.h.pc).imm (xAt s.h (fetI B s.h.pc).rs1)) B.length=0:=by
  unfold cauV
  rw [if_neg h52,if_neg h53,hz,if_neg (by decide),if_neg (by decide)]
 rw [hca] at hb
 have hA:reaA (begD s.h B)=adrV (fetI B s.h.pc).op (fetI B s.h.pc).imm (xAt s.h (fetI B s.h.pc).rs1):=by unfold reaA;rw [hb];rfl
 have hS:reaS (begD s.h B)=siz (fetI B s.h.pc).op:=by unfold reaS;rw [hb];rfl
 obtain ⟨e1,e2⟩:=Zn7 (B:=B) hc hx (numM s.mem (adrV (fetI B s.h.pc).op (fetI B s.h.pc).imm (xAt s.h (fetI B s.h.pc).rs1)) (siz (fetI B s.h.pc).op)) (!(decide (a=adrV (fetI B s.h.pc).op (fetI B s.h.pc).imm (xAt s.h (fetI B s.h.pc).rs1)) && decide (z=siz (fetI B s.h.pc).op)))
 have hfl:(!(decide (a=adrV (fetI B s.h.pc).op (fetI B s.h.pc).imm (xAt s.h (fetI B s.h.pc).rs1)) && decide (z=siz (fetI B s.h.pc).op)))=(!(decide (reaA (begD s.h B)=s.ra) && decide (reaS (begD s.h B)=s.rs))):=by
  rw [hA,hS]
  rcases ha with ⟨rfl,h1,h2⟩ | ⟨rfl,rfl,_⟩
  ·rw [h2,decide_eq_false (show ¬ siz (fetI B s.h.pc).op=0 by omega),decide_eq_false (show ¬ (-1:Int)=_ by omega),Bool.and_false,Bool.false_and]
  ·rw [decide_eq_decide.2 (eq_comm (a:=s.ra)),decide_eq_decide.2 (eq_comm (a:=s.rs))]
 refine ⟨?_,?_,hA,hS⟩
 ·rw [e1,hfl];unfold nowD;rw [hA,hS]
 ·rw [e2,hfl];unfold nowH;rw [hA,hS]
theorem alone_no {s:Alo} {B:List Int} (hc:s.h.cause=0) (hx:zerX s.h=s.h) (hs:¬ (0<siz (fetI B s.h.pc).op∧whrV (fetI B s.h.pc).op (adrV (fetI B s.h.pc).op (fetI B s.h.pc).imm (xAt s.h (fetI B s.h.pc).rs1)) B.length=0)) :
  stpD s.h B 0 false=nowD B s∧stpH s.h B 0 false=nowH B s:=by
 have hd:(begD s.h B).cause≠0∨siz (begD s.h B).inst.op=0:=by
  by_cases hf:fetC B s.h.pc=0
  ·rw [zf8 (h:=s.h) hf]
   by_cases h0:siz (fetI B s.h.pc).op=0
   ·exact .inr h0
   ·left
    have hw:=zk5 (fetI B s.h.pc).op
    have hz:¬ whrV (fetI B s.h.pc).op (adrV (fetI B s.h.pc).op (fetI B s.h.pc).imm (xAt s.h (fetI B s.h.pc).rs1)) B.length=0:=fun g=>hs ⟨by omega,g⟩
    have hww:=zF9 (fetI B s.h.pc).op (adrV (fetI B s.h.pc).op (fetI B s.h.pc).imm (xAt s.h (fetI B s.h.pc).rs1)) B.length
    show cauV _ _ _≠0
    unfold cauV
    have h52:(fetI B s.h.pc).op≠52:=fun e=>h0 (by rw [e];decide)
    have h53:(fetI B s.h.pc).op≠53:=fun e=>h0 (by rw [e];decide)
    rw [if_neg h52,if_neg h53]
    rcases hww with g | g | g
    ·exact absurd g hz
    ·rw [g];decide
    ·rw [g];decide
  ·rw [zm0 (h:=s.h) hf]
   exact .inl hf
 obtain ⟨e1,e2⟩:=Zn7 (B:=B) hc hx 0 false
 rw [e1,e2]
 unfold nowD nowH
 exact do_ind s.h _ hd _ _ _ _
theorem at_next {s:Alo} {B:List Int} {a z:Int} (ha:AtR s a z) (hr:(reaA (begD s.h B)=0∧reaS (begD s.h B)=0)∨0≤reaA (begD s.h B)) :
  AtR (aloS B s) (if srt (nowD B s).inst.op=11 then -1 else if srt (nowD B s).inst.op=10 then reaA (begD s.h B) else a) (if srt (nowD B s).inst.op=10 then reaS (begD s.h B) else z):=by
 unfold AtR aloS
 simp only
 by_cases h10:srt (nowD B s).inst.op=10
 ·rw [h10,if_neg (by decide),if_pos rfl,if_pos rfl,if_pos rfl,if_pos rfl]
  right
  refine ⟨rfl,rfl,?_⟩
  rcases hr with h | h <;> omega
 ·by_cases h11:srt (nowD B s).inst.op=11
  ·rw [h11]
   left
   simp
  ·rw [if_neg h11,if_neg h10,if_neg h10,if_neg h10,if_neg h10,if_neg h11,if_neg h11]
   exact ha
theorem put_one {M:List Int} {a j:Nat} {bs:List Int} (hj:j<bs.length) (ha:a + bs.length≤M.length):(putM M a (bs.take j)).set (a + j) bs[j]=putM M a (bs.take (j + 1)):=by
 unfold putM
 have e1:(bs.take j).length=j:=by rw [List.length_take];omega
 have e2:(bs.take (j + 1)).length=j + 1:=by rw [List.length_take];omega
 have e3:(M.take a).length=a:=by rw [List.length_take];omega
 rw [e1,e2,List.append_assoc,List.set_append_right _ _ (by rw [e3];omega),e3,Nat.add_sub_cancel_left,List.set_append_right _ _ (by rw [e1];exact Nat.le_refl _),e1,Nat.sub_self,List.append_assoc]
 congr 1
 rw [List.take_succ_eq_append_getElem hj,List.append_assoc]
 congr 1
 rw [show M.drop (a + j)=M[a + j]'(by omega) :: M.drop (a + (j + 1)) from List.drop_eq_getElem_cons (by omega)]
 rfl
theorem zK8 {M:List Int} {a:Nat}:putM M a []=M:=by unfold putM;simp
theorem putM_len {M:List Int} {a:Nat} {bs:List Int} (ha:a + bs.length≤M.length):(putM M a bs).length=M.length:=by unfold putM;simp;omega
open Go.RowKit
section
variable {P:Program} {ops:Array Oper} {Q:Exit→Act→World→Prop} {md:Region.Mode} {S:World→Prop} {c fuel:Nat} {listed:Array Bool} {a:Act} {w:World}
theorem zp7 {i:Nat} {oi:Oper} (v:Value) (hi:ops[i]?=some oi) (hs:Region.noSelect ops=true) (hf:Region.free md ops listed i=true) (hr:(Region.ready md ops listed).contains i=true)
  (hQ:∀ c a w,Q (.panic c) (a.put oi.dst v) w→Q (.panic c) a w) (hg:Region.wanted oi (yielded ops a.tmps)=true) (hv:∀ w,S w→(execOp a.eval oi).run P w=.ok (.value v) w) (hS:S w)
  (h:wpAnyH P md ops Q S fuel (listed.setIfInBounds i true) (a.put oi.dst v) w):wpAnyH P md ops Q S (fuel + 1) listed a w :=
 wpAnyH_take hi hs hf hr hQ (.inl ⟨hg,hv⟩) hS h
theorem zA1 {i:Nat} {oi:Oper} (way:List Nat) (v:Value) (hi:ops[i]?=some oi) (hs:Region.noSelect ops=true) (hf:Region.free md ops listed i=true) (hr:(Region.ready md ops listed).contains i=true) (hl:shutB md ops listed=true) (hw:wayB md ops i way=true) (hc:way.getLast?=some c)
  (hQ:∀ c a w,Q (.panic c) (a.put oi.dst v) w→Q (.panic c) a w) (hg:Region.wanted oi (yielded ops a.tmps)=true) (hv:∀ w,S w→(execOp a.eval oi).run P w=.ok (.value v) w) (hS:S w)
  (h:zh5 P md ops Q S c fuel (listed.setIfInBounds i true) (a.put oi.dst v) w):zh5 P md ops Q S c (fuel + 1) listed a w :=
 zn4 hi (Region.noSelect_spec hs) hQ hw hc fuel listed a w (Zg9 hl) (Region.free_spec hi hf) (by simpa using hr) (.inl ⟨hg,hv⟩) hS h
theorem hp_last {i:Nat} {oi:Oper} (hr:Region.ready md ops listed=[i]) (hi:ops[i]?=some oi) (hc:(listed.setIfInBounds i true).getD c false=true) (hg:Region.wanted oi (yielded ops a.tmps)=true)
  (h:oi.wp P a w (fun a' w'=>wpAnyH P md ops Q (fun _=>True) fuel (listed.setIfInBounds i true) a' w') Q):zh5 P md ops Q S c (fuel + 1) listed a w:=by
 refine ⟨fun h=>(by rw [hr] at h;cases h),fun j hj=>?_⟩
 rw [hr] at hj
 obtain rfl:j=i:=by simpa using hj
 unfold wpOp
 simp only [hi,hg,if_true]
 exact .inl (Oper.wp_mono (fun _ _ h=>⟨.inl hc,zj8 _ _ _ _ hc h⟩) h)
end
section
variable {P:Program} {o:Oper} {a:Act} {w:World} {K:Act→World→Prop} {Q:Exit→Act→World→Prop}
end
open Go.RowKit
namespace Hz
section
variable {P:Program} {ops:Array Oper} {Q:Exit→Act→World→Prop} {md:Region.Mode} {S:World→Prop} {fuel:Nat} {listed:Array Bool} {a:Act} {w:World}
theorem zf2 {i:Nat} (hr:Region.ready md ops listed=[i]) (hi:wpOp P ops Q i (fun a' w'=>S w'∧wpAnyH P md ops Q S fuel (listed.setIfInBounds i true) a' w') a w):wpAnyH P md ops Q S (fuel + 1) listed a w :=
 wpAnyH_all hr (by simp) fun m hm=>by
  obtain rfl:m=i:=by simpa using hm
  exact hi
theorem zL3 {i:Nat} {oi:Oper} {K:Act→World→Prop} {f:FuncId} {vals:Array Value} {R:Ending→World→Prop} (hi:ops[i]?=some oi) (hg:Region.wanted oi (yielded ops a.tmps)=true)
  (hx : (execOp a.eval oi).run P w = .ok (.enter f vals) w) (hc : Calls P f vals w R) (hk : ∀ e w', R e w' → ∃ v, e = .returned v ∧ K (a.put oi.dst v) w') : wpOp P ops Q i K a w := by
 unfold wpOp
 simp only [hi,hg,if_true]
 refine .inl ?_
 unfold Oper.wp
 rw [hx,Oper.upon_enter]
 refine hc.mono fun e w' he=>?_
 obtain ⟨v,rfl,h1⟩:=hk e w' he
 exact h1
theorem ze4 {i:Nat} {oi:Oper} {K:Act→World→Prop} {g n:Nat} {t:TypeId} {ys:Array Value} (hi:ops[i]?=some oi) (gi:oi.guard=none) (di:oi.dst=none) (ty:TypeId) (x y:Operand) (ho:oi.op=.store ty x y) (hx:a.eval x=.pointer (some ⟨g,0,none⟩)) (hy:a.eval y=.agg ys)
  (hz : (P.info? ty).map (·.size) = some ys.size) (hn : ys.size = n) (o1 : ∀ v ∈ ys.toList, v.oneCell' = true) (hh : Has n t g w) (h : ∀ w', Blk ys t g w' → w.grownBy w' (some g) → K a w') : wpOp P ops Q i K a w := by
 have put:∀ (b:Act) (v:Value),b.put none v=b:=fun _ _=>rfl
 unfold wpOp
 simp only [hi,zf3 gi,if_true]
 refine .inl ?_
 obtain ⟨w1,e1,b1,k1⟩:=hh.put (P:=P) ys hn o1 hz
 refine zl6 ho hx hy e1 ?_
 rw [di,put]
 exact h _ b1 k1
end
section
variable {P:Program} {o:Oper} {a:Act} {w:World}
end
theorem part {P:Program} {w:World} {ds:Array Value} {t:TypeId} {g:Nat} (hb:Blk ds t g w) (k:Nat) (cs:List Value) (hk:k + cs.length≤ds.size) (h1:∀ v ∈ cs,v.oneCell'=true) :
  ∃ w', (storeCells ⟨g, k, none⟩ cs 0).run P w = .ok () w' ∧ Blk (ds.toList.take k ++ cs ++ ds.toList.drop (k + cs.length)).toArray t g w' ∧ w.grownBy w' (some g) := by
 have hr:=run_storeCells_at (P:=P) g k t cs 0 ds w hb (by simpa using hk) h1
 simp only [Nat.add_zero] at hr
 exact ⟨_,hr,setRow_heap w g ds _ _ _ hb,⟨rfl,rfl,rfl,by simp,fun j _ hj=>setRow_other w g j _ (fun e=>hj (by rw [e]))⟩⟩
theorem zD7 {P:Program} {ops:Array Oper} {Q:Exit→Act→World→Prop} {rest:List Oper} {o:Oper} {a:Act} {w:World} {v:Value} (hw:Region.wanted o (yielded ops a.tmps)=true) (hx:(execOp a.eval o).run P w=.ok (.value v) w) (h:wpList P ops Q rest (a.put o.dst v) w):wpList P ops Q (o :: rest) a w :=
 BigFrame.wpList_want hw fun K hK=>by
  unfold Oper.wp
  rw [hx]
  exact hK _ _ h
theorem ex_load_all {P : Program} {o : Oper} {a : Act} {w : World} {cs : Array Value} {t : TypeId} {g : Nat} (ty : TypeId) (x : Operand) (ho : o.op = .load ty x) (hx : a.eval x = .pointer (some ⟨g, 0, none⟩)) (hb : Blk cs t g w) {d : TypeDesc} (hu : P.underlying ty = some d) (hd : (match d with | .struct _ | .array _ _ => true | _ => false) = true)
    (hz : (P.info? ty).map (·.size) = some cs.size) : (execOp a.eval o).run P w = .ok (.value (.agg cs)) w := by
  unfold execOp
  simp only [ho, hx, Instr.loadAt, Instr.sureAddr, Sem.run_bind, Sem.run_pure, Result.andThen_ok, hb.var hu hd hz]
theorem wp_call {P : Program} {o : Oper} {a : Act} {w : World} {K : Act → World → Prop} {Q : Exit → Act → World → Prop} {f : FuncId} {vals : Array Value} {R : Ending → World → Prop} (hx : (execOp a.eval o).run P w = .ok (.enter f vals) w) (hc : Calls P f vals w R)
    (hk : ∀ e w', R e w' → ∃ v, e = .returned v ∧ K (a.put o.dst v) w') : o.wp P a w K Q := by
  unfold Oper.wp
  rw [hx, Oper.upon_enter]
  refine hc.mono fun e w' he => ?_
  obtain ⟨v, rfl, h1⟩ := hk e w' he
  exact h1
end Hz
end Go.Proofs.YtmamblgpekafbaaGreatDoor
