/- Of stage 11. -/
import Derived.Test.YtmamblgpekafbaaGreatDoorQ8pa
import Derived.Laws.CopyOwn
import Derived.Deep.Onto
set_option linter.unusedVariables false
set_option maxRecDepth 100000
namespace Go.Proofs.YtmamblgpekafbaaGreatDoor
open Go.RowKit
theorem Zb4 (b:Bool):U64 (zC6 b):=by cases b <;> exact ⟨by decide,by decide⟩
theorem Zo0 (x:Int):U64 (sxw x):=by
 have h:=zm4 x 32 (by decide)
 unfold sxw U64
 have:(2:Int) ^ 64=18446744073709551616:=by decide
 omega
theorem zq1 {c:Prop} [Decidable c] {x y:Int} (hx:U64 x) (hy:U64 y):U64 (if c then x else y):=by
 split
 ·exact hx
 ·exact hy
theorem pair_U {p a b:Int} (ha:U64 a) (hb:U64 b):U64 (zd4 p a b):=by
 have z:U64 0:=⟨by decide,by decide⟩
 have hfa:(a / 9223372036854775808=0∨a / 9223372036854775808=1):=by unfold U64 at ha;omega
 have hba:∀ op:BinOp,U64 (bits op .u64 a b):=fun op=>zt9 (wf_bits op .u64 a b)
 have hs:U64 (srlV a b):=zJ5 (n:=64) (k:=(b % 64).toNat) (by decide) (by omega) ha.1 ha.lt (.inl rfl)
 have ht:U64 (sraV a b):=zJ5 (n:=64) (k:=(b % 64).toNat) (by decide) (by omega) ha.1 ha.lt hfa
 unfold zd4
 exact zq1 (zH6 _) (zq1 (zH6 _) (zq1 (zr0 _ _) (zq1 (Zb4 _) (zq1 (Zb4 _) (zq1 (hba _) (zq1 hs (zq1 ht (zq1 (hba _) (zq1 (hba _) (zq1 (Zo0 _) (zq1 (Zo0 _) (zq1 (Zo0 _) (zq1 (Zo0 _) (zq1 (Zo0 _) z))))))))))))))
theorem res_U (op imm:Int) {pc a b:Int} (ha:U64 a) (hb:U64 b):U64 (resV op imm pc a b):=by
 unfold resV
 repeat' split
 all_goals first
  | exact w_U _
  | exact zH6 _
  | exact pair_U ha hb
  | exact pair_U ha (w_U _)
  | exact ⟨by decide,by decide⟩
theorem sx_UO (x:Int) (op:Int):U64 (sx x (8 * siz op).toNat):=by
 have h:=zm4 x (8 * siz op).toNat (by have:=(zg0 op).2;omega)
 have:(2:Int) ^ 64=18446744073709551616:=by decide
 unfold U64;omega
theorem loa_U (op raw:Int):U64 (loaV op raw):=by
 unfold loaV
 repeat' split
 ·exact zx_UO raw op
 ·exact sx_UO raw op
 ·exact ⟨by decide,by decide⟩
theorem nxt_U (op imm pc a b:Int):U64 (nxtV op imm pc a b):=by
 unfold nxtV
 split
 ·exact zH6 _
 ·split
  ·have:=zH6 (a + IntKind.u64.wrap imm)
   unfold U64 at *;omega
  ·exact zH6 _
theorem sto_U (op old b:Int):U64 (stoV op old b):=by
 unfold stoV
 repeat' split
 ·exact zx_UO _ op
 ·exact zx_UO _ op
 ·exact ⟨by decide,by decide⟩
theorem valW_U {h:Hrt} (hw:Wh h) (d:Dn) (read:Int) (failed:Bool):U64 (valW h d read failed):=by
 unfold valW
 repeat' split
 ·exact loa_U _ _
 ·exact ⟨by decide,by decide⟩
 ·exact res_U _ _ (hw.x _) (hw.x _)
theorem do_wh {h:Hrt} (hw:Wh h) (d:Dn) (hc:I64 d.cause) (read:Int) (failed:Bool):Wh (doH h d read failed):=by
 unfold doH
 split
 ·have hn:=nxt_U d.inst.op d.inst.imm h.pc (xAt h d.inst.rs1) (xAt h d.inst.rs2)
  split
  ·exact ⟨hn,hw.len,hw.x,hw.cause⟩
  ·exact wh_set hw _ hn _ _ (valW_U hw d read failed)
 ·exact ⟨hw.pc,hw.len,hw.x,hc⟩
theorem cau_I (op ad len:Int):I64 (cauV op ad len):=by
 unfold cauV
 repeat' split
 all_goals exact ⟨by decide,by decide⟩
theorem fetC_I (B:List Int) (pc:Int):I64 (fetC B pc):=by
 unfold fetC
 repeat' split
 all_goals exact ⟨by decide,by decide⟩
theorem zx0 (h:Hrt) (B:List Int):I64 (begD h B).cause:=by
 by_cases hc:fetC B h.pc=0
 ·rw [zf8 hc];exact cau_I _ _ _
 ·rw [zm0 hc];exact fetC_I _ _
theorem Ze7 {op imm a:Int} (h:siz op=0):adrV op imm a=0:=by
 have hs:¬ (srt op=4∨srt op=5)∧¬ 10≤srt op:=by
  by_cases hr:1≤op∧op≤75
  ·have:∀ k:Fin 75,siz ((k.val:Int) + 1)=0→¬ (srt ((k.val:Int) + 1)=4∨srt ((k.val:Int) + 1)=5)∧¬ 10≤srt ((k.val:Int) + 1):=by decide
   have:=this ⟨op.toNat - 1,by omega⟩
   simp only [show ((op.toNat - 1:Nat):Int) + 1=op by omega] at this
   exact this h
  ·have:=zd0 op;omega
 unfold adrV
 rw [if_neg hs.1,if_neg hs.2]
theorem zB8 {h:Hrt} {B:List Int} (hw:Wh h):(reaA (begD h B)=0∧reaS (begD h B)=0)∨((reaS (begD h B)=1∨reaS (begD h B)=2∨reaS (begD h B)=4∨reaS (begD h B)=8)∧0≤reaA (begD h B)∧reaA (begD h B) + reaS (begD h B)≤(B.length:Int)):=by
 unfold reaA reaS
 by_cases hz:(begD h B).cause=0
 ·rw [if_pos hz,if_pos hz]
  by_cases hc:fetC B h.pc=0
  ·rw [zf8 hc] at hz ⊢
   simp only at hz ⊢
   generalize (fetI B h.pc).op=op at *
   generalize hx:xAt h (fetI B h.pc).rs1=x at *
   have hxu:U64 x:=by rw [← hx];exact hw.x _
   have hau:=Ze0 op (fetI B h.pc).imm hxu
   by_cases hs:siz op=0
   ·exact .inl ⟨Ze7 hs,hs⟩
   ·right
    generalize hav:adrV op (fetI B h.pc).imm x=ad at *
    have hq:whrV op ad B.length≠4∧whrV op ad B.length≠3:=by
     unfold cauV at hz
     constructor <;> intro g <;> rw [g] at hz <;> revert hz <;> (repeat' split) <;> simp_all
    have hw2:=zk5 op
    unfold whrV at hq
    rw [if_neg hs] at hq
    by_cases h4:ad % siz op≠0
    ·rw [if_pos h4] at hq;exact absurd rfl hq.1
    ·rw [if_neg h4] at hq
     by_cases h3:(B.length:Int)<ad + siz op
     ·rw [if_pos h3] at hq;exact absurd rfl hq.2
     ·exact ⟨by omega,hau.1,by omega⟩
  ·rw [zm0 hc]
   exact .inl ⟨rfl,show siz za5.op=0 by decide⟩
 ·rw [if_neg hz,if_neg hz]
  exact .inl ⟨rfl,rfl⟩
theorem Zr5 {M:List Int} (hb:∀ b ∈ M,0≤b∧b<256) (a n:Nat):Byts ((M.drop a).take n):=fun z hz=>hb z (List.mem_of_mem_drop (List.mem_of_mem_take hz))
theorem num_U {M:List Int} (hb:∀ b ∈ M,0≤b∧b<256) (a s:Int):U64 (numM M a s):=by
 unfold numM ofB
 have h:=Zr5 hb a.toNat s.toNat
 have h2:Byts (((M.drop a.toNat).take s.toNat).take 8):=fun z hz=>h z (List.mem_of_mem_take hz)
 have h3:=zp8 h2
 have h4:=zO7 h2
 have h5:(256:Int) ^ (((M.drop a.toNat).take s.toNat).take 8).length≤256 ^ 8:=by
  have:(((M.drop a.toNat).take s.toNat).take 8).length≤8:=List.length_take_le _ _
  exact_mod_cast Nat.pow_le_pow_right (by decide) this
 have h6:(256:Int) ^ 8=18446744073709551616:=by decide
 exact ⟨h3,by omega⟩
theorem put_len {M bs:List Int} {a:Nat} (h:a + bs.length≤M.length):(putM M a bs).length=M.length:=by
 unfold putM
 simp
 omega
theorem put_byts {M bs:List Int} (hb:∀ b ∈ M,0≤b∧b<256) (hc:∀ b ∈ bs,0≤b∧b<256) (a:Nat):∀ b ∈ putM M a bs,0≤b∧b<256:=by
 intro b h
 unfold putM at h
 rcases List.mem_append.1 h with h | h
 ·rcases List.mem_append.1 h with h | h
  ·exact hb b (List.mem_of_mem_take h)
  ·exact hc b h
 ·exact hb b (List.mem_of_mem_drop h)
open Go.RowKit
section
variable {P:Program} {ops:Array Oper} {Q:Exit→Act→World→Prop} {md:Region.Mode} {S:World→Prop} {c:Nat}
def shutB (md:Region.Mode) (ops:Array Oper) (listed:Array Bool):Bool :=
 (List.range ops.size).all fun j=>!listed.getD j false || ((ops[j]?).map fun o=>o.after.all fun e=>!Region.binds md e || listed.getD e.on false).getD true
def Shut (md:Region.Mode) (ops:Array Oper) (listed:Array Bool):Prop:=∀ j o,ops[j]?=some o→listed.getD j false=true→∀ e ∈ o.after,Region.binds md e=true→listed.getD e.on false=true
theorem Zg9 {listed:Array Bool} (h:shutB md ops listed=true):Shut md ops listed:=fun j o hj hl e he hb=>by
 have h1:=List.all_eq_true.1 h j (List.mem_range.2 (Array.getElem?_eq_some_iff.1 hj).1)
 simp only [hl,hj,Bool.not_true,Bool.false_or,Option.map_some,Option.getD_some] at h1
 have h2:=Array.all_eq_true'.1 h1 e he
 simpa [hb] using h2
theorem unlisted {listed:Array Bool} {i:Nat} (h:listed.getD i true=false):listed.getD i false=false:=by
 rcases Nat.lt_or_ge i listed.size with h' | h'
 ·simp [h'] at h ⊢;exact h
 ·simp [Array.getElem?_eq_none h'] at h
theorem Shut.put {listed:Array Bool} {i:Nat} (h:Shut md ops listed) (hi:i ∈ Region.ready md ops listed):Shut md ops (listed.setIfInBounds i true):=fun j o hj hl e he hb=>by
 by_cases hji:i=j
 ·subst hji
  obtain ⟨_, o', ho', hall⟩ := mem_ready.1 hi
  obtain rfl:o=o':=Option.some.inj (hj.symm.trans ho')
  exact getD_set_true (hall e he hb)
 ·rw [getD_set_ne false hji] at hl
  exact getD_set_true (h j o hj hl e he hb)
def wayB (md:Region.Mode) (ops:Array Oper):Nat→List Nat→Bool
 | _,[]=>true
 | i,m :: l=>((ops[m]?).map fun o=>o.after.any fun e=>Region.binds md e && e.on == i).getD false && wayB md ops m l
theorem way_step {i m:Nat} (h:((ops[m]?).map fun o=>o.after.any fun e=>Region.binds md e && e.on == i).getD false=true):∃ o,ops[m]?=some o∧∃ e ∈ o.after,Region.binds md e=true∧e.on=i:=by
 cases ho:ops[m]? with
 | none=>simp [ho] at h
 | some o =>
  simp only [ho,Option.map_some,Option.getD_some] at h
  obtain ⟨e,he,hb⟩:=Array.any_eq_true'.1 h
  simp only [Bool.and_eq_true,beq_iff_eq] at hb
  exact ⟨o,rfl,e,he,hb.1,hb.2⟩
theorem zT8:∀ (l:List Nat) (i:Nat) (listed:Array Bool),Shut md ops listed→listed.getD i false=false→wayB md ops i l=true→∀ c,l.getLast?=some c→listed.getD c false=false∧c ∉ Region.ready md ops listed
 | [],_,_,_,_,_,_,hl=>by cases hl
 | m :: l,i,listed,hs,hi,hw,c,hl=>by
  simp only [wayB,Bool.and_eq_true] at hw
  obtain ⟨o,ho,e,he,hb,hon⟩:=way_step hw.1
  have hm:listed.getD m false=false:=by
   cases hq:listed.getD m false with
   | false=>rfl
   | true=>have:=hs m o ho hq e he hb;rw [hon,hi] at this;cases this
  cases l with
  | nil =>
   obtain rfl:m=c:=by simpa using hl
   refine ⟨hm,fun hr=>?_⟩
   obtain ⟨_, o', ho', hall⟩ := mem_ready.1 hr
   obtain rfl:o=o':=Option.some.inj (ho.symm.trans ho')
   have:=hall e he hb
   rw [hon,hi] at this
   cases this
  | cons m2 l2 =>
   refine zT8 (m2 :: l2) m listed hs hm hw.2 c ?_
   rw [List.getLast?_cons_cons] at hl
   exact hl
def zh5 (P:Program) (md:Region.Mode) (ops:Array Oper) (Q:Exit→Act→World→Prop) (S:World→Prop) (c:Nat):Nat→Array Bool→Act→World→Prop
 | 0,listed,a,w=>Region.ready md ops listed=[]∧Q .normal a w
 | fuel + 1,listed,a,w =>
  (Region.ready md ops listed=[]→Q .normal a w) ∧
  ∀ i ∈ Region.ready md ops listed,wpOp P ops Q i (fun a' w'=>((listed.setIfInBounds i true).getD c false=true∨S w')∧zh5 P md ops Q S c fuel (listed.setIfInBounds i true) a' w') a w
theorem zA3:∀ (fuel:Nat) (listed:Array Bool) (a:Act) (w:World),zh5 P md ops Q S c fuel listed a w→wpAny P md ops Q fuel listed a w
 | 0,_,_,_,h=>h
 | fuel + 1,_,_,_,h=>⟨h.1,fun i hi=>wpOp_mono (fun a' w' h'=>zA3 fuel _ a' w' h'.2) (h.2 i hi)⟩
theorem zk1 {id:Nat} {a:Act} {w:World} (S:World→Prop) (c:Nat) (hm:P.follows .mixedOrders=true)
  (h:zh5 P .any ops Q S c ops.size (Array.replicate ops.size false) a { w with drawn:=w.drawn + 1 }):(Code.region id ops true).wp P Q a w :=
 wp_region_any hm (zA3 _ _ _ _ h)
theorem zj8:∀ (fuel:Nat) (listed:Array Bool) (a:Act) (w:World),listed.getD c false=true→wpAnyH P md ops Q (fun _=>True) fuel listed a w→zh5 P md ops Q S c fuel listed a w
 | 0,_,_,_,_,h=>h
 | fuel + 1,_,_,_,hc,h=>⟨h.1,fun i hi=>wpOp_mono (fun a' w' h'=>⟨.inl (getD_set_true hc),zj8 fuel _ a' w' (getD_set_true hc) h'.2⟩) (h.2 i hi)⟩
theorem zn4 {i:Nat} {oi:Oper} {v:Value} {way:List Nat} (hi:ops[i]?=some oi) (hsel:∀ (j:Nat) (o:Oper) cs b,ops[j]?=some o→o.op≠.select cs b)
  (hQ:∀ c a w,Q (.panic c) (a.put oi.dst v) w→Q (.panic c) a w) (hw:wayB md ops i way=true) (hc:way.getLast?=some c) :
  ∀ (fuel:Nat) (listed:Array Bool) (a:Act) (w:World),Shut md ops listed →
   (∀ j oj,ops[j]?=some oj→j≠i→listed.getD j true=false→(∀ e ∈ oj.after,Region.binds md e=true→e.on≠i)→oi.apart ops oj=true) →
   i ∈ Region.ready md ops listed→YieldsIf P ops S oi v a→S w →
   zh5 P md ops Q S c fuel (listed.setIfInBounds i true) (a.put oi.dst v) w→zh5 P md ops Q S c (fuel + 1) listed a w
 | 0,listed,a,w,hs,_,hr,hy,hS,H=>by
  refine ⟨fun h=>(by rw [h] at hr;cases hr),fun j hj=>?_⟩
  by_cases hji:j=i
  ·subst hji;exact hy.wpOp hi hS ⟨.inr hS,H⟩
  ·have:=ready_mono hj hji
   rw [H.1] at this
   cases this
 | fuel + 1,listed,a,w,hs,hfree,hr,hy,hS,H=>by
  have hiu:=unlisted (mem_ready.1 hr).1
  obtain ⟨hcu,hcr⟩:=zT8 way i listed hs hiu hw c hc
  refine ⟨fun h=>(by rw [h] at hr;cases hr),fun j hj=>?_⟩
  by_cases hji:j=i
  ·subst hji;exact hy.wpOp hi hS ⟨.inr hS,H⟩
  ·have hcj:j≠c:=fun e=>hcr (e ▸ hj)
   have hci:i≠c:=fun e=>hcr (e ▸ hr)
   have h1:=H.2 j (ready_mono hj hji)
   obtain ⟨hjun,oj,hoj,hall⟩:=mem_ready.1 hj
   have hnot:∀ e ∈ oj.after,Region.binds md e=true→e.on≠i:=fun e he hb heq=>by
    have h2:=hall e he hb
    rw [heq,hiu] at h2
    cases h2
   have h2:=wpOp_putIf hoj (hfree j oj hoj hji hjun hnot) (fun cs b=>hsel i oi cs b hi) (fun cs b=>hsel j oj cs b hoj) hQ hy h1
   have hfree':∀ k ok,ops[k]?=some ok→k≠i→(listed.setIfInBounds j true).getD k true=false→(∀ e ∈ ok.after,Region.binds md e=true→e.on≠i)→oi.apart ops ok=true:=fun k ok hk hki hun hno=>by
    refine hfree k ok hk hki ?_ hno
    by_cases hjk:j=k
    ·subst hjk;exact hjun
    ·rw [getD_set_ne true hjk] at hun;exact hun
   refine wpOp_mono (fun a' w' h3=>?_) h2
   have hS':S w':=by
    rcases h3.2.1 with h4 | h4
    ·rw [getD_set_ne false hcj,getD_set_ne false hci,hcu] at h4;cases h4
    ·exact h4
   refine ⟨.inr hS', zn4 hi hsel hQ hw hc fuel (listed.setIfInBounds j true) a' w' (hs.put hj) hfree' (ready_mono hr (Ne.symm hji)) h3.1 hS' ?_⟩
   rw [Array.setIfInBounds_comm _ _ hji]
   exact h3.2.2
variable {fuel:Nat} {listed:Array Bool} {a:Act} {w:World}
theorem zc1 {i:Nat} {oi:Oper} (way:List Nat) (v:Value) (hi:ops[i]?=some oi) (hs:Region.noSelect ops=true) (hf:Region.free md ops listed i=true) (hr:(Region.ready md ops listed).contains i=true) (hl:shutB md ops listed=true) (hw:wayB md ops i way=true) (hc:way.getLast?=some c)
  (hQ:∀ c a w,Q (.panic c) (a.put oi.dst v) w→Q (.panic c) a w) (hg:oi.guard=none) (hv:∀ w,S w→(execOp a.eval oi).run P w=.ok (.value v) w) (hS:S w)
  (h:zh5 P md ops Q S c fuel (listed.setIfInBounds i true) (a.put oi.dst v) w):zh5 P md ops Q S c (fuel + 1) listed a w :=
 zn4 hi (Region.noSelect_spec hs) hQ hw hc fuel listed a w (Zg9 hl) (Region.free_spec hi hf) (by simpa using hr) (.inl ⟨zf3 hg,hv⟩) hS h
theorem zl7 {i:Nat} {oi:Oper} (way:List Nat) {cs:Array Value} {t:TypeId} {g:Nat} (hi:ops[i]?=some oi) (hs:Region.noSelect ops=true) (hf:Region.free md ops listed i=true) (hr:(Region.ready md ops listed).contains i=true) (hl:shutB md ops listed=true) (hw:wayB md ops i way=true) (hc:way.getLast?=some c)
  (hQ:∀ c a w,Q (.panic c) (a.put oi.dst (.agg cs)) w→Q (.panic c) a w) (hg:oi.guard=none) (ty:TypeId) (x:Operand) (ho:oi.op=.load ty x) (hx:a.eval x=.pointer (some ⟨g,0,none⟩))
  (hb:∀ w,S w→Blk cs t g w) {d:TypeDesc} (hu:P.underlying ty=some d) (hd:(match d with | .struct _ | .array _ _=>true | _=>false)=true) (hz:(P.info? ty).map (·.size)=some cs.size) (hS:S w)
  (h:zh5 P md ops Q S c fuel (listed.setIfInBounds i true) (a.put oi.dst (.agg cs)) w):zh5 P md ops Q S c (fuel + 1) listed a w :=
 zc1 way (.agg cs) hi hs hf hr hl hw hc hQ hg (fun w hw=>by
  unfold execOp
  simp only [ho,hx,Instr.loadAt,Instr.sureAddr,Sem.run_bind,Sem.run_pure,Result.andThen_ok,(hb w hw).var hu hd hz]) hS h
theorem zl2 {i:Nat} {oi:Oper} {f:FuncId} {vals:Array Value} {R:Ending→World→Prop} (hr:Region.ready md ops listed=[i]) (hi:ops[i]?=some oi) (hg:oi.guard=none)
  (hx:(execOp a.eval oi).run P w=.ok (.enter f vals) w) (hc:Calls P f vals w R)
  (hk : ∀ e w', R e w' → ∃ v, e = .returned v ∧ ((listed.setIfInBounds i true).getD c false = true ∨ S w') ∧ zh5 P md ops Q S c fuel (listed.setIfInBounds i true) (a.put oi.dst v) w') : zh5 P md ops Q S c (fuel + 1) listed a w := by
 refine ⟨fun h=>(by rw [hr] at h;cases h),fun j hj=>?_⟩
 rw [hr] at hj
 obtain rfl:j=i:=by simpa using hj
 unfold wpOp
 simp only [hi,zf3 hg,if_true]
 refine .inl ?_
 unfold Oper.wp
 rw [hx,Oper.upon_enter]
 refine hc.mono fun e w' he=>?_
 obtain ⟨v,rfl,h1,h2⟩:=hk e w' he
 exact ⟨h1,h2⟩
theorem zA7 {i:Nat} {oi:Oper} {g n:Nat} {t:TypeId} {ys:Array Value} (hr:Region.ready md ops listed=[i]) (hi:ops[i]?=some oi) (gi:oi.guard=none) (di:oi.dst=none)
  (ty:TypeId) (x y:Operand) (ho:oi.op=.store ty x y) (hx:a.eval x=.pointer (some ⟨g,0,none⟩)) (hy:a.eval y=.agg ys) (hz:(P.info? ty).map (·.size)=some ys.size) (hn:ys.size=n) (o1:∀ v ∈ ys.toList,v.oneCell'=true)
  (hh : Has n t g w) (h : ∀ w', Blk ys t g w' → w.grownBy w' (some g) → wpAnyH P md ops Q (fun _ => True) fuel (listed.setIfInBounds i true) a w') : wpAnyH P md ops Q (fun _ => True) (fuel + 1) listed a w := by
 have put:∀ (b:Act) (v:Value),b.put none v=b:=fun _ _=>rfl
 refine wpAnyH_all hr (by simp) (fun k hk'=>?_)
 obtain rfl:k=i:=by simpa using hk'
 unfold wpOp
 simp only [hi,zf3 gi,if_true]
 refine .inl ?_
 obtain ⟨w1,e1,b1,k1⟩:=hh.put (P:=P) ys hn o1 hz
 refine zl6 ho hx hy e1 ?_
 refine ⟨trivial,?_⟩
 rw [di,put]
 exact h _ b1 k1
end
open Go.RowKit
def zf4 (l:List Dn):List Value:=l.flatMap fun d=>(za3 d).toList
theorem zr4 (l m:List Dn):zf4 (l ++ m)=zf4 l ++ zf4 m:=by unfold zf4;simp
theorem zz5 (d:Dn):zf4 [d]=(za3 d).toList:=by unfold zf4;simp
def Zk6 (a s b t:Int):Bool:=(a == b) && ((s == t) && true)
theorem zM6 (a s b t:Int) (w:World):(binOp .neq 44 (.agg (zb5 a s)) (.agg (zb5 b t))).run Tryz.prog w=.ok (.bool (!Zk6 a s b t)) w:=by
 have e : ((Tryz.prog.fieldsOf 44).toList.all fun f => f.name == "_" || zu7 (zb5 a s)[f.offset]? (zb5 b t)[f.offset]?) = Zk6 a s b t := by kernel_rfl
 rw [run_neq_struct,run_equalIn_struct w 9999 44 _ _ (by kernel_rfl) (by kernel_rfl),zh0 w 9998 _ (by kernel_rfl),e]
 rfl
theorem zv8 {w:World} {base z n:Nat} {e:TypeId} {v:Value} {xs:List Value} (h:w.ownsRow base e z v n xs):∃ A c,v=.slice A n c:=by
 rcases h.2 with ⟨rfl,rfl⟩ | ⟨g,c,_,rfl,_⟩
 ·exact ⟨none,0,rfl⟩
 ·exact ⟨_,c,rfl⟩
theorem zu8 {P:Program} {fn:Func} {p q r:Tmp} {ty:TypeId} {cs:Array Value} {t:TypeId} {g:Nat} {d:TypeDesc} {tmps:Array Value} {w:World} (h:fn.results=#[.cell p ty,.tmp q,.tmp r]) (hp:tmps.getD p undef=.pointer (some ⟨g,0,none⟩)) (hb:Blk cs t g w)
  (hu:P.underlying ty=some d) (hd:(match d with | .struct _ | .array _ _=>true | _=>false)=true) (hi:(P.info? ty).map (·.size)=some cs.size) :
  (results fn tmps).run P w=.ok (.tuple #[.agg cs,tmps.getD q undef,tmps.getD r undef]) w:=by
 have hp':tmps[p]?.getD undef=.pointer (some ⟨g,0,none⟩):=by simpa using hp
 simp [results, h, hp', asAddr, hb.var hu hd hi]
theorem zq7 {B:List Int} {h:Hrt} {k:Nat} (hc:(aloK B h k).h.cause≠0):∀ m,aloK B h (k + m)=aloK B h k
 | 0=>rfl
 | m + 1=>by
  show (if (aloK B h (k + m)).h.cause=0 then _ else aloK B h (k + m))=_
  rw [zq7 hc m,if_neg hc]
theorem zv6 {B:List Int} {h:Hrt} {k:Nat} (hc:(aloK B h k).h.cause=0):aloK B h (k + 1)=aloS B (aloK B h k):=by
 show (if (aloK B h k).h.cause=0 then _ else _)=_
 rw [if_pos hc]
structure zw4 (s:Alo) (n:Nat):Prop where
 h:Wh s.h
 len:s.mem.length=n
 byts:∀ b ∈ s.mem,0≤b∧b<256
structure Aln (W:World) (s:Alo) (g gp:Nat) (v:Value) (w:World):Prop where
 at0:W.heap.size=g
 atp:g + 2<gp
 bw:BW W w
 hart:Blk (za2 s.h) 25 g w
 res:Has 34 25 (g + 1) w
 mem:Blk (za4 s.mem).toArray 5 (g + 2) w
 plc:Blk (zb5 s.ra s.rs) 44 gp w
 list:w.ownsRow (gp + 1) 41 16 v s.done.length (zf4 s.done)
theorem Aln.on {W w w':World} {s:Alo} {g gp:Nat} {v:Value} (a:Aln W s g gp v w) (hb:Below w.heap.size w w'):Aln W s g gp v w' :=
 ⟨a.at0,a.atp,a.bw.on hb,a.hart.on hb,a.res.on hb,a.mem.on hb,a.plc.on hb,zp4 a.list hb⟩
theorem Aln.drew {W w:World} {s:Alo} {g gp:Nat} {v:Value} (a:Aln W s g gp v w):Aln W s g gp v w.drew:=⟨a.at0,a.atp,Below.drew a.bw,a.hart.drew,a.res.drew,a.mem.drew,a.plc.drew,a.list⟩
def RetAl (w:World) (s:Alo) (e:Ending) (w':World):Prop:=∃ v n,e=.returned (.tuple #[.agg (za2 s.h),.slice (some ⟨w.heap.size + 2,0,none⟩) n n,v])∧s.mem.length=n∧Blk (za4 s.mem).toArray 5 (w.heap.size + 2) w'∧w'.ownsRow w.heap.size 41 16 v s.done.length (zf4 s.done)∧BW w w'
theorem Zg4:(Tryz.prog.info? 41).map (fun i=>(i.zero,i.size,i.bytes))=some (some (.agg (za3 noDn)),16,120):=by kernel_rfl
theorem own_row1 {w:World} {base g m c:Nat} {e:TypeId} {xs:List Value} (h:w.ownsRow base e 1 (.slice (some ⟨g,0,none⟩) m c) m xs) (hc:c=m):Blk xs.toArray e g w:=by
 obtain ⟨hl, h | ⟨g', c', cur, hv, _, hg, _, _, hs, ht⟩⟩ := h
 ·exact absurd h.1 (by simp)
 ·cases hv
  show w.heap[g]?=_
  rw [hg]
  have:cur=xs.toArray:=by
   rw [← ht,List.take_of_length_le (by rw [Array.length_toList];omega)]
  rw [this]
theorem Za4 {n:Nat} {xs:List Value} (hx:xs.length=n):splice (zf7 n) 0 xs=xs:=by
 unfold splice
 simp [zf7,hx]
theorem zl1 (l:List Int):∀ v ∈ za4 l,v.oneCell'=true:=by
 intro v hv
 unfold za4 at hv
 obtain ⟨x,_,rfl⟩:=List.mem_map.1 hv
 rfl
theorem zO6 {w:World} {A:Option Addr} {cap:Nat} {B:List Int} (h:ImgAt w A cap B) (hp:0<(za4 B).length):∃ ad,A=some ad∧∀ j v,(za4 B)[j]?=some v→w.cell? (ad.add j)=some v:=by
 rcases h.1 with h0 | ⟨b,off,rfl,_,hc⟩
 ·rw [h0] at hp;exact absurd hp (by simp)
 ·refine ⟨_,rfl,fun j v hv=>?_⟩
  have e:(⟨b,off,none⟩:Addr).add j=⟨b,off + j,none⟩:=by unfold Addr.add;split <;> simp_all
  rw [e];exact hc j v hv
theorem zJ7 {M:List Int} {j:Nat} (h:j<M.length):(za4 M).toArray[j]?=some (.int .u8 (M.getD j 0)):=by
 unfold za4
 rw [List.getElem?_toArray,List.getElem?_map,List.getD_eq_getElem?_getD,List.getElem?_eq_getElem h]
 rfl
theorem Zn5 {M:List Int} {gm n:Nat} {x:World} (hM:Blk (za4 M).toArray 5 gm x) (hl:M.length=n) (hn:n≤1024) (hb:∀ b ∈ M,0≤b∧b<256) {a s:Int} (hr:(a=0∧s=0)∨((s=1∨s=2∨s=4∨s=8)∧0≤a∧a + s≤(n:Int))) :
  Calls Tryz.prog 14 #[.agg (zb5 a s),.slice (some ⟨gm,0,none⟩) n n] x fun e w'=>e=.returned (.int .u64 (numM M a s))∧BW x w':=by
 rcases hr with ⟨rfl,rfl⟩ | ⟨h1,h2,h3⟩
 ·rw [Zr2]
  exact zO5 (some ⟨gm,0,none⟩) n n x (Nat.le_refl _) (by omega) (fun h=>by cases h) (fun a h=>by cases h;exact ⟨_,_,rfl⟩)
 ·obtain ⟨k,rfl⟩:∃ k:Nat,a=(k:Int):=⟨a.toNat,by omega⟩
  obtain ⟨z,rfl⟩:∃ k:Nat,s=(k:Int):=⟨s.toNat,by omega⟩
  subst hl
  have hc:∀ j,j<M.length→x.cell? ⟨gm,0 + j,none⟩=some (.int .u8 (M.getD j 0)):=fun j hj=>by rw [Nat.zero_add,hM.cell j];exact zJ7 hj
  exact zZ8 gm 0 M.length M k z x ⟨.inr ⟨gm,0,rfl,hM.lt,fun i v hv=>by
   have hi:i<M.length:=by
    have:=(List.getElem?_eq_some_iff.1 hv).1
    simpa [za4] using this
   rw [hc i hi,← hv]
   have:=zJ7 hi
   rw [List.getElem?_toArray] at this
   exact this.symm⟩,hb,hn,Nat.le_refl _,by omega⟩ hM.lt hc (by omega) (by omega)
structure Alr (W:World) (s:Alo) (g gp:Nat) (v:Value) (d:Dn) (gd:Nat) (pa ps:Int) (gq:Nat) (w:World):Prop where
 a:Aln W s g gp v w
 dn:Blk (za3 d) 41 gd w
 q:Blk (zb5 pa ps) 44 gq w
 hd:gp<gd
 hq:gd<gq
theorem Alr.on {W w w':World} {s:Alo} {g gp gd gq:Nat} {v:Value} {d:Dn} {pa ps:Int} (a:Alr W s g gp v d gd pa ps gq w) (hb:Below w.heap.size w w'):Alr W s g gp v d gd pa ps gq w':=⟨a.a.on hb,a.dn.on hb,a.q.on hb,a.hd,a.hq⟩
theorem Alr.drew {W w:World} {s:Alo} {g gp gd gq:Nat} {v:Value} {d:Dn} {pa ps:Int} (a:Alr W s g gp v d gd pa ps gq w):Alr W s g gp v d gd pa ps gq w.drew:=⟨a.a.drew,a.dn.drew,a.q.drew,a.hd,a.hq⟩
theorem Alr.two {W w w' w'':World} {s:Alo} {g gp gd gq:Nat} {v:Value} {d d':Dn} {pa ps:Int} {h':Hrt} (a:Alr W s g gp v d gd pa ps gq w) (hl:∀ b,v.ownBlock=some b→b<gd) (b1:Blk (za2 h') 25 g w') (k1:w.grownBy w' (some g)) (b2:Blk (za3 d') 41 gd w'') (k2:w'.grownBy w'' (some gd)) :
  Alr W ⟨h', s.mem, s.ra, s.rs, s.done⟩ g gp v d' gd pa ps gq w'' := by
 have h0:=a.a.at0
 have hp:=a.a.atp
 have hd:=a.hd
 have hq:=a.hq
 have bw1:BW W w':=Below.stored a.a.bw k1 (by omega) (Below.size a.a.bw)
 have bw2:BW W w'':=Below.stored bw1 k2 (by omega) (Below.size bw1)
 refine ⟨⟨h0,hp,bw2,b1.far k2 (by omega),(a.a.res.far k1 (by omega)).far k2 (by omega),(a.a.mem.far k1 (by omega)).far k2 (by omega),(a.a.plc.far k1 (by omega)).far k2 (by omega),?_⟩,b2,(a.q.far k1 (by omega)).far k2 (by omega),hd,hq⟩
 refine (a.a.list.kept k1 ?_).kept k2 (.inr fun e=>by have:=hl _ e;omega)
 right
 intro e
 have:=(a.a.list.lt _ e).1
 omega
theorem zR7 {o:Oper} {t u:TypeId} {x y:Operand} {a:Act} {xs ys:Array Value} {v:Value} {w:World} (ho:o.op=.binOp .neq t x y u) (hm:Tryz.prog.eqGuardType Tryz.prog.depth t=false) (hx:a.eval x=.agg xs) (hy:a.eval y=.agg ys) (h:(binOp .neq t (.agg xs) (.agg ys)).run Tryz.prog w=.ok v w) :
  (execOp a.eval o).run Tryz.prog w=.ok (.value v) w:=by
 have hg:=run_eqGuard_agg (P:=Tryz.prog) (w:=w) .neq t x y xs ys hm
 unfold execOp
 simp only [ho,hx,hy,Sem.run_bind,Sem.run_pure,Result.andThen_ok,hg,h]
theorem plcEq_of (a s b t:Int):(!Zk6 a s b t)=!(decide (a=b) && decide (s=t)):=by
 unfold Zk6
 rw [Bool.and_true]
 rfl
theorem zx1 (d:Dn) (w:World) (t:TypeId):∀ j u,(za3 d).toList[j]?=some u→(w.alloc (.cells (za3 d) t)).cell? ((⟨w.heap.size,0,none⟩:Addr).add j)=some u:=by
 intro j u hu
 have hadd:(⟨w.heap.size,0,none⟩:Addr).add j=⟨w.heap.size,j,none⟩:=by unfold Addr.add;split <;> simp_all
 rw [hadd,(Blk.new (za3 d) t w).cell j]
 simpa using hu
theorem Blk.heldB {cs:Array Value} {t:TypeId} {g:Nat} {w w':World} {r:Option Nat} (h:Blk cs t g w) (hg:w.grownBy w' r) (hne:r≠some g):Blk cs t g w':=(hg.block g h.lt (fun e=>hne e.symm)).trans h
theorem Has.kept {n:Nat} {t:TypeId} {g:Nat} {w w':World} {r:Option Nat} (h:Has n t g w) (hg:w.grownBy w' r) (hne:r≠some g):Has n t g w':=by
 obtain ⟨cs,hn,h⟩:=h
 exact ⟨cs,hn,h.heldB hg hne⟩
theorem Alr.app {W w w':World} {s:Alo} {g gp gd gq:Nat} {v v':Value} {d:Dn} {pa ps:Int} {o:Obj} {n:Nat} {xs:List Value} (a:Alr W s g gp v d gd pa ps gq w) (hl:∀ b,v.ownBlock=some b→b<gd)
  (hn:n=s.done.length + 1) (hx:xs=zf4 s.done ++ (za3 d).toList) (ho:w'.ownsRow (gp + 1) 41 16 v' n xs) (hg:(w.alloc o).grownBy w' v.ownBlock) :
  Alr W ⟨s.h,s.mem,s.ra,s.rs,s.done ++ [d]⟩ g gp v' d gd pa ps gq w':=by
 have h0:=a.a.at0
 have hp:=a.a.atp
 have hd:=a.hd
 have hq:=a.hq
 have hlow:∀ b,v.ownBlock=some b→gp + 1≤b∧b<gd:=fun b e=>⟨(a.a.list.lt _ e).1,hl _ e⟩
 have hb:BW W w':=Below.grown (BW.new a.a.bw o) hg (by have:=Below.size a.a.bw;simp;omega) (fun q hq=>by have:=hlow q hq;omega)
 have ne:∀ k,k<gp + 1∨gd≤k→v.ownBlock≠some k:=fun k hk e=>by have:=hlow k e;omega
 subst hn
 subst hx
 refine ⟨⟨h0,hp,hb,(a.a.hart.alloc o).heldB hg (ne _ (by omega)),?_,(a.a.mem.alloc o).heldB hg (ne _ (by omega)),(a.a.plc.alloc o).heldB hg (ne _ (by omega)),?_⟩,(a.dn.alloc o).heldB hg (ne _ (by omega)),(a.q.alloc o).heldB hg (ne _ (by omega)),hd,hq⟩
 ·exact (a.a.res.on (BW.new (Below.refl w.heap.size w) o)).kept hg (ne _ (by omega))
 ·show World.ownsRow _ _ _ _ _ (s.done ++ [d]).length _
  rw [zr4,zz5,List.length_append]
  exact ho
theorem Alr.plc {W w w':World} {s:Alo} {g gp gd gq:Nat} {v:Value} {d:Dn} {pa ps ra rs:Int} (a:Alr W s g gp v d gd pa ps gq w) (b:Blk (zb5 ra rs) 44 gp w') (k:w.grownBy w' (some gp)) :
  Alr W ⟨s.h,s.mem,ra,rs,s.done⟩ g gp v d gd pa ps gq w':=by
 have h0:=a.a.at0
 have hp:=a.a.atp
 have hd:=a.hd
 have hq:=a.hq
 have bw:BW W w':=Below.stored a.a.bw k (by omega) (Below.size a.a.bw)
 refine ⟨⟨h0,hp,bw,a.a.hart.far k (by omega),a.a.res.far k (by omega),a.a.mem.far k (by omega),b,a.a.list.kept k (.inr fun e=>?_)⟩,a.dn.far k (by omega),a.q.far k (by omega),hd,hq⟩
 have:=(a.a.list.lt _ e).1
 omega
theorem Alr.put {W w w':World} {s:Alo} {g gp gd gq:Nat} {v:Value} {d:Dn} {pa ps:Int} {M:List Int} (a:Alr W s g gp v d gd pa ps gq w) (b:Blk (za4 M).toArray 5 (g + 2) w') (k:w.grownBy w' (some (g + 2))) :
  Alr W ⟨s.h,M,s.ra,s.rs,s.done⟩ g gp v d gd pa ps gq w':=by
 have h0:=a.a.at0
 have hp:=a.a.atp
 have hd:=a.hd
 have hq:=a.hq
 have bw:BW W w':=Below.stored a.a.bw k (by omega) (Below.size a.a.bw)
 refine ⟨⟨h0,hp,bw,a.a.hart.far k (by omega),a.a.res.far k (by omega),b,a.a.plc.far k (by omega),a.a.list.kept k (.inr fun e=>?_)⟩,a.dn.far k (by omega),a.q.far k (by omega),hd,hq⟩
 have:=(a.a.list.lt _ e).1
 omega
theorem zb8 {P:Program} {o:Oper} {a:Act} {w:World} {ty:TypeId} {x:Operand} {ad:Addr} {v:Value} (ho:o.op=.load ty x) (hx:a.eval x=.pointer (some ad)) (hc:w.cell? ad=some v) (ha:(isAgg ty).run P w=.ok false w) :
  (execOp a.eval o).run P w=.ok (.value v) w:=by
 unfold execOp
 simp [ho,hx,Instr.loadAt,Instr.sureAddr,loadVar,ha,hc]
theorem zk2 {P:Program} {o:Oper} {a:Act} {w:World} {t:TypeId} {x lo:Operand} {e:TypeId} {g n:Nat} {p:Int} (ho:o.op=.slice t x (some lo) none none) (hx:a.eval x=.slice (some ⟨g,0,none⟩) n n) (hl:a.eval lo=.int .u64 p)
  (h0:0≤p) (h1:p=0∨p<(n:Int)) (he:P.underlying t=some (.slice e)) (hs:(sizeOf e).run P w=.ok 1 w) :
  (execOp a.eval o).run P w=.ok (.value (.slice (some ⟨g,p.toNat,none⟩) (n - p.toNat) (n - p.toNat))) w:=by
 have hn:p≤(n:Int):=by omega
 have hu:P.underlying t=some (.slice (P.elem t)):=by rw [he];simp [Program.elem,he]
 unfold execOp
 simp only [ho,hx,Option.map_some,Option.map_none,hl,Sem.run_bind,run_sliceAt_slice _ _ _ _ _ _ hu,run_slice_any _ _ _ _ _ hu]
 simp [Instr.sliceBounds,go_sem,h0,hn,he,hs,sliced]
 rcases h1 with rfl | h1
 ·simp
 ·intro _;omega
open Go in
theorem zK0 (w:World) (g:Nat) (cs:Array Value):w.grownBy (w.setRow g cs) (some g) :=
 ⟨rfl,rfl,rfl,by simp [World.setRow],fun k _ hk=>setRow_other w g k cs (fun e=>hk (by rw [e]))⟩
section
variable {P:Program} {ops:Array Oper} {Q:Exit→Act→World→Prop} {md:Region.Mode} {S:World→Prop} {c fuel:Nat} {listed:Array Bool} {a:Act} {w:World}
theorem zy2 {i:Nat} {oi:Oper} (hr:Region.ready md ops listed=[i]) (hi:ops[i]?=some oi) (gi:oi.guard=none) (hc:(listed.setIfInBounds i true).getD c false=true) (d s:Operand) (dT sT:TypeId)
  (ho:oi.op=.call { callee:=.builtin .copy,args:=#[d,s],argTypes:=#[dT,sT] }) (elem:TypeId) (hu:P.underlying dT=some (.slice elem)) (hsz:(P.info? elem).map (·.size)=some 1)
  (sp:Option Addr) (g off dLen dCap sLen sCap:Nat) (hd:a.eval d=.slice (some ⟨g,off,none⟩) dLen dCap) (hs:a.eval s=.slice sp sLen sCap)
  (cur:List Value) (t:TypeId) (hg:Blk cur.toArray t g w) (cs:List Value) (hn:cs.length=Nat.min sLen dLen)
  (hpos:0<cs.length→∃ ad,sp=some ad∧∀ j v,cs[j]?=some v→w.cell? (ad.add j)=some v) (hfit:off + cs.length≤cur.length) (h1:∀ v ∈ cs,v.oneCell'=true)
  (h : ∀ w', Blk (splice cur off cs).toArray t g w' → w.grownBy w' (some g) → wpAnyH P md ops Q (fun _ => True) fuel (listed.setIfInBounds i true) (a.put oi.dst (goInt cs.length)) w') : zh5 P md ops Q S c (fuel + 1) listed a w := by
 refine ⟨fun h=>(by rw [hr] at h;cases h),fun j hj=>?_⟩
 rw [hr] at hj
 obtain rfl:j=i:=by simpa using hj
 unfold wpOp
 simp only [hi,zf3 gi,if_true]
 refine .inl ?_
 by_cases h0:cs.length=0
 ·obtain rfl:cs=[]:=List.eq_nil_of_length_eq_zero h0
  have hrun:=run_copy_none (P:=P) w dT sT oi.type elem (some ⟨g,off,none⟩) sp dLen dCap sLen sCap hu hsz (by simpa using hn.symm)
  unfold Oper.wp
  simp [execOp,ho,resolve,invoke,builtin,hd,hs,hrun,Result.andThen]
  refine ⟨.inl (by simpa using hc),zj8 _ _ _ _ hc (h w ?_ (World.grownBy.refl w _))⟩
  show w.heap[g]?=_
  have hg':w.heap[g]?=_:=hg
  rw [hg']
  simp [splice]
 ·obtain ⟨ad,rfl,hsrc⟩:=hpos (by omega)
  have hrun:=run_copy_row (P:=P) w dT sT oi.type elem g off dLen dCap ad sLen sCap cur.toArray t cs hu hsz hg hn hsrc (by simpa using hfit) h1
  unfold Oper.wp
  simp [execOp,ho,resolve,invoke,builtin,hd,hs,hrun,Result.andThen]
  refine ⟨.inl (by simpa using hc),zj8 _ _ _ _ hc (h _ ?_ (zK0 _ _ _))⟩
  show _=_
  simpa [splice] using setRow_heap w g _ _ t _ hg
end
theorem zu2 (M:List Int) (a:Nat) (bs:List Int):splice (za4 M) a (za4 bs)=za4 (putM M a bs):=by
 unfold splice putM za4
 simp
theorem alo_res {B:List Int} {s:Alo} (h:srt (nowD B s).inst.op=10):aloS B s=⟨nowH B s,s.mem,reaA (begD s.h B),reaS (begD s.h B),s.done ++ [nowD B s]⟩:=by
 unfold aloS nowM
 simp [h]
theorem alo_bad {B:List Int} {s:Alo} (h:srt (nowD B s).inst.op=11) (hf:(nowD B s).failed=true):aloS B s=⟨nowH B s,s.mem,0,0,s.done ++ [nowD B s]⟩:=by
 unfold aloS nowM
 simp [h,hf]
theorem alo_con {B:List Int} {s:Alo} (h:srt (nowD B s).inst.op=11) (hf:(nowD B s).failed=false):aloS B s=⟨nowH B s,putM s.mem (reaA (begD s.h B)).toNat (zc5 (nowD B s).wrote (reaS (begD s.h B)).toNat),0,0,s.done ++ [nowD B s]⟩:=by
 unfold aloS nowM
 simp [h,hf]
theorem alo_sto {B:List Int} {s:Alo} (h:srt (nowD B s).inst.op=5∨srt (nowD B s).inst.op=12):aloS B s=⟨nowH B s,putM s.mem (reaA (begD s.h B)).toNat (zc5 (nowD B s).wrote (reaS (begD s.h B)).toNat),s.ra,s.rs,s.done ++ [nowD B s]⟩:=by
 unfold aloS nowM
 rcases h with h | h <;> simp [h]
theorem alo_no {B:List Int} {s:Alo} (h:srt (nowD B s).inst.op≠10∧srt (nowD B s).inst.op≠11∧srt (nowD B s).inst.op≠5∧srt (nowD B s).inst.op≠12):aloS B s=⟨nowH B s,s.mem,s.ra,s.rs,s.done ++ [nowD B s]⟩:=by
 unfold aloS nowM
 simp [h.1,h.2.1,h.2.2.1,h.2.2.2]
theorem zT9 (B:List Int) (s:Alo):(nowD B s).inst=(begD s.h B).inst:=by
 unfold nowD doD
 split <;> rfl
theorem Zo5 (B:List Int) (s:Alo):0≤(nowD B s).wrote:=by
 have h0:(begD s.h B).wrote=0:=by
  by_cases hc:fetC B s.h.pc=0
  ·rw [zf8 hc]
  ·rw [zm0 hc]
 unfold nowD doD
 split
 ·simp only
  unfold wroV
  split
  ·exact (sto_U _ _ _).1
  ·omega
 ·omega
theorem Zn8 (a s:Int):∀ v ∈ (zb5 a s).toList,v.oneCell'=true:=by
 intro v hv
 simp [zb5] at hv
 rcases hv with rfl | rfl <;> rfl
section
variable {pa ps:Int} {n:Nat} (h:(pa=0∧ps=0)∨((ps=1∨ps=2∨ps=4∨ps=8)∧0≤pa∧pa + ps≤(n:Int)))
include h
theorem cap_way:cap8 ps=ps.toNat:=by unfold cap8;omega
theorem zE3 {x:Int}:(za4 (zc5 x ps.toNat)).length=Nat.min (zc5 x ps.toNat).length (n - pa.toNat):=by
 unfold za4
 rw [List.length_map,zc7]
 show _=min _ _
 omega
theorem zB9 {x:Int} {M:List Int} (hM:M.length=n):pa.toNat + (za4 (zc5 x ps.toNat)).length≤(za4 M).length:=by
 unfold za4
 rw [List.length_map,List.length_map,zc7]
 omega
end
theorem zC0 {w:World} {A:Option Addr} {B:Nat} {xs:List Value} (h:Rd w B A xs) (hp:0<xs.length):∃ ad,A=some ad∧∀ j v,xs[j]?=some v→w.cell? (ad.add j)=some v:=by
 rcases h with h0 | ⟨b,off,rfl,_,hc⟩
 ·rw [h0] at hp;exact absurd hp (by simp)
 ·refine ⟨_,rfl,fun j v hv=>?_⟩
  have e:(⟨b,off,none⟩:Addr).add j=⟨b,off + j,none⟩:=by unfold Addr.add;split <;> simp_all
  rw [e];exact hc j v hv
theorem zM9 (B:List Int) (s:Alo):(aloS B s).done.length=s.done.length + 1:=by simp [aloS]
theorem Zp0 {B:List Int} {s:Alo} {n:Nat} (hs:zw4 s n) (hn:B.length=n):zw4 (aloS B s) n:=by
 have hr:=zB8 (B:=B) hs.h
 rw [hn] at hr
 have hl:=hs.len
 refine ⟨do_wh hs.h _ (zx0 _ _) _ _,?_,?_⟩
 ·show (nowM B s).length=n
  unfold nowM
  split
  ·rw [put_len]
   ·exact hl
   ·rw [zc7];omega
  ·exact hl
 ·show ∀ b ∈ nowM B s,_
  unfold nowM
  split
  ·exact put_byts hs.byts (fun b hb=>zM2 _ _ b hb) _
  ·exact hs.byts
end Go.Proofs.YtmamblgpekafbaaGreatDoor
