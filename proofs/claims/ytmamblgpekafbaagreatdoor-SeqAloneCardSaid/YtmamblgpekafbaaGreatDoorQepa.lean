/- Of stage 11. -/
import Derived.ChangeKeysEq
import Derived.Test.YtmamblgpekafbaaGreatDoorAalpa
set_option linter.unusedVariables false
set_option maxRecDepth 100000
namespace Go.Proofs.YtmamblgpekafbaaGreatDoor
open Go.RowKit
def Zf2 (a b:Hrt):Bool:=(a.pc == b.pc) && ((a.x == b.x) && (a.cause == b.cause))
theorem Zc8 (a b:Hrt):Zf2 a b=true↔a=b:=by
 obtain ⟨p,x,c⟩:=a
 obtain ⟨q,y,d⟩:=b
 unfold Zf2
 simp
theorem zY4 (a:Hrt):Zf2 a a=true:=(Zc8 a a).2 rfl
theorem all_same (xs ys:List Int) (h:xs.length=ys.length):((List.range xs.length).all fun i=>xs.getD i 0 == ys.getD i 0)=(xs == ys):=by
 rw [Bool.eq_iff_iff,List.all_eq_true,beq_iff_eq]
 constructor
 ·intro hq
  refine List.ext_getElem h fun i h1 h2=>?_
  have:=hq i (List.mem_range.2 h1)
  simpa [List.getD_eq_getElem?_getD,List.getElem?_eq_getElem h1,List.getElem?_eq_getElem h2] using this
 ·rintro rfl i _
  simp
section
variable {P:Program} (w:World)
theorem zs4 (d:Nat) {e:TypeId} (he:P.underlying e=some (.int .u64)) (xs ys:List Int):∀ is:List Nat,(∀ i ∈ is,i<xs.length∧i<ys.length) →
  (Op.eqItems (d + 1) e 1 (xs.map (Value.int .u64)).toArray (ys.map (Value.int .u64)).toArray is).run P w=.ok (is.all fun i=>xs.getD i 0 == ys.getD i 0) w
 | [],_=>by simp [Op.eqItems]
 | i :: is,h=>by
  have hi:=h i (by simp)
  have p1:=zc3 (P:=P) w (cs:=(xs.map (Value.int .u64)).toArray) (o:=i * 1) (v:=.int .u64 (xs.getD i 0)) he rfl (by
   rw [List.getElem?_toArray,List.getElem?_map,List.getD_eq_getElem?_getD,Nat.mul_one,List.getElem?_eq_getElem hi.1];rfl)
  have p2:=zc3 (P:=P) w (cs:=(ys.map (Value.int .u64)).toArray) (o:=i * 1) (v:=.int .u64 (ys.getD i 0)) he rfl (by
   rw [List.getElem?_toArray,List.getElem?_map,List.getD_eq_getElem?_getD,Nat.mul_one,List.getElem?_eq_getElem hi.2];rfl)
  have ih:=zs4 d he xs ys is (fun j hj=>h j (by simp [hj]))
  have p3:=run_equalIn_int (P:=P) w d e .u64 .u64 (xs.getD i 0) (ys.getD i 0) he
  unfold Op.eqItems
  simp only [Sem.run_bind,p1,p2,p3,Result.andThen_ok,List.all_cons]
  cases hb:(xs.getD i 0 == ys.getD i 0)
  ·simp
  ·simp only [Bool.not_true,Bool.false_eq_true,if_false,Bool.true_and]
   exact ih
end
theorem info_u64:(Tryz.prog.info? 22).isSome=true:=by kernel_rfl
theorem run_eq_x (d:Nat) (w:World) (xs ys:List Int) (hx:xs.length=32) (hy:ys.length=32) :
  (Op.equalIn (d + 2) 23 (.agg (xs.map (Value.int .u64)).toArray) (.agg (ys.map (Value.int .u64)).toArray)).run Tryz.prog w=.ok (xs == ys) w:=by
 obtain ⟨i,hi⟩:=Option.isSome_iff_exists.1 info_u64
 rw [run_equalIn_array w (d + 1) _ _ Tryz.underlying23 hi,show Tryz.prog.cellsOf 22=1 by kernel_rfl,zs4 w d Tryz.underlying22 xs ys _ (fun i hi=>by have:=List.mem_range.1 hi;omega),← all_same xs ys (by omega),hx]
theorem size_x (w:World):(sizeOf 23).run Tryz.prog w=.ok 32 w:=by kernel_rfl
theorem agg_x (w:World):(isAgg 23).run Tryz.prog w=.ok true w:=by kernel_rfl
theorem part_x {h:Hrt} (hl:h.x.length=32) (w:World):(part 23 (za2 h) 1).run Tryz.prog w=.ok (.agg (h.x.map (Value.int .u64)).toArray) w:=by
 have e:(za2 h).extract 1 33=(h.x.map (Value.int .u64)).toArray:=by
  apply Array.ext'
  rw [Array.toList_extract]
  unfold za2 hrtL
  show List.take (33 - 1) (List.drop 1 _)=_
  rw [List.drop_succ_cons,List.drop_zero,List.take_append_of_le_length (by simp [hl]),List.take_of_length_le (by simp [hl])]
 unfold part
 simp only [Sem.run_bind,agg_x,Result.andThen_ok,if_true,size_x,Sem.run_pure]
 rw [show 1 + 32=33 from rfl,e]
def Zg7 (l:List Field):Bool:=match l with
 | [f1, f2, f3] => f1.name != "_" && f2.name != "_" && f3.name != "_" && f1.type == 22 && f2.type == 23 && f3.type == 3 && f1.offset == 0 && f2.offset == 1 && f3.offset == 33
 | _=>false
theorem Zq0:Zg7 (Tryz.prog.fieldsOf 25).toList=true:=by kernel_rfl
theorem Za6 : ∃ f1 f2 f3 : Field, (Tryz.prog.fieldsOf 25).toList = [f1, f2, f3] ∧ (f1.name ≠ "_" ∧ f2.name ≠ "_" ∧ f3.name ≠ "_") ∧ (f1.type = 22 ∧ f2.type = 23 ∧ f3.type = 3) ∧ (f1.offset = 0 ∧ f2.offset = 1 ∧ f3.offset = 33) := by
 have h:=Zq0
 generalize (Tryz.prog.fieldsOf 25).toList=l at h
 unfold Zg7 at h
 split at h
 ·simp only [Bool.and_eq_true,bne_iff_ne,beq_iff_eq] at h
  exact ⟨_,_,_,rfl,⟨h.1.1.1.1.1.1.1.1,h.1.1.1.1.1.1.1.2,h.1.1.1.1.1.1.2⟩,⟨h.1.1.1.1.1.2,h.1.1.1.1.2,h.1.1.1.2⟩,h.1.1.2,h.1.2,h.2⟩
 ·cases h
theorem zZ5 (a b:Hrt) (ha:a.x.length=32) (hb:b.x.length=32) (w:World) :
  (binOp .eql 25 (.agg (za2 a)) (.agg (za2 b))).run Tryz.prog w=.ok (.bool (Zf2 a b)) w:=by
 obtain ⟨f1,f2,f3,hf,⟨n1,n2,n3⟩,⟨t1,t2,t3⟩,o1,o2,o3⟩:=Za6
 have p1:=fun h:Hrt=>zc3 (P:=Tryz.prog) w (cs:=za2 h) (o:=0) (v:=.int .u64 h.pc) Tryz.underlying22 rfl (zu3 h)
 have p2:=fun (h:Hrt) (hl:h.x.length=32)=>part_x hl w
 have p3:=fun (h:Hrt) (hl:h.x.length=32)=>zc3 (P:=Tryz.prog) w (cs:=za2 h) (o:=33) (v:=.int .i64 h.cause) Tryz.underlying3 rfl (zg3 hl)
 have e1:(Op.equalIn 9999 22 (.int .u64 a.pc) (.int .u64 b.pc)).run Tryz.prog w=.ok (a.pc == b.pc) w:=run_equalIn_int (P:=Tryz.prog) w 9998 22 .u64 .u64 a.pc b.pc Tryz.underlying22
 have e2:(Op.equalIn 9999 23 (.agg (a.x.map (Value.int .u64)).toArray) (.agg (b.x.map (Value.int .u64)).toArray)).run Tryz.prog w=.ok (a.x == b.x) w:=run_eq_x 9997 w a.x b.x ha hb
 have e3:(Op.equalIn 9999 3 (.int .i64 a.cause) (.int .i64 b.cause)).run Tryz.prog w=.ok (a.cause == b.cause) w:=run_equalIn_int (P:=Tryz.prog) w 9998 3 .i64 .i64 a.cause b.cause Tryz.underlying3
 rw [run_eql_struct,run_equalIn_struct w 9999 25 _ _ (by kernel_rfl) (by kernel_rfl),hf]
 unfold Zf2
 simp only [Op.eqFields,n1,n2,n3,t1,t2,t3,o1,o2,o3,Sem.run_bind,p1,e1,Result.andThen_ok,ne_eq,not_false_iff,if_true]
 generalize (a.pc == b.pc)=u1 at *
 generalize (a.x == b.x)=u2 at *
 generalize (a.cause == b.cause)=u3 at *
 cases u1 <;> cases u2 <;> cases u3 <;> simp [Result.andThen,e2,e3,p2 a ha,p2 b hb,p3 a ha,p3 b hb]
def dnEq (a b:Dn):Bool:=[a.pc == b.pc,eqB a.inst b.inst,a.cause == b.cause,a.val == b.val,a.addr == b.addr,a.read == b.read,a.wrote == b.wrote,a.failed == b.failed].all id
def FldOk (P:Program) (w:World) (d:Nat) (xs ys:Array Value) (f:Field) (r:Bool):Prop :=
 f.name ≠ "_" ∧ ∃ u v, (part f.type xs f.offset).run P w = .ok u w ∧ (part f.type ys f.offset).run P w = .ok v w ∧ (Op.equalIn d f.type u v).run P w = .ok r w
def Zh7 (P:Program) (w:World) (d:Nat) (xs ys:Array Value):List Field→List Bool→Prop
 | [],[]=>True
 | f :: fs,r :: rs=>FldOk P w d xs ys f r∧Zh7 P w d xs ys fs rs
 | _,_=>False
theorem zz6 {P:Program} {w:World} {d:Nat} {xs ys:Array Value}:∀ (fs:List Field) (rs:List Bool),Zh7 P w d xs ys fs rs→(Op.eqFields d xs ys fs).run P w=.ok (rs.all id) w
 | [],[],_=>by simp [Op.eqFields]
 | [],_ :: _,h=>h.elim
 | _ :: _,[],h=>h.elim
 | f :: fs,r :: rs,⟨⟨hn,u,v,h1,h2,h3⟩,h⟩=>by
  have ih:=zz6 fs rs h
  unfold Op.eqFields
  simp only [ne_eq,hn,not_false_iff,if_true,Sem.run_bind,h1,h2,h3,Result.andThen_ok,List.all_cons,id]
  cases r
  ·simp
  ·simp only [Bool.not_true,Bool.false_eq_true,if_false,Bool.true_and]
   exact ih
theorem zt6 {P : Program} {w : World} {d : Nat} {xs ys : Array Value} {f : Field} {k : IntKind} {a b : Int} (hn : f.name ≠ "_") (ht : P.underlying f.type = some (.int k)) (ha : xs[f.offset]? = some (.int k a)) (hb : ys[f.offset]? = some (.int k b)) : FldOk P w (d + 1) xs ys f (a == b) :=
 ⟨hn,_,_,zc3 w ht rfl ha,zc3 w ht rfl hb,run_equalIn_int w d f.type k k a b ht⟩
theorem fld_bool {P : Program} {w : World} {d : Nat} {xs ys : Array Value} {f : Field} {a b : Bool} (hn : f.name ≠ "_") (ht : P.underlying f.type = some .bool) (ha : xs[f.offset]? = some (.bool a)) (hb : ys[f.offset]? = some (.bool b)) : FldOk P w (d + 1) xs ys f (a == b) :=
 ⟨hn,_,_,zc3 w ht rfl ha,zc3 w ht rfl hb,run_equalIn_bool' w d f.type a b ht⟩
theorem zI5 (d:Dn) (w:World):(part 39 (za3 d) 1).run Tryz.prog w=.ok (.agg (za0 d.inst)) w:=by kernel_rfl
theorem zz0 (i k:Ins) (w:World):(Op.equalIn 9999 39 (.agg (za0 i)) (.agg (za0 k))).run Tryz.prog w=.ok (eqB i k) w:=by
 have e : ((Tryz.prog.fieldsOf 39).toList.all fun f => f.name == "_" || zu7 (za0 i)[f.offset]? (za0 k)[f.offset]?) = eqB i k := by kernel_rfl
 rw [run_equalIn_struct w 9998 39 _ _ (by kernel_rfl) (by kernel_rfl),zh0 w 9997 _ (by kernel_rfl),e]
def zC8:List (TypeId × Nat):=[(22,0),(39,1),(3,10),(22,11),(22,12),(22,13),(22,14),(4,15)]
theorem zL1 : (Tryz.prog.fieldsOf 41).toList.map (fun f => (f.type, f.offset)) = zC8 ∧ ((Tryz.prog.fieldsOf 41).toList.all fun f => f.name != "_") = true := ⟨by kernel_rfl, by kernel_rfl⟩
theorem flds_dn (a b : Dn) (w : World) : ∀ fs : List Field, fs.map (fun f => (f.type, f.offset)) = zC8 → (fs.all fun f => f.name != "_") = true →
  Zh7 Tryz.prog w 9999 (za3 a) (za3 b) fs [a.pc == b.pc,eqB a.inst b.inst,a.cause == b.cause,a.val == b.val,a.addr == b.addr,a.read == b.read,a.wrote == b.wrote,a.failed == b.failed]:=by
 intro fs h hn
 have hl:fs.length=8:=by
  have:=congrArg List.length h
  rw [List.length_map] at this
  exact this
 match fs,hl with
 | [f1,f2,f3,f4,f5,f6,f7,f8],_ =>
  simp only [List.map_cons,List.map_nil,zC8,List.cons.injEq,Prod.mk.injEq,and_true] at h
  simp only [List.all_cons,List.all_nil,Bool.and_eq_true,bne_iff_ne,and_true] at hn
  obtain ⟨⟨t1,o1⟩,⟨t2,o2⟩,⟨t3,o3⟩,⟨t4,o4⟩,⟨t5,o5⟩,⟨t6,o6⟩,⟨t7,o7⟩,⟨t8,o8⟩⟩:=h
  obtain ⟨n1,n2,n3,n4,n5,n6,n7,n8⟩:=hn
  refine ⟨zt6 n1 (k:=.u64) (by rw [t1];exact Tryz.underlying22) (by rw [o1];rfl) (by rw [o1];rfl),?_,zt6 n3 (k:=.i64) (by rw [t3];exact Tryz.underlying3) (by rw [o3];rfl) (by rw [o3];rfl),
   zt6 n4 (k:=.u64) (by rw [t4];exact Tryz.underlying22) (by rw [o4];rfl) (by rw [o4];rfl),zt6 n5 (k:=.u64) (by rw [t5];exact Tryz.underlying22) (by rw [o5];rfl) (by rw [o5];rfl),
   zt6 n6 (k:=.u64) (by rw [t6];exact Tryz.underlying22) (by rw [o6];rfl) (by rw [o6];rfl),zt6 n7 (k:=.u64) (by rw [t7];exact Tryz.underlying22) (by rw [o7];rfl) (by rw [o7];rfl),
   fld_bool n8 (by rw [t8];exact Tryz.underlying4) (by rw [o8];rfl) (by rw [o8];rfl),trivial⟩
  refine ⟨n2,_,_,by rw [t2,o2];exact zI5 a w,by rw [t2,o2];exact zI5 b w,by rw [t2];exact zz0 _ _ w⟩
theorem zG7 (a b:Dn) (w:World):(Op.equalIn 10000 41 (.agg (za3 a)) (.agg (za3 b))).run Tryz.prog w=.ok (dnEq a b) w:=by
 rw [run_equalIn_struct w 9999 41 _ _ (by kernel_rfl) (by kernel_rfl),zz6 _ _ (flds_dn a b w _ zL1.1 zL1.2)]
 rfl
theorem zY5 (a b:Dn) (w:World):(binOp .neq 41 (.agg (za3 a)) (.agg (za3 b))).run Tryz.prog w=.ok (.bool (!dnEq a b)) w:=by
 rw [run_neq_struct,zG7];rfl
theorem dnEq_iff (a b:Dn):dnEq a b=true↔a=b:=by
 obtain ⟨p1,i1,c1,v1,a1,r1,w1,f1⟩:=a
 obtain ⟨p2,i2,c2,v2,a2,r2,w2,f2⟩:=b
 unfold dnEq
 simp [Zi7]
theorem Zf5 (a:Dn):dnEq a a=true:=(dnEq_iff a a).2 rfl
open Go.RowKit
section
variable {P:Program} {ops:Array Oper} {Q:Exit→Act→World→Prop} {rest:List Oper} {o:Oper} {a:Act} {w:World}
theorem zD7 {v:Value} (hw:Region.wanted o (yielded ops a.tmps)=true) (hx:(execOp a.eval o).run P w=.ok (.value v) w) (h:wpList P ops Q rest (a.put o.dst v) w):wpList P ops Q (o :: rest) a w :=
 BigFrame.wpList_want hw fun K hK=>by
  unfold Oper.wp
  rw [hx]
  exact hK _ _ h
theorem zr9 {cs:Array Value} {t:TypeId} {g:Nat} (ty:TypeId) (x:Operand) (ho:o.op=.load ty x) (hx:a.eval x=.pointer (some ⟨g,0,none⟩)) (hb:Blk cs t g w) {d:TypeDesc} (hu:P.underlying ty=some d) (hd:(match d with | .struct _ | .array _ _=>true | _=>false)=true)
  (hz:(P.info? ty).map (·.size)=some cs.size):(execOp a.eval o).run P w=.ok (.value (.agg cs)) w:=by
 unfold execOp
 simp only [ho,hx,Instr.loadAt,Instr.sureAddr,Sem.run_bind,Sem.run_pure,Result.andThen_ok,hb.var hu hd hz]
theorem exec_cmp {op:BinOp} {t u:TypeId} {x y:Operand} {xs ys:Array Value} {v:Value} (ho:o.op=.binOp op t x y u) (hm:P.eqGuardType P.depth t=false) (hx:a.eval x=.agg xs) (hy:a.eval y=.agg ys) (h:(binOp op t (.agg xs) (.agg ys)).run P w=.ok v w) :
  (execOp a.eval o).run P w=.ok (.value v) w:=by
 have hg:=run_eqGuard_agg (P:=P) (w:=w) op t x y xs ys hm
 unfold execOp
 simp only [ho,hx,hy,Sem.run_bind,Sem.run_pure,Result.andThen_ok,hg,h]
end
theorem Zb7:Tryz.prog.eqGuardType Tryz.prog.depth 25=false:=by kernel_rfl
theorem two_new (w:World) (h:Hrt) (d:Dn) (hl:h.x.length=32):∃ w4 w5,
  (storeVar 25 ⟨w.heap.size,0,none⟩ (.agg (za2 h))).run Tryz.prog ((w.alloc (.cells (za2 zerH) 25)).alloc (.cells (za3 noDn) 41))=.ok () w4 ∧
  (storeVar 41 ⟨w.heap.size + 1,0,none⟩ (.agg (za3 d))).run Tryz.prog w4=.ok () w5∧Blk (za2 h) 25 w.heap.size w5∧Blk (za3 d) 41 (w.heap.size + 1) w5∧Below w.heap.size w w5:=by
 have b1:Below w.heap.size w (w.alloc (.cells (za2 zerH) 25)):=(Below.refl _ _).alloc (Nat.le_refl _) _
 have z1:(w.alloc (.cells (za2 zerH) 25)).heap.size=w.heap.size + 1:=by simp
 have b2:Below w.heap.size w ((w.alloc (.cells (za2 zerH) 25)).alloc (.cells (za3 noDn) 41)):=b1.alloc (by omega) _
 have c1:=(Blk.new (za2 zerH) 25 w).alloc (.cells (za3 noDn) 41)
 have c2:=Blk.new (za3 noDn) 41 (w.alloc (.cells (za2 zerH) 25))
 rw [z1] at c2
 obtain ⟨w4,e4,b4,k4⟩:=(Has.of c1 (n:=34) rfl).put (P:=Tryz.prog) (za2 h) (zb6 hl) (zg5 h) (ty:=25) (zb3 hl)
 have c3:=c2.far k4 (by omega)
 obtain ⟨w5,e5,b5,k5⟩:=(Has.of c3 (n:=16) rfl).put (P:=Tryz.prog) (za3 d) rfl (zj0 d) (ty:=41) (by kernel_rfl)
 refine ⟨w4,w5,e4,e5,b4.far k5 (by omega),b5,?_⟩
 have b3:Below w.heap.size w w4:=b2.grown k4 (by simp;omega) (fun q hq=>by cases hq;exact Nat.le_refl _)
 exact b3.grown k5 b3.size (fun q hq=>by cases hq;omega)
theorem tgt_nn (i:Ins):0≤tgt i∧tgt i≤31:=by
 unfold tgt regV
 repeat' split
 all_goals omega
theorem zer_x0 {h:Hrt} (hl:h.x.length=32):(zerX h).x.getD 0 0=0:=by
 unfold zerX
 simp [List.getD_eq_getElem?_getD,hl]
theorem zer_id {h:Hrt} (hl:h.x.length=32) (h0:h.x.getD 0 0=0):zerX h=h:=by
 obtain ⟨p,x,c⟩:=h
 unfold zerX
 simp only at *
 congr 1
 match x,hl,h0 with
 | y :: l,_,h0 =>
  have:y=0:=by simpa using h0
  subst this
  rfl
theorem do_x0 {h:Hrt} {d:Dn} {read:Int} {failed:Bool} (h0:h.x.getD 0 0=0):(doH h d read failed).x.getD 0 0=0:=by
 have ht:=tgt_nn d.inst
 unfold doH
 split
 ·simp only
  split
  ·exact h0
  ·rw [List.getD_eq_getElem?_getD,List.getElem?_set_ne (by omega),← List.getD_eq_getElem?_getD]
   exact h0
 ·exact h0
open Go.RowKit
end Go.Proofs.YtmamblgpekafbaaGreatDoor
