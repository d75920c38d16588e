/- Of stage 11. -/
import Derived.Test.YtmamblgpekafbaaGreatDoorQepa
set_option linter.unusedVariables false
set_option maxRecDepth 100000
namespace Go.Proofs.YtmamblgpekafbaaGreatDoor
open Go.RowKit
theorem Zj4 (B:List Int) (h:Hrt):∀ n,(aloK B h n).done.length≤n∧((aloK B h n).h.cause=0→(aloK B h n).done.length=n)∧aloK B h (aloK B h n).done.length=aloK B h n ∧
  ∀ i,i<(aloK B h n).done.length→(aloK B h i).h.cause=0∧(aloK B h n).done[i]?=some (nowD B (aloK B h i))
 | 0=>⟨Nat.le_refl _,fun _=>rfl,rfl,fun i hi=>absurd hi (Nat.not_lt_zero _)⟩
 | n + 1=>by
  obtain ⟨h1,h2,h3,h4⟩:=Zj4 B h n
  by_cases hc:(aloK B h n).h.cause=0
  ·have e:=zv6 hc
   have hl:=h2 hc
   have hd:(aloS B (aloK B h n)).done=(aloK B h n).done ++ [nowD B (aloK B h n)]:=rfl
   have hln:(aloS B (aloK B h n)).done.length=n + 1:=by rw [zM9,hl]
   rw [e,hln]
   refine ⟨Nat.le_refl _,fun _=>rfl,e,fun i hi=>?_⟩
   rw [hd]
   by_cases hin:i<n
   ·have:=h4 i (by omega)
    exact ⟨this.1,by rw [List.getElem?_append_left (by omega)];exact this.2⟩
   ·obtain rfl:i=n:=by omega
    exact ⟨hc,by rw [List.getElem?_append_right (by omega)];simp [hl]⟩
  ·have e:aloK B h (n + 1)=aloK B h n:=zq7 hc 1
   rw [e]
   exact ⟨by omega,fun g=>absurd g hc,h3,h4⟩
theorem zC1 {h:Hrt} {B:List Int} (hw:Wh h) (hb:∀ b ∈ B,0≤b∧b<256):∀ n,zw4 (aloK B h n) B.length∧(aloK B h n).h.x.getD 0 0=0
 | 0=>⟨⟨zR9 hw,rfl,hb⟩,zer_x0 hw.len⟩
 | n + 1=>by
  obtain ⟨h1,h2⟩:=zC1 hw hb n
  by_cases hc:(aloK B h n).h.cause=0
  ·rw [zv6 hc]
   exact ⟨Zp0 h1 rfl,do_x0 h2⟩
  ·rw [show aloK B h (n + 1)=aloK B h n from zq7 hc 1]
   exact ⟨h1,h2⟩
open Go.RowKit
section
variable {P:Program} {ops:Array Oper} {Q:Exit→Act→World→Prop} {md:Region.Mode} {S:World→Prop} {fuel:Nat} {listed:Array Bool} {a:Act} {w:World}
theorem zz7 {o:Oper} {t e:TypeId} {x y:Operand} {g n c sz i:Nat} (ho:o.op=.indexAddr t x y) (hx:a.eval x=.slice (some ⟨g,0,none⟩) n c) (hy:a.eval y=.int .i64 (i:Int)) (hi:i<n) (he:P.underlying t=some (.slice e)) (hs:(sizeOf e).run P w=.ok sz w) :
  (execOp a.eval o).run P w=.ok (.value (.pointer (some ⟨g,i * sz,none⟩))) w:=by
 have hu:P.underlying t=some (.slice (P.elem t)):=by rw [he];simp [Program.elem,he]
 have hz:P.elem t=e:=by simp [Program.elem,he]
 unfold execOp
 simp only [ho,hx,hy,Sem.run_bind,run_indexAt_slice _ _ _ _ _ _ _ hu,hz]
 rw [if_pos ⟨by omega,by omega⟩]
 simp [hs,Addr.add]
 intro e
 omega
theorem zp3 {o:Oper} {ty:TypeId} {x:Operand} {b q:Nat} {cs:List Value} {d:TypeDesc} (ho:o.op=.load ty x) (hx:a.eval x=.pointer (some ⟨b,q,none⟩)) (hc:w.rangeAt b q cs) (hu:P.underlying ty=some d) (hd:d.isRow=true) (hi:(P.info? ty).map (·.size)=some cs.length) :
  (execOp a.eval o).run P w=.ok (.value (.agg cs.toArray)) w:=by
 unfold execOp
 simp only [ho,hx,Sem.run_bind,Sem.run_pure,Result.andThen_ok,run_loadAt_mid w b q ty cs d hc hu hd hi]
theorem zL3 {i:Nat} {oi:Oper} {K:Act→World→Prop} {f:FuncId} {vals:Array Value} {R:Ending→World→Prop} (hi:ops[i]?=some oi) (hg:oi.guard=none)
  (hx : (execOp a.eval oi).run P w = .ok (.enter f vals) w) (hc : Calls P f vals w R) (hk : ∀ e w', R e w' → ∃ v, e = .returned v ∧ K (a.put oi.dst v) w') : wpOp P ops Q i K a w := by
 unfold wpOp
 simp only [hi,zf3 hg,if_true]
 refine .inl ?_
 unfold Oper.wp
 rw [hx,Oper.upon_enter]
 refine hc.mono fun e w' he=>?_
 obtain ⟨v,rfl,h1⟩:=hk e w' he
 exact h1
theorem zf2 {i:Nat} (hr:Region.ready md ops listed=[i]) (hi:wpOp P ops Q i (fun a' w'=>S w'∧wpAnyH P md ops Q S fuel (listed.setIfInBounds i true) a' w') a w):wpAnyH P md ops Q S (fuel + 1) listed a w :=
 wpAnyH_all hr (by simp) fun m hm=>by
  obtain rfl:m=i:=by simpa using hm
  exact hi
theorem ze4 {i:Nat} {oi:Oper} {K:Act→World→Prop} {g n:Nat} {t:TypeId} {ys:Array Value} (hi:ops[i]?=some oi) (gi:oi.guard=none) (di:oi.dst=none) (ty:TypeId) (x y:Operand) (ho:oi.op=.store ty x y) (hx:a.eval x=.pointer (some ⟨g,0,none⟩)) (hy:a.eval y=.agg ys)
  (hz : (P.info? ty).map (·.size) = some ys.size) (hn : ys.size = n) (o1 : ∀ v ∈ ys.toList, v.oneCell' = true) (hh : Has n t g w) (h : ∀ w', Blk ys t g w' → w.grownBy w' (some g) → K a w') : wpOp P ops Q i K a w := by
 have put:∀ (b:Act) (v:Value),b.put none v=b:=fun _ _=>rfl
 unfold wpOp
 simp only [hi,zf3 gi,if_true]
 refine .inl ?_
 obtain ⟨w1,e1,b1,k1⟩:=hh.put (P:=P) ys hn o1 hz
 refine zl6 ho hx hy e1 ?_
 rw [di,put]
 exact h _ b1 k1
end
theorem Zd2 {l:List Dn} {d:Dn}:∀ {i:Nat},l[i]?=some d→∀ j,j<16→(zf4 l)[i * 16 + j]?=(za3 d)[j]?:=by
 induction l with
 | nil=>intro i h;cases h
 | cons x l ih =>
  intro i h j hj
  have e:zf4 (x :: l)=(za3 x).toList ++ zf4 l:=rfl
  have hx:(za3 x).toList.length=16:=rfl
  rw [e]
  cases i with
  | zero =>
   obtain rfl:x=d:=by simpa using h
   rw [List.getElem?_append_left (by omega),Nat.zero_mul,Nat.zero_add]
   simp
  | succ i =>
   rw [List.getElem?_append_right (by omega),hx,show (i + 1) * 16 + j - 16=i * 16 + j by omega]
   exact ih (by simpa using h) j hj
theorem Zm0 {w:World} {base q n c:Nat} {l:List Dn} {d:Dn} {i:Nat} (h:w.ownsRow base 41 16 (.slice (some ⟨q,0,none⟩) n c) n (zf4 l)) (hd:l[i]?=some d) (hi:i<n):∀ j,j<16→w.cell? ⟨q,i * 16 + j,none⟩=(za3 d)[j]?:=fun j hj=>by
 rw [h.cellAt (i * 16 + j) (by omega)]
 exact Zd2 hd j hj
theorem zB1 {w:World} {base q n c:Nat} {l:List Dn} {d:Dn} {i:Nat} (h:w.ownsRow base 41 16 (.slice (some ⟨q,0,none⟩) n c) n (zf4 l)) (hd:l[i]?=some d) (hi:i<n):w.rangeAt q (i * 16) (za3 d).toList:=fun j v hv=>by
 have hj:j<16:=(List.getElem?_eq_some_iff.1 hv).1
 rw [Zm0 h hd hi j hj]
 simpa using hv
section
variable {W w w':World} {h h' f:Hrt} {g k:Nat} {v:Value} {l:List Dn}
end
end Go.Proofs.YtmamblgpekafbaaGreatDoor
