/- Of stage 11. -/
import Derived.Test.YtmamblgpekafbaaGreatDoorQ7pa
set_option linter.unusedVariables false
set_option maxRecDepth 100000
namespace Go.Proofs.YtmamblgpekafbaaGreatDoor
open Go.RowKit
theorem getD_set {l:List Int} {n m:Nat} {v d:Int}:(l.set n v).getD m d=if n=m∧m<l.length then v else l.getD m d:=by
 rw [List.getD_eq_getElem?_getD,List.getD_eq_getElem?_getD,List.getElem?_set]
 by_cases h:n=m
 ·subst h
  by_cases h2:n<l.length
  ·rw [if_pos rfl,if_pos h2,if_pos ⟨rfl,h2⟩];rfl
  ·rw [if_pos rfl,if_neg h2,if_neg (fun g=>h2 g.2),List.getElem?_eq_none (by omega)]
 ·rw [if_neg h,if_neg (fun g=>h g.1)]
theorem wh_set {h:Hrt} (hw:Wh h) (pc:Int) (hp:U64 pc) (k:Nat) (v:Int) (hv:U64 v):Wh ⟨pc,h.x.set k v,h.cause⟩ :=
 ⟨hp,by simp [hw.len],fun r=>by
  show U64 ((h.x.set k v).getD r 0)
  rw [getD_set]
  split
  ·exact hv
  ·exact hw.x r,hw.cause⟩
theorem zR9 {h:Hrt} (hw:Wh h):Wh (zerX h):=wh_set hw h.pc hw.pc 0 0 ⟨by decide,by decide⟩
theorem zU5 {h:Hrt} {B:List Int} (hw:Wh h) (hb:∀ b ∈ B,0≤b∧b<256):I64 (begD h B).inst.op∧(0≤(begD h B).inst.rs1∧(begD h B).inst.rs1≤31)∧(0≤(begD h B).inst.rs2∧(begD h B).inst.rs2≤31)∧U64 (begD h B).pc∧(begD h B).read=0:=by
 by_cases hc:fetC B h.pc=0
 ·have hr:=Zq6 hb hw.pc.1 hc
  rw [zf8 hc]
  have h1:=hr.op
  exact ⟨⟨by show _≤(fetI B h.pc).op;omega,by show (fetI B h.pc).op≤_;omega⟩,hr.rs1,hr.rs2,hw.pc,rfl⟩
 ·rw [zm0 hc]
  have z:I64 za5.op∧(0≤za5.rs1∧za5.rs1≤31)∧(0≤za5.rs2∧za5.rs2≤31):=⟨⟨by decide,by decide⟩,⟨by decide,by decide⟩,⟨by decide,by decide⟩⟩
  exact ⟨z.1,z.2.1,z.2.2,hw.pc,rfl⟩
structure Stj (W:World) (h:Hrt) (g:Nat) (w:World):Prop where
 at0:W.heap.size=g
 bw:BW W w
 hart:Blk (za2 h) 25 g w
 r1:Has 34 25 (g + 1) w
 r2:Has 16 41 (g + 2) w
section
variable {W w w':World} {h:Hrt} {g:Nat}
theorem Stj.on (j:Stj W h g w) (hb:Below w.heap.size w w'):Stj W h g w':=⟨j.at0,j.bw.on hb,j.hart.on hb,j.r1.on hb,j.r2.on hb⟩
theorem Stj.drew (j:Stj W h g w):Stj W h g w.drew:=⟨j.at0,Below.drew j.bw,j.hart.drew,j.r1.drew,j.r2.drew⟩
theorem Stj.sh (j:Stj W h g w) (k:Nat) (v:Value) (h':Hrt) (e:(za2 h).setIfInBounds k v=za2 h'):Stj W h' g (w.setCell ⟨g,k,none⟩ v) :=
 ⟨j.at0,Below.setCell j.bw (by have:=j.at0;show _≤g;omega) v,by have:=j.hart.set k v;rw [e] at this;exact this,j.r1.other (by show g + 1≠g;omega) v,j.r2.other (by show g + 2≠g;omega) v⟩
theorem Stj.put1 (j:Stj W h g w) (hg:w.grownBy w' (some (g + 1))) (hh:Has 34 25 (g + 1) w'):Stj W h g w' :=
 ⟨j.at0,Below.stored j.bw hg (by have:=j.at0;omega) (Below.size j.bw),j.hart.far hg (by omega),hh,j.r2.far hg (by omega)⟩
theorem Stj.put2 (j:Stj W h g w) (hg:w.grownBy w' (some (g + 2))) (hh:Has 16 41 (g + 2) w'):Stj W h g w' :=
 ⟨j.at0,Below.stored j.bw hg (by have:=j.at0;omega) (Below.size j.bw),j.hart.far hg (by omega),j.r1.far hg (by omega),hh⟩
end
theorem stj_new (h:Hrt) (w:World):Stj w h w.heap.size (((w.alloc (.cells (za2 h) 25)).alloc (.cells (za2 ⟨0,List.replicate 32 0,0⟩) 25)).alloc (.cells (za3 noDn) 41)):=by
 have h1:=Blk.new (za2 h) 25 w
 have z1:(w.alloc (.cells (za2 h) 25)).heap.size=w.heap.size + 1:=by simp
 have b1:BW w (w.alloc (.cells (za2 h) 25)):=BW.new (Below.refl _ _) _
 generalize w.alloc (.cells (za2 h) 25)=w2 at *
 have h3:=Blk.new (za2 ⟨0,List.replicate 32 0,0⟩) 25 w2
 rw [z1] at h3
 have z3:(w2.alloc (.cells (za2 ⟨0,List.replicate 32 0,0⟩) 25)).heap.size=w.heap.size + 2:=by simp [z1]
 have b3:=b1.new (.cells (za2 ⟨0,List.replicate 32 0,0⟩) 25)
 have h1:=h1.alloc (.cells (za2 ⟨0,List.replicate 32 0,0⟩) 25)
 generalize w2.alloc (.cells (za2 ⟨0,List.replicate 32 0,0⟩) 25)=w3 at *
 have h4:=Blk.new (za3 noDn) 41 w3
 rw [z3] at h4
 exact ⟨rfl,b3.new _,h1.alloc _,(Has.of h3 (zb6 (by simp))).on (BW.new (Below.refl w3.heap.size w3) _),Has.of h4 rfl⟩
theorem Zo4 {W w1:World} {g:Nat} (h:Hrt) (hl:h.x.length=32) (h1:Has 34 25 g w1) (h2:BW W w1) (hg:W.heap.size≤g) :
  ∃ w2,(storeVar 25 ⟨g,0,none⟩ (.agg (za2 h))).run Tryz.prog w1=.ok () w2∧Blk (za2 h) 25 g w2∧BW W w2∧w1.grownBy w2 (some g):=by
 obtain ⟨w2,e1,e2,e3⟩:=h1.put (P:=Tryz.prog) (za2 h) (zb6 hl) (zg5 h) (ty:=25) (zb3 hl)
 exact ⟨w2,e1,e2,Below.stored h2 e3 hg (Below.size h2),e3⟩
end Go.Proofs.YtmamblgpekafbaaGreatDoor
