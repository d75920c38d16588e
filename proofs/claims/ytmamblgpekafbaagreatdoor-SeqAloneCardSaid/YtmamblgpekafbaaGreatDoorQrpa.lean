/- Of stage 11. -/
import Derived.Test.YtmamblgpekafbaaGreatDoorQppa
import Derived.Test.YtmamblgpekafbaaGreatDoorQqpa
set_option linter.unusedVariables false
set_option maxRecDepth 100000
set_option maxHeartbeats 40000000
namespace Go.Proofs.YtmamblgpekafbaaGreatDoor
open Go.RowKit
structure Rln (W:World) (s:Alo) (n g:Nat) (v9 v10:Value) (w:World):Prop where
 at0:W.heap.size=g
 bw:BW W w
 hart:Blk (za2 s.h) 25 g w
 res:Has 34 25 (g + 1) w
 mem:w.ownsRow (g + 2) 5 1 v9 n (za4 s.mem)
 list:w.ownsRow (g + 2) 41 16 v10 s.done.length (zf4 s.done)
theorem Rln.on {W w w':World} {s:Alo} {n g:Nat} {v9 v10:Value} (a:Rln W s n g v9 v10 w) (hb:Below w.heap.size w w'):Rln W s n g v9 v10 w' :=
 ⟨a.at0,a.bw.on hb,a.hart.on hb,a.res.on hb,zp4 a.mem hb,zp4 a.list hb⟩
theorem Rln.drew {W w:World} {s:Alo} {n g:Nat} {v9 v10:Value} (a:Rln W s n g v9 v10 w):Rln W s n g v9 v10 w.drew:=⟨a.at0,Below.drew a.bw,a.hart.drew,a.res.drew,a.mem,a.list⟩
def RetRl (w:World) (s:Alo) (e:Ending) (w':World):Prop:=∃ A n c v,e=.returned (.tuple #[.agg (za2 s.h),.slice A n c,v])∧s.mem.length=n∧w'.ownsRow w.heap.size 5 1 (.slice A n c) n (za4 s.mem)∧w'.ownsRow w.heap.size 41 16 v s.done.length (zf4 s.done)∧BW w w'
theorem rln_ins {W w:World} {s:Alo} {n g:Nat} {v9 v10:Value} (j:Rln W s n g v9 v10 w) (i:Ins):∃ w1,(storeVar 39 ⟨w.heap.size,0,none⟩ (.agg (za0 i))).run Tryz.prog (w.alloc (.cells (za0 za5) 39))=.ok () w1∧Blk (za0 i) 39 w.heap.size w1∧Rln W s n g v9 v10 w1∧g + 2≤w.heap.size:=by
 obtain ⟨w1,e1,b1,k1⟩:=(Has.of (Blk.new (za0 za5) 39 w) (n:=9) rfl).put (P:=Tryz.prog) (za0 i) rfl (zn2 i) (ty:=39) (by kernel_rfl)
 have hb:Below w.heap.size w w1:=((Below.refl w.heap.size w).alloc (Nat.le_refl _) _).grown k1 (by simp) (fun r hr=>by cases hr;exact Nat.le_refl _)
 exact ⟨w1,e1,b1,j.on hb,j.res.lt⟩
theorem zz3 {w : World} {base n c : Nat} {e : TypeId} {z : Nat} {A : Option Addr} {xs : List Value} (h : w.ownsRow base e z (.slice A n c) n xs) : ∃ A' c', Value.slice A n c = .slice A' n c' ∧ n ≤ c' ∧ c' ≤ maxLen ∧ True := by
 rcases h.2 with ⟨h1, rfl⟩ | ⟨g, c', _, h1, hb, _, h2, h3, _⟩
 ·exact ⟨none,0,h1,Nat.le_refl _,Nat.zero_le _,trivial⟩
 ·exact ⟨_, c', h1, h2, h3, trivial⟩
structure Rli (W:World) (s:Alo) (n g:Nat) (v9 v10:Value) (i:Ins) (gi:Nat) (w:World):Prop where
 a:Rln W s n g v9 v10 w
 ins:Blk (za0 i) 39 gi w
 hi:g + 2≤gi
theorem Rli.on {W w w':World} {s:Alo} {n g gi:Nat} {v9 v10:Value} {i:Ins} (a:Rli W s n g v9 v10 i gi w) (hb:Below w.heap.size w w'):Rli W s n g v9 v10 i gi w':=⟨a.a.on hb,a.ins.on hb,a.hi⟩
theorem Rli.drew {W w:World} {s:Alo} {n g gi:Nat} {v9 v10:Value} {i:Ins} (a:Rli W s n g v9 v10 i gi w):Rli W s n g v9 v10 i gi w.drew:=⟨a.a.drew,a.ins.drew,a.hi⟩
theorem zA8 {w:World} {b1 b2 n1 n2 s1 s2:Nat} {e1 e2:TypeId} {v1 v2:Value} {xs ys:List Value} (h1:w.ownsRow b1 e1 s1 v1 n1 xs) (h2:w.ownsRow b2 e2 s2 v2 n2 ys) (hne:e1≠e2):v1.ownBlock=none∨v1.ownBlock≠v2.ownBlock:=by
 rcases h1.2 with ⟨rfl,_⟩ | ⟨g1,c1,cur1,rfl,_,hg1,_⟩
 ·exact .inl rfl
 ·rcases h2.2 with ⟨rfl,_⟩ | ⟨g2,c2,cur2,rfl,_,hg2,_⟩
  ·exact .inr (by simp [Value.ownBlock])
  ·right
   simp only [Value.ownBlock]
   intro e
   obtain rfl:=Option.some.inj e
   rw [hg1] at hg2
   exact hne (by injection Option.some.inj hg2)
structure Rld (W:World) (s:Alo) (n g:Nat) (v9 v10:Value) (i:Ins) (gi:Nat) (d:Dn) (gd:Nat) (w:World):Prop where
 a:Rli W s n g v9 v10 i gi w
 dn:Blk (za3 d) 41 gd w
 hd:gi<gd
theorem Rld.on {W w w':World} {s:Alo} {n g gi gd:Nat} {v9 v10:Value} {i:Ins} {d:Dn} (a:Rld W s n g v9 v10 i gi d gd w) (hb:Below w.heap.size w w'):Rld W s n g v9 v10 i gi d gd w':=⟨a.a.on hb,a.dn.on hb,a.hd⟩
theorem Rln.same {W w:World} {s t:Alo} {n g:Nat} {v9 v10:Value} (a:Rln W s n g v9 v10 w) (h1:t.h=s.h) (h2:t.mem=s.mem) (h3:t.done=s.done):Rln W t n g v9 v10 w :=
 ⟨a.at0,a.bw,by rw [h1];exact a.hart,a.res,by rw [h2];exact a.mem,by rw [h3];exact a.list⟩
theorem Rld.put {W w w' : World} {s : Alo} {n g gi gd : Nat} {v9 v10 : Value} {i : Ins} {d : Dn} {h' : Hrt} (a : Rld W s n g v9 v10 i gi d gd w) (b : Blk (za2 h') 25 g w') (k : w.grownBy w' (some g)) : Rld W ⟨h', s.mem, s.ra, s.rs, s.done⟩ n g v9 v10 i gi d gd w' := by
 have h0:=a.a.a.at0
 have h1:=a.a.hi
 have h2:=a.hd
 exact ⟨⟨⟨h0,Below.stored a.a.a.bw k (by omega) (Below.size a.a.a.bw),b,a.a.a.res.far k (by omega),a.a.a.mem.kept k (.inr fun e=>by have:=(a.a.a.mem.lt _ e).1;omega),a.a.a.list.kept k (.inr fun e=>by have:=(a.a.a.list.lt _ e).1;omega)⟩,a.a.ins.far k (by omega),h1⟩,a.dn.far k (by omega),h2⟩
theorem Rld.app {W w w':World} {s:Alo} {n g gi gd m:Nat} {v9 v10 v':Value} {i:Ins} {d e:Dn} {o:Obj} {xs:List Value} (a:Rld W s n g v9 v10 i gi d gd w) (hl:∀ b,v10.ownBlock=some b→b<gi)
  (hn:m=s.done.length + 1) (hx:xs=zf4 s.done ++ (za3 e).toList) (ho:w'.ownsRow (g + 2) 41 16 v' m xs) (hg:(w.alloc o).grownBy w' v10.ownBlock) :
  Rld W ⟨s.h,s.mem,s.ra,s.rs,s.done ++ [e]⟩ n g v9 v' i gi d gd w':=by
 have h0:=a.a.a.at0
 have h1:=a.a.hi
 have h2:=a.hd
 have hlow:∀ b,v10.ownBlock=some b→g + 2≤b∧b<gi:=fun b e=>⟨(a.a.a.list.lt _ e).1,hl _ e⟩
 have hb:BW W w':=Below.grown (BW.new a.a.a.bw o) hg (by have:=Below.size a.a.a.bw;simp;omega) (fun q hq=>by have:=hlow q hq;omega)
 have ne:∀ k,k<g + 2∨gi≤k→v10.ownBlock≠some k:=fun k hk e=>by have:=hlow k e;omega
 have ha:=zA8 a.a.a.mem a.a.a.list (by decide)
 subst hn
 subst hx
 refine ⟨⟨⟨h0,hb,(a.a.a.hart.alloc o).heldB hg (ne _ (by omega)),?_,(a.a.a.mem.alloc o).kept hg ha,?_⟩,(a.a.ins.alloc o).heldB hg (ne _ (by omega)),h1⟩,(a.dn.alloc o).heldB hg (ne _ (by omega)),h2⟩
 ·exact (a.a.a.res.on (BW.new (Below.refl w.heap.size w) o)).kept hg (ne _ (by omega))
 ·show World.ownsRow _ _ _ _ _ (s.done ++ [e]).length _
  rw [zr4,zz5,List.length_append]
  exact ho
theorem zX0 {B:List Int} {s:Alo} (h:(nowD B s).cause≠0):(nowH B s).cause≠0:=by
 have hb:(begD s.h B).cause≠0:=by
  intro g
  apply h
  unfold nowD doD
  rw [if_pos g]
  exact g
 unfold nowH doH
 rw [if_neg hb]
 exact hb
theorem Zn9 {B:List Int} {s:Alo} (h:(nowD B s).cause=0):(begD s.h B).cause=0:=by
 apply Classical.byContradiction
 intro g
 unfold nowD doD at h
 rw [if_neg g] at h
 exact g h
theorem zF4 (h:Hrt) (B:List Int):(begD h B).inst=fetI B h.pc:=by
 by_cases hc:fetC B h.pc=0
 ·rw [zf8 hc]
 ·rw [zm0 hc];unfold fetI;rw [if_neg hc]
theorem reach_go {h:Hrt} {B:List Int} (hc:(begD h B).cause=0):reaA (begD h B)=adrV (fetI B h.pc).op (fetI B h.pc).imm (xAt h (fetI B h.pc).rs1)∧reaS (begD h B)=siz (fetI B h.pc).op:=by
 unfold reaA reaS
 rw [if_pos hc,if_pos hc,zF4]
 refine ⟨?_,rfl⟩
 by_cases hf:fetC B h.pc=0
 ·rw [zf8 hf]
 ·rw [zm0 hf] at hc
  exact absurd hc hf
theorem now_fail {s:Alo} {B:List Int} (hc:s.h.cause=0) (hx:zerX s.h=s.h) {r:Int} {f:Bool} (e:stpD s.h B r f=nowD B s) (hz:(nowD B s).cause=0) (h11:srt (fetI B s.h.pc).op=11):(nowD B s).failed=f:=by
 have hb:=Zn9 hz
 rw [← e,(Zn7 hc hx r f).1]
 unfold doD
 rw [if_pos hb]
 show faiB _ _=f
 unfold faiB
 rw [zF4,decide_eq_true h11,Bool.and_true]
theorem Rld.byte {W w : World} {s : Alo} {n g gm c gi gd an j : Nat} {v10 : Value} {i : Ins} {d : Dn} {bs : List Int} {h' : Hrt} {a b : Int} {l : List Dn} (r : Rld W ⟨h', putM s.mem an (bs.take j), a, b, l⟩ n g (.slice (some ⟨gm, 0, none⟩) n c) v10 i gi d gd w) (hl : s.mem.length = n) (hj : j < bs.length) (ha : an + bs.length ≤ n) (hgm : gm < gi) :
  Rld W ⟨h', putM s.mem an (bs.take (j + 1)), a, b, l⟩ n g (.slice (some ⟨gm, 0, none⟩) n c) v10 i gi d gd (w.setCell ⟨gm, an + j, none⟩ (.int .u8 bs[j])) := by
 have h0:=r.a.a.at0
 have h1:=r.a.hi
 have h2:=r.hd
 have hlo:=(r.a.a.mem.lt gm rfl).1
 obtain ⟨ho,hk⟩:=r.a.a.mem.stored (an + j) (.int .u8 bs[j])
 have hx:(za4 (putM s.mem an (bs.take j))).set (an + j) (.int .u8 bs[j])=za4 (putM s.mem an (bs.take (j + 1))):=by
  unfold za4
  rw [← put_one hj (by omega),List.map_set]
 rw [hx] at ho
 have hap:=zA8 r.a.a.list r.a.a.mem (by decide)
 exact ⟨⟨⟨h0,Below.setCell r.a.a.bw (by show _≤gm;omega) _,r.a.a.hart.other (by show g≠gm;omega) _,r.a.a.res.other (by show g + 1≠gm;omega) _,ho,r.a.a.list.kept hk hap⟩,r.a.ins.other (by show gi≠gm;omega) _,h1⟩,r.dn.other (by show gd≠gm;omega) _,h2⟩
theorem mem_halt {B:List Int} {s:Alo} (h:(nowD B s).cause≠0):(aloS B s).mem=s.mem:=by
 have hb:(begD s.h B).cause≠0:=by
  intro g
  apply h
  unfold nowD doD
  rw [if_pos g]
  exact g
 show nowM B s=s.mem
 unfold nowM
 split
 ·unfold reaA reaS
  rw [if_neg hb,if_neg hb]
  exact zK8
 ·rfl
theorem rof_part {w:World} {base gm n c c2:Nat} {M:List Int} (h:w.ownsRow base 5 1 (.slice (some ⟨gm,0,none⟩) n c) n (za4 M)) (hl:M.length=n) (hn:n≤1024) (hb:∀ b ∈ M,0≤b∧b<256) (a z:Nat) (haz:a + z≤n) :
  Calls Tryz.prog 21 #[.slice (some ⟨gm,a,none⟩) z c2] w fun e w'=>e=.returned (.int .u64 (numM M a z))∧w=w':=by
 have hz:((M.drop a).take z).length=z:=by rw [List.length_take,List.length_drop];omega
 have g:=Zo8 (some ⟨gm,a,none⟩) c2 ((M.drop a).take z) w (by rw [hz];omega) (fun x hx=>hb x (List.mem_of_mem_drop (List.mem_of_mem_take hx))) (.inr ⟨gm,a,rfl,(h.lt gm rfl).2,fun i v hv=>by
  have hi:i<z:=by
   have:=(List.getElem?_eq_some_iff.1 hv).1
   rw [← hz]
   simpa [za4] using this
  have h1:=h.cellAt (a + i) (by omega)
  rw [h1,← hv]
  unfold za4
  rw [List.getElem?_map,List.getElem?_map,List.getElem?_take,if_pos hi,List.getElem?_drop]⟩)
 rw [hz] at g
 exact g
theorem whr_in {op ad:Int} {n:Nat} (hs:0<siz op) (h:whrV op ad n=0):ad + siz op≤n:=by
 unfold whrV at h
 rw [if_neg (by omega)] at h
 by_cases h1:ad % siz op=0
 ·rw [if_neg (by omega)] at h
  by_cases h2:(n:Int)<ad + siz op
  ·rw [if_pos h2] at h;omega
  ·omega
 ·rw [if_pos h1] at h;omega
theorem ralone_c (h : Hrt) (A : Option Addr) (cap : Nat) (B : List Int) (most : Int) (w : World) (hi : ImgAt w A cap B) (hA : A = none → cap = 0) (hw : Wh h) (hm : most ≤ 100000) :
  Calls Tryz.prog 6 #[.agg (za2 h),.slice A B.length cap,.int .i64 most] w (RetRl w (aloK B h most.toNat)):=by
 obtain ⟨i0,gi,gz0,gz1,gz2⟩:=info_parts Tryz.info5
 obtain ⟨j0,ji,jz0,jz1,jz2⟩:=info_parts Zg4
 have HC1:=zl4 hw.len (r:=0) (by omega)
 have HZ:Hid ((za2 h).setIfInBounds 1 (.int .u64 0)=za2 (zerX h)):=zl8 hw.len (r:=0) (by omega) 0
 have H1:=Blk.new (za2 h) 25 w
 have z1:(w.alloc (.cells (za2 h) 25)).heap.size=w.heap.size + 1:=by simp
 have b1:BW w (w.alloc (.cells (za2 h) 25)):=BW.new (Below.refl _ _) _
 have HA:Hid (Blk (za2 h) 25 w.heap.size ((w.alloc (.cells (za2 h) 25)).alloc (.cells #[.int .u64 0,.int .u64 0,.int .u64 0,.int .u64 0,.int .u64 0,.int .u64 0,.int .u64 0,.int .u64 0,.int .u64 0,.int .u64 0,.int .u64 0,.int .u64 0,.int .u64 0,.int .u64 0,.int .u64 0,.int .u64 0,.int .u64 0,.int .u64 0,.int .u64 0,.int .u64 0,.int .u64 0,.int .u64 0,.int .u64 0,.int .u64 0,.int .u64 0,.int .u64 0,.int .u64 0,.int .u64 0,.int .u64 0,.int .u64 0,.int .u64 0,.int .u64 0,.int .u64 0,.int .i64 0] 25))):=H1.alloc _
 have HB:Hid (Has 34 25 (w.heap.size + 1) ((w.alloc (.cells (za2 h) 25)).alloc (.cells #[.int .u64 0,.int .u64 0,.int .u64 0,.int .u64 0,.int .u64 0,.int .u64 0,.int .u64 0,.int .u64 0,.int .u64 0,.int .u64 0,.int .u64 0,.int .u64 0,.int .u64 0,.int .u64 0,.int .u64 0,.int .u64 0,.int .u64 0,.int .u64 0,.int .u64 0,.int .u64 0,.int .u64 0,.int .u64 0,.int .u64 0,.int .u64 0,.int .u64 0,.int .u64 0,.int .u64 0,.int .u64 0,.int .u64 0,.int .u64 0,.int .u64 0,.int .u64 0,.int .u64 0,.int .i64 0] 25))):=by
  have:=Has.of (Blk.new (za2 ⟨0,List.replicate 32 0,0⟩) 25 (w.alloc (.cells (za2 h) 25))) (n:=34) (zb6 (by simp))
  rw [z1] at this
  exact this
 have HW:Hid (BW w ((w.alloc (.cells (za2 h) 25)).alloc (.cells #[.int .u64 0,.int .u64 0,.int .u64 0,.int .u64 0,.int .u64 0,.int .u64 0,.int .u64 0,.int .u64 0,.int .u64 0,.int .u64 0,.int .u64 0,.int .u64 0,.int .u64 0,.int .u64 0,.int .u64 0,.int .u64 0,.int .u64 0,.int .u64 0,.int .u64 0,.int .u64 0,.int .u64 0,.int .u64 0,.int .u64 0,.int .u64 0,.int .u64 0,.int .u64 0,.int .u64 0,.int .u64 0,.int .u64 0,.int .u64 0,.int .u64 0,.int .u64 0,.int .u64 0,.int .i64 0] 25))):=b1.new _
 have HSZ:Hid (((w.alloc (.cells (za2 h) 25)).alloc (.cells #[.int .u64 0,.int .u64 0,.int .u64 0,.int .u64 0,.int .u64 0,.int .u64 0,.int .u64 0,.int .u64 0,.int .u64 0,.int .u64 0,.int .u64 0,.int .u64 0,.int .u64 0,.int .u64 0,.int .u64 0,.int .u64 0,.int .u64 0,.int .u64 0,.int .u64 0,.int .u64 0,.int .u64 0,.int .u64 0,.int .u64 0,.int .u64 0,.int .u64 0,.int .u64 0,.int .u64 0,.int .u64 0,.int .u64 0,.int .u64 0,.int .u64 0,.int .u64 0,.int .u64 0,.int .i64 0] 25)).heap.size=w.heap.size + 2):=by show _=_;simp
 clear H1 z1 b1
 go_enter Tryz.func6,Tryz.ntmps6
 go_upto_region 1 with (fail)
 generalize ((w.alloc _).alloc _)=w0 at *
 obtain ⟨g,hg⟩:∃ g,w.heap.size=g:=⟨_,rfl⟩
 rw [hg] at HA HB HSZ ⊢
 have HG:=Lib.hid hg
 clear hg
 have q1:=(HA.out.cell (1 + 0)).trans HC1
 have f1:=HA.out.free 1
 rw [show 1 + 0=1 from rfl] at q1
 go_upto_region 2 with (fail)
 have HA2:Hid (Blk (za2 (zerX h)) 25 g (w0.setCell ⟨g,1,none⟩ (.int .u64 0))):=by
  have:=HA.out.set 1 (.int .u64 0)
  rw [HZ.out] at this
  exact this
 have HB2:=Lib.hid (HB.out.other (a:=⟨g,1,none⟩) (by show g + 1≠g;omega) (.int .u64 0))
 have HW2:Hid (BW w (w0.setCell ⟨g,1,none⟩ (.int .u64 0))):=Below.setCell HW.out (by have:=HG.out;show _≤g;omega) _
 have HS2:Hid ((w0.setCell ⟨g,1,none⟩ (.int .u64 0)).heap.size=g + 2):=by show _=_;rw [← HSZ.out];simp
 clear q1 f1 HA HB HW HSZ HZ HC1
 generalize w0.setCell _ _=w1 at *
 obtain ⟨n,hn⟩:∃ n,B.length=n:=⟨_,rfl⟩
 have HNE:=Lib.hid hn
 rw [hn]
 clear hn
 go_upto_region 3 with (fail)
 have HBL:Hid (Below (g + 2) w1 w1):=Lib.hid (Below.refl _ _)
 go_cut [9] from 26 to 28 (fun s9 wx => ∃ A' c', s9 = .slice A' n c' ∧ Hid (Rln w (aloK B h 0) n g s9 (.slice none 0 0) wx))
 case first =>
  have hlB:(za4 B).length=n:=by rw [← HNE.out];simp [za4]
  cases A with
  | none =>
   have hc0:cap=0:=hA rfl
   have hn0:n=0:=by
    rcases Nat.eq_zero_or_pos n with h0 | h0
    ·exact h0
    ·obtain ⟨ad,e,_⟩:=zO6 hi (by rw [hlB];exact h0)
     cases e
   have HR:Hid (Rln w (aloK B h 0) n g (.slice none 0 0) (.slice none 0 0) w1):=by
    refine ⟨HG.out,HW2.out,HA2.out,HB2.out,?_,World.ownsRow_nil _ _ _ _⟩
    have hb0:za4 B=[]:=List.eq_nil_of_length_eq_zero (by rw [hlB];exact hn0)
    show w1.ownsRow _ _ 1 _ n (za4 B)
    rw [hn0,hb0]
    exact World.ownsRow_nil _ _ _ _
   subst hc0
   subst hn0
   clear HA2 HB2 HW2 HS2 hlB
   go_wp2_with (at_builtin;refine wpList_append_own_none _ rfl _ _ 26 rfl (g + 2) 5 i0 1 Tryz.underlying26 gi _ 0 [] rfl (World.ownsRow_nil _ _ _ _) rfl ?_)
   go_meet
   case rel=>exact ⟨_,_,rfl,HR⟩
  | some ad =>
   have hI1:=hi.on HW2.out
   have hnw:Hid (∀ j u,(za4 B)[j]?=some u→w1.cell? (ad.add j)=some u):=by
    intro j u hj
    have hp:0<(za4 B).length:=by
     have:=(List.getElem?_eq_some_iff.1 hj).1
     omega
    obtain ⟨ad', e, hc⟩ := zO6 hI1 hp
    cases e
    exact hc j u hj
   have hsz:=HS2.out
   have hn1:n≤1024:=by have:=hi.2.2.1;have:=HNE.out;omega
   have HLB:=Lib.hid hlB
   clear hlB
   go_wp2_with (at_builtin;refine wpList_append_own _ rfl _ _ 26 rfl (g + 2) 5 i0 (.int .u8 0) 1 1 Tryz.underlying26 gi gz0 gz1 gz2 rfl (by decide) _ 0 [] rfl (World.ownsRow_nil _ _ _ _) ad n cap (za4 B) rfl (by rw [HLB.out];omega) hnw.out (zl1 B) (by unfold maxLen;omega) (by omega) (by omega) ?_;intro v9 w2 hown hgrow _)
   have HR:Hid (Rln w (aloK B h 0) n g v9 (.slice none 0 0) w2):=by
    have hk2:Below (g + 2) w1 w2:=Below.grown (Below.refl _ _) hgrow (by omega) (fun _ h=>by cases h)
    refine ⟨HG.out,Below.trans HW2.out (hk2.mono (by have:=HW2.out.size;omega)),HA2.out.within hk2 (by omega),?_,?_,World.ownsRow_nil _ _ _ _⟩
    ·obtain ⟨cs,e1,e2⟩:=HB2.out
     exact ⟨cs,e1,e2.within hk2 (by omega)⟩
    ·rw [Nat.zero_add,List.nil_append] at hown
     exact hown
   obtain ⟨A', c', rfl⟩ := zv8 HR.out.mem
   clear HA2 HB2 HW2 HS2 hown hgrow
   go_wp2
   go_meet
   case rel=>exact ⟨_,_,rfl,HR⟩
 case rest =>
  obtain ⟨A9,c9,rfl,HR0⟩:=hcut
  clear HA2 HB2 HW2 HS2 HBL
  generalize hw3:wc=w3 at *
  clear hw3
  have hm1:¬ (100000:Int)<most:=by omega
  have HIM:=Lib.hid hi
  have HWH:=Lib.hid hw
  have HAT:Hid ((aloK B h 0).h.cause=0→AtR (aloK B h 0) (-1) 0):=fun _=>.inl ⟨rfl,rfl,rfl⟩
  have HOK0:Hid (zw4 (aloK B h 0) n):=⟨zR9 hw,HNE.out,hi.2.1⟩
  have hmN:most.toNat≤100000:=by omega
  go_wp2
  go_loopg [10,11,12,13] most.toNat (fun gg v10 v11 v12 v13 wr=>∃ (k:Nat) (a z:Int),k + gg=most.toNat∧v13=.int .i64 k∧v11=.int .i64 a∧v12=.int .i64 z∧Hid ((aloK B h k).done.length=k)∧Hid (zw4 (aloK B h k) n)∧Hid ((aloK B h k).h.cause=0→AtR (aloK B h k) a z)∧Hid (Rln w (aloK B h k) n g (.slice A9 n c9) v10 wr))
  case atStart=>exact ⟨0,-1,0,by omega,rfl,rfl,rfl,(show Hid _ from rfl),HOK0,HAT,HR0⟩
  case round =>
   clear HR0 HOK0 HAT
   obtain ⟨k,a,z,hk,rfl,rfl,rfl,HDL,HOK,HAT,HR⟩:=hrel
   obtain ⟨w5,rfl⟩:∃ w5:World,w5=wr:=⟨_,rfl⟩
   obtain ⟨gK,rfl⟩:∃ x:Nat,x=gk:=⟨_,rfl⟩
   have HK:=Lib.hid hk
   have hk1:k≤100000:=by omega
   clear hk
   have q33:=(HR.out.hart.cell 33).trans (zg3 HOK.out.h.len)
   by_cases hgo:(aloK B h k).h.cause=0∧(k:Int)<most
   ·obtain ⟨hc0,hkm⟩:=hgo
    have HNX:=Lib.hid (zv6 hc0)
    have hb0:((aloK B h k).h.cause == 0)=true:=by simpa using hc0
    have hsw:=HOK.out.h
    have hbo:=zU5 (B:=B) hsw hi.2.1
    have hx0:zerX (aloK B h k).h=(aloK B h k).h:=zer_id hsw.len (zC1 hw hi.2.1 k).2
    have hat:=HAT.out hc0
    have hre:=zB8 (B:=B) hsw
    have KF:=fun x (hx:BW w x)=>zS3 A cap B (aloK B h k).h.pc x (hi.on hx) hsw.pc
    have KSP:=fun (r:Int) (f:Bool) (hr:U64 r) x (hx:BW w x)=>rstep_c (aloK B h k).h A cap B r f x (hi.on hx) hsw hr hc0
    have HY:=Lib.hid (fun g1 g2 g3=>Ze1 (B:=B) hc0 hx0 hat g1 g2 g3)
    have HNO:=Lib.hid (fun g1=>alone_no (B:=B) hc0 hx0 g1)
    have HAN:=Lib.hid (at_next (B:=B) hat (by rcases hre with g | g <;> omega))
    have hop:I64 (fetI B (aloK B h k).h.pc).op:=by
     have hb:=hbo.1
     by_cases hc:fetC B (aloK B h k).h.pc=0
     ·rw [zf8 (h:=(aloK B h k).h) hc] at hb;exact hb
     ·have:fetI B (aloK B h k).h.pc=za5:=by unfold fetI;rw [if_neg hc]
      rw [this];exact ⟨by decide,by decide⟩
    have hrs:0≤(fetI B (aloK B h k).h.pc).rs1∧(fetI B (aloK B h k).h.pc).rs1≤31:=by
     have hb:=hbo.2.1
     by_cases hc:fetC B (aloK B h k).h.pc=0
     ·rw [zf8 (h:=(aloK B h k).h) hc] at hb;exact hb
     ·have:fetI B (aloK B h k).h.pc=za5:=by unfold fetI;rw [if_neg hc]
      rw [this];exact ⟨by decide,by decide⟩
    have HX1:=Lib.hid (zl4 hsw.len (r:=(fetI B (aloK B h k).h.pc).rs1.toNat) (by omega))
    have hxu:=hsw.x (fetI B (aloK B h k).h.pc).rs1.toNat
    have KAD:=fun x=>zu6 (fetI B (aloK B h k).h.pc) (xAt (aloK B h k).h (fetI B (aloK B h k).h.pc).rs1) hop x
    have KWH:=fun x=>zP9 (fetI B (aloK B h k).h.pc).op (adrV (fetI B (aloK B h k).h.pc).op (fetI B (aloK B h k).h.pc).imm (xAt (aloK B h k).h (fetI B (aloK B h k).h.pc).rs1)) n hop (Ze0 _ _ hxu) ⟨by omega,by have:=hi.2.2.1;have:=HNE.out;omega⟩ x
    have KS:=fun x=>zf0 (fetI B (aloK B h k).h.pc).op hop.1 hop.2 x
    have KZ:=fun x=>zg9 (fetI B (aloK B h k).h.pc).op hop.1 hop.2 x
    unfold insV at KAD
    unfold RetF insV at KF
    have HADU:Hid (U64 (adrV (fetI B (aloK B h k).h.pc).op (fetI B (aloK B h k).h.pc).imm (xAt (aloK B h k).h (fetI B (aloK B h k).h.pc).rs1))):=Ze0 _ _ hxu
    have HIN:=Lib.hid (fun g1 g2=>@whr_in (fetI B (aloK B h k).h.pc).op (adrV (fetI B (aloK B h k).h.pc).op (fetI B (aloK B h k).h.pc).imm (xAt (aloK B h k).h (fetI B (aloK B h k).h.pc).rs1)) n g1 g2)
    have HNU:=Lib.hid (fun a z=>num_U HOK.out.byts a z)
    have hnw:Wh (nowH B (aloK B h k)):=do_wh hsw _ (zx0 _ _) _ _
    have HNW:=Lib.hid hnw
    have hXL:=hsw.len
    have HXL:=Lib.hid hXL
    clear hnw hXL
    have HE:Hid (∀ (a' z':Int) (v:Value) (wr:World),Rln w (aloS B (aloK B h k)) n g (.slice A9 n c9) v wr→((aloS B (aloK B h k)).h.cause=0→AtR (aloS B (aloK B h k)) a' z')→∃ (k':Nat) (a z:Int),k' + (gK - 1)=most.toNat∧Value.int .i64 ((k:Int) + 1)=.int .i64 k'∧Value.int .i64 a'=.int .i64 a∧Value.int .i64 z'=.int .i64 z∧Hid ((aloK B h k').done.length=k')∧Hid (zw4 (aloK B h k') n)∧Hid ((aloK B h k').h.cause=0→AtR (aloK B h k') a z)∧Hid (Rln w (aloK B h k') n g (.slice A9 n c9) v wr)):=by
     intro a' z' v wr ha hq
     refine ⟨k + 1, a', z', by have := HK.out; omega, rfl, rfl, rfl, ?_, ?_, ?_, ?_⟩
     ·show _=_
      rw [HNX.out,zM9,HDL.out]
     ·show zw4 _ _
      rw [HNX.out]
      exact Zp0 HOK.out HNE.out
     ·show _→_
      rw [HNX.out]
      exact hq
     ·show Rln _ _ _ _ _ _ _
      rw [HNX.out]
      exact ha
    have HRG:=Lib.hid (fun g1=>reach_go (B:=B) (h:=(aloK B h k).h) g1)
    have HFL:=Lib.hid (fun r f e z h11=>now_fail (B:=B) (r:=r) (f:=f) hc0 hx0 e z h11)
    have HRE:=Lib.hid hre
    have hZW:=zk5 (fetI B (aloK B h k).h.pc).op
    have HII:=Lib.hid (zb3 hsw.len)
    have HP:Hid ((za2 (aloK B h k).h)[0]?=some (.int .u64 (aloK B h k).h.pc)):=zu3 _
    rw [HNE.out] at KF KSP HY HNO
    have q0:=(HR.out.hart.cell 0).trans HP.out
    generalize hsv:aloK B h k=s at *
    have HSV:=Lib.hid hsv
    clear hsv hbo hx0
    generalize hfi:fetI B s.h.pc=fi at *
    have HFI:=Lib.hid hfi
    clear hfi
    generalize fetC B s.h.pc=fc at *
    go_upto_region 12 with (first
     | (go_at_call 17;refine (KF _ HR.out.bw).mono ?_;rintro e w6 ⟨rfl,hb⟩;have HR6:=HR.out.on hb;clear hb;obtain ⟨w7,e7,b7,HR7,hg7⟩:=rln_ins HR6 fi)
     | (refine zc4 (o:=⟨none,.store _ (.tmp 14) (.tmp 46),_,_,_,_⟩) rfl 39 (.tmp 14) (.tmp 46) rfl rfl rfl e7 ?_))
    have HL9:Hid (∀ b,Value.ownBlock (.slice A9 n c9)=some b→b<w6.heap.size):=fun b e=>(HR6.mem.lt _ e).2
    have HL10:Hid (∀ b,Value.ownBlock u10=some b→b<w6.heap.size):=fun b e=>(HR6.list.lt _ e).2
    have RI:Rli w s n g (.slice A9 n c9) u10 fi w6.heap.size w7:=⟨HR7,b7,hg7⟩
    clear e7 HR6 HR7 b7 hg7 HR KF q0 q33
    generalize w6.heap.size=gi at *
    have c0:w7.cell? ⟨gi,0,none⟩=some (.int .i64 fi.op):=RI.ins.cell 0
    go_upto_region 13 with (first
     | (go_at_call 18;refine (KZ _).mono ?_;rintro e w8 ⟨rfl,hb⟩;have RI8:=RI.on hb;clear hb))
    clear RI c0 KZ
    have RJ:=RI8.drew
    clear RI8
    refine zk1 (fun x=>Rli w s n g (.slice A9 n c9) u10 fi gi x) 6 (by kernel_rfl) ?_
    change zh5 _ _ _ _ _ _ _ _ _ (World.drew _)
    generalize World.drew _=w9 at *
    refine zA1 (i:=0) (oi:=⟨some 51,.load _ _,_,_,_,_⟩) [6] (.agg #[.int .i64 fi.op,.int .i64 fi.rd,.int .i64 fi.rs1,.int .i64 fi.rs2,.int .i64 fi.imm,.bool fi.aq,.bool fi.rl,.int .i64 fi.pred,.int .i64 fi.succ]) rfl (by kernel_rfl) (by kernel_rfl) (by kernel_rfl) (by kernel_rfl) (by kernel_rfl) rfl (fun _ _ _ h=>h) (by kernel_rfl) (fun x hx=>Hz.ex_load_all _ _ rfl rfl hx.ins Tryz.underlying39 rfl (by kernel_rfl)) RJ ?_
    simp only [Act.put,List.setIfInBounds_toArray,List.set_cons_zero,List.set_cons_succ]
    refine zA1 (i:=1) (oi:=⟨some 52,.fieldAddr _ _ _,_,_,_,_⟩) [2,4,5,6] (.pointer (some ⟨gi,2,none⟩)) rfl (by kernel_rfl) (by kernel_rfl) (by kernel_rfl) (by kernel_rfl) (by kernel_rfl) rfl (fun _ _ _ h=>h) (by kernel_rfl) (fun _ _=>by kernel_rfl) RJ ?_
    simp only [Act.put,List.setIfInBounds_toArray,List.set_cons_zero,List.set_cons_succ]
    refine zA1 (i:=2) (oi:=⟨some 53,.load _ _,_,_,_,_⟩) [4,5,6] (.int .i64 fi.rs1) rfl (by kernel_rfl) (by kernel_rfl) (by kernel_rfl) (by kernel_rfl) (by kernel_rfl) rfl (fun _ _ _ h=>h) (by kernel_rfl) (fun x hx=>zb8 rfl rfl (hx.ins.cell 2) (by kernel_rfl)) RJ ?_
    simp only [Act.put,List.setIfInBounds_toArray,List.set_cons_zero,List.set_cons_succ]
    refine zA1 (i:=3) (oi:=⟨some 54,.fieldAddr _ _ _,_,_,_,_⟩) [4,5,6] (.pointer (some ⟨g,1,none⟩)) rfl (by kernel_rfl) (by kernel_rfl) (by kernel_rfl) (by kernel_rfl) (by kernel_rfl) rfl (fun _ _ _ h=>h) (by kernel_rfl) (fun _ _=>by kernel_rfl) RJ ?_
    simp only [Act.put,List.setIfInBounds_toArray,List.set_cons_zero,List.set_cons_succ]
    refine zA1 (i:=4) (oi:=⟨some 55,.indexAddr _ _ _,_,_,_,_⟩) [5,6] (.pointer (some ⟨g,1 + fi.rs1.toNat,none⟩)) rfl (by kernel_rfl) (by kernel_rfl) (by kernel_rfl) (by kernel_rfl) (by kernel_rfl) rfl (fun _ _ _ h=>h) (by kernel_rfl) (fun _ _=>zk9 (n:=32) rfl rfl rfl (by omega) (by omega) Tryz.underlying23 (by kernel_rfl)) RJ ?_
    simp only [Act.put,List.setIfInBounds_toArray,List.set_cons_zero,List.set_cons_succ]
    refine zA1 (i:=5) (oi:=⟨some 56,.load _ _,_,_,_,_⟩) [6] (.int .u64 (xAt s.h fi.rs1)) rfl (by kernel_rfl) (by kernel_rfl) (by kernel_rfl) (by kernel_rfl) (by kernel_rfl) rfl (fun _ _ _ h=>h) (by kernel_rfl) (fun x hx=>zb8 rfl rfl ((hx.a.hart.cell _).trans HX1.out) (by kernel_rfl)) RJ ?_
    simp only [Act.put,List.setIfInBounds_toArray,List.set_cons_zero,List.set_cons_succ]
    refine hp_last (i:=6) (oi:=⟨some 57,.call _,_,_,_,_⟩) (by kernel_rfl) rfl (by kernel_rfl) (by kernel_rfl) ?_
    refine Hz.wp_call (by first | rfl | kernel_rfl) (KAD _) ?_
    rintro e w10 ⟨rfl,hb⟩
    have RI10:=RJ.on hb
    clear hb
    refine ⟨_,rfl,?_⟩
    simp only [Act.put,List.setIfInBounds_toArray,List.set_cons_zero,List.set_cons_succ]
    refine zp7 (i:=7) (oi:=⟨some 17,.assign _,_,_,_,_⟩) (.int .u64 (adrV fi.op fi.imm (xAt s.h fi.rs1))) rfl (by kernel_rfl) (by kernel_rfl) (by kernel_rfl) (fun _ _ _ h=>h) (by kernel_rfl) (fun _ _=>rfl) trivial ?_
    simp only [Act.put,List.setIfInBounds_toArray,List.set_cons_zero,List.set_cons_succ]
    refine wpAnyH_done (by kernel_rfl) ?_ _
    clear RJ KAD HX1
    generalize siz fi.op=sz at *
    generalize adrV fi.op fi.imm (xAt s.h fi.rs1)=ad at *
    go_upto_region 16 with (fail)
    obtain ⟨wv,hwv⟩:∃ v,v=whrV fi.op ad n:=⟨_,rfl⟩
    have HWV:=Lib.hid hwv
    rw [← hwv] at KWH HY HNO HIN
    clear hwv
    obtain ⟨cb,hcb⟩:∃ b:Bool,b=decide (0<sz∧wv=0):=⟨_,rfl⟩
    have HCB:=Lib.hid hcb
    clear hcb
    go_cut [68] from 58 to 68 (fun s68 wx=>s68=.bool cb∧Rli w s n g (.slice A9 n c9) u10 fi gi wx)
    case first =>
     clear KSP HY HNO HAN KS HIN
     by_cases hs0:0<sz
     ·have c0:World.cell? _ ⟨gi,0,none⟩=some (.int .i64 fi.op):=RI10.ins.cell 0
      have HC2:Hid ((wv == 0)=cb):=by
       show _=_
       rw [HCB.out]
       by_cases g0:wv=0
       ·simp [g0,hs0]
       ·simp [g0]
      clear HCB
      go_wp2_with (first
       | (go_at_call 20;refine (KWH _).mono ?_;rintro e w11 ⟨rfl,hb⟩;have RI11:=RI10.on hb;clear hb c0))
      go_meet
      case rel=>exact ⟨congrArg Value.bool HC2.out,RI11⟩
     ·have HC2:Hid (false=cb):=by
       show _=_
       rw [HCB.out]
       exact (decide_eq_false (fun g=>hs0 g.1)).symm
      clear HCB KWH
      go_wp2
      go_meet
      case rel=>exact ⟨congrArg Value.bool HC2.out,RI10⟩
    case rest =>
     obtain ⟨rfl,RK⟩:=hcut
     clear RI10 KWH
     go_upto_if 68 with (fail)
     go_cut [18,19] from 69 to 86 (fun s18 s19 wx=>∃ (rv:Int) (fl:Bool),s18=.int .u64 rv∧s19=.bool fl∧U64 rv∧Hid (stpD s.h B rv fl=nowD B s∧stpH s.h B rv fl=nowH B s)∧Rli w s n g (.slice A9 n c9) u10 fi gi wx)
     case first =>
      clear KSP HAN KS
      cases cb
      ·have HQ:=Lib.hid (HNO.out (fun g=>by have:=HCB.out;simp [g.1,g.2] at this))
       clear HNO HY HIN HCB
       go_wp2
       go_meet
       case rel=>exact ⟨0,false,rfl,rfl,⟨by decide,by decide⟩,HQ.out,RK⟩
      ·have hcc:=of_decide_eq_true HCB.out.symm
       obtain ⟨hs0,hw0⟩:=hcc
       have hin:=HIN.out hs0 hw0
       have HQ:=Lib.hid (HY.out hs0 hw0 HADU.out.1)
       have hn1:n≤1024:=by have:=HIM.out.2.2.1;have:=HNE.out;omega
       have had0:=HADU.out.1
       clear HNO HY HIN HCB hw0
       obtain ⟨an,rfl⟩:∃ an:Nat,ad=(an:Int):=⟨ad.toNat,by omega⟩
       obtain ⟨zn,rfl⟩:∃ zn:Nat,sz=(zn:Int):=⟨sz.toNat,by omega⟩
       obtain ⟨gm, c9', e9, _⟩ := RK.a.mem.form (by omega)
       cases e9
       obtain ⟨_,_,hA9,hc1,hc2,_⟩:=zz3 RK.a.mem
       cases hA9
       have KO:=fun c2=>rof_part (c2:=c2) RK.a.mem HOK.out.len hn1 HOK.out.byts an zn (by omega)
       have hru:=HNU.out (an:Int) (zn:Int)
       generalize numM s.mem (an:Int) (zn:Int)=nv at *
       have hc3:(c9:Int)≤9223372036854775807:=by unfold maxLen at hc2;omega
       have hc4:(n:Int)≤c9:=by omega
       have hn2:(n:Int)≤1024:=by omega
       by_cases qa:a=(an:Int)
       ·have ea:(a != (an:Int))=false:=by simp [qa]
        have HF:Hid (stpD s.h B nv (z != (zn:Int))=nowD B s∧stpH s.h B nv (z != (zn:Int))=nowH B s):=by
         have h1:=HQ.out
         rw [decide_eq_true qa,Bool.true_and] at h1
         exact ⟨h1.1,h1.2.1⟩
        clear HQ qa
        go_wp2_with (first
         | (go_at_call 21;refine (KO _).mono ?_;rintro e w12 ⟨rfl,rfl⟩))
        go_meet
        case rel=>exact ⟨_,_,rfl,rfl,hru,HF,RK⟩
       ·have ea:(a != (an:Int))=true:=by simpa using qa
        have HF:Hid (stpD s.h B nv true=nowD B s∧stpH s.h B nv true=nowH B s):=by
         have h1:=HQ.out
         rw [decide_eq_false qa,Bool.false_and] at h1
         exact ⟨h1.1,h1.2.1⟩
        clear HQ qa
        go_wp2_with (first
         | (go_at_call 21;refine (KO _).mono ?_;rintro e w12 ⟨rfl,rfl⟩))
        go_meet
        case rel=>exact ⟨_,_,rfl,rfl,hru,HF,RK⟩
     case rest =>
      obtain ⟨rv,fl,rfl,rfl,hru,HST,RL⟩:=hcut
      clear RK HY HNO
      have KSQ:=KSP rv fl hru
      rw [HST.out.1,HST.out.2] at KSQ
      clear KSP
      unfold zs5 at KSQ
      have HX:=RL.a.hart
      have HBW:=RL.a.bw
      go_upto_region 20 with (first
       | (with_reducible refine za8 (o:=⟨some 88,_,_,_,_,_⟩) rfl 25 (.tmp 3) rfl HX rfl Tryz.underlying25 rfl HII.out ?_)
       | (go_at_call 22;refine (KSQ _ HBW).mono ?_;rintro e w12 ⟨rfl,hb⟩;have RM:=RL.on hb;clear hb;obtain ⟨w13,w14,e13,e14,b13,b14,hb14⟩:=two_new w12 (nowH B s) (nowD B s) HNW.out.len)
       | (refine zc4 (o:=⟨none,.store _ (.tmp 20) (.tmp 93),_,_,_,_⟩) rfl 25 (.tmp 20) (.tmp 93) rfl rfl rfl e13 ?_)
       | (refine zc4 (o:=⟨none,.store _ (.tmp 21) (.tmp 94),_,_,_,_⟩) rfl 41 (.tmp 21) (.tmp 94) rfl rfl rfl e14 ?_))
      have RN:Rld w s n g (.slice A9 n c9) u10 fi gi (nowD B s) (w12.heap.size + 1) w14:=⟨RM.on hb14,b14,by have:=RM.ins.lt;omega⟩
      clear e13 e14 hb14 b14 RM RL HX HBW KSQ
      generalize w12.heap.size + 1=gd at *
      obtain ⟨w15,e15,b15,k15⟩:=(Has.of RN.a.a.hart (zb6 HXL.out)).put (P:=Tryz.prog) (za2 (nowH B s)) (zb6 HNW.out.len) (zg5 _) (ty:=25) (zb3 HNW.out.len)
      have HI2:=Lib.hid (zb3 HNW.out.len)
      go_upto_region 21 with (first
       | (with_reducible refine za8 (o:=⟨some 95,_,_,_,_,_⟩) rfl 25 (.tmp 20) rfl b13 rfl Tryz.underlying25 rfl HI2.out ?_)
       | (refine zc4 (o:=⟨none,.store _ (.tmp 3) (.tmp 95),_,_,_,_⟩) rfl 25 (.tmp 3) (.tmp 95) rfl rfl rfl e15 ?_))
      have RO:=RN.put b15 k15
      clear RN b15 k15 e15 b13
      have HKK:Hid (s.done.length=k∧k≤100000):=⟨HDL.out,hk1⟩
      have HD:=RO.dn
      unfold za3 at HD
      have hsz15:=RO.a.a.res.lt
      go_upto_region 22 with (first
       | (with_reducible refine za8 (o:=⟨some 97,_,_,_,_,_⟩) rfl 41 (.tmp 21) rfl HD rfl Tryz.underlying41 rfl (by kernel_rfl) ?_)
       | (at_builtin;refine wpList_append_own _ rfl _ _ 28 rfl (g + 2) 41 j0 (.agg (za3 noDn)) 16 120 Tryz.underlying28 ji jz0 jz1 jz2 rfl (by decide) _ s.done.length (zf4 s.done) rfl (RO.a.a.list.alloc _) ⟨w15.heap.size,0,none⟩ 1 1 (za3 (nowD B s)).toList rfl rfl (zx1 _ _ _) (zj0 _) (by have:=HKK.out;unfold maxLen;omega) (by have:=HKK.out;omega) (by simp;omega) ?_;intro v16 w16 hown hgrow _))
      have RP:=RO.app HL10.out rfl rfl hown hgrow
      clear RO hown hgrow HD hsz15
      have c10:w16.cell? ⟨gd,10,none⟩=some (.int .i64 (nowD B s).cause):=RP.dn.cell 10
      by_cases hcz:(nowD B s).cause=0
      ·have hbz : ((nowD B s).cause != 0) = false := by simpa using hcz
       have hbc:=Zn9 hcz
       have hni:(nowD B s).inst=fi:=by rw [zT9,zF4,HFI.out]
       obtain ⟨eA,eS⟩:=HRG.out hbc
       have hre:=HRE.out
       rw [eA,eS,HNE.out] at hre
       have hn1:n≤1024:=by have:=HIM.out.2.2.1;have:=HNE.out;omega
       have hn2:(n:Int)≤1024:=by omega
       have ad0:0≤ad:=by omega
       have sz0:0≤sz:=by omega
       have sz1:sz≤8:=by omega
       have as1:ad + sz≤n:=by omega
       have HAN2:=HAN.out
       rw [hni,eA,eS] at HAN2
       have hfl:=HFL.out rv fl HST.out.1 hcz
       generalize hso:srt fi.op=so at *
       have HSO:=Lib.hid hso
       clear hso
       obtain ⟨st,hst⟩:∃ b:Bool,b=decide (so=5∨so=12∨(so=11∧fl=false)):=⟨_,rfl⟩
       obtain ⟨A1,hA1⟩:∃ v:Int,v=if so=10 then ad else a:=⟨_,rfl⟩
       obtain ⟨Z1,hZ1⟩:∃ v:Int,v=if so=10 then sz else z:=⟨_,rfl⟩
       obtain ⟨A2,hA2⟩:∃ v:Int,v=if so=11 then -1 else A1:=⟨_,rfl⟩
       rw [← hA1,← hA2,← hZ1] at HAN2
       have HMM:Hid ((aloS B s).mem=if st=true then putM s.mem ad.toNat (zc5 (nowD B s).wrote sz.toNat) else s.mem):=by
        show nowM B s=_
        unfold nowM
        rw [hni,HSO.out,eA,eS]
        have e11:(so=5∨so=12∨(so=11∧(nowD B s).failed=false))↔st=true:=by
         rw [hst,decide_eq_true_eq]
         constructor
         ·rintro (q | q | ⟨q,r⟩)
          ·exact .inl q
          ·exact .inr (.inl q)
          ·exact .inr (.inr ⟨q,by rw [← hfl q];exact r⟩)
         ·rintro (q | q | ⟨q,r⟩)
          ·exact .inl q
          ·exact .inr (.inl q)
          ·exact .inr (.inr ⟨q,by rw [hfl q];exact r⟩)
        simp only [e11]
       have HANS:=Lib.hid HAN2
       have HST2:=Lib.hid hst
       have HA1:=Lib.hid hA1
       have HA2:=Lib.hid hA2
       have HZ1:=Lib.hid hZ1
       clear HAN2 HAN hst hA1 hA2 hZ1 hfl HFL hre HRE HRG eA eS hni hbc hcz HST HAT hat
       have c0:w16.cell? ⟨gi,0,none⟩=some (.int .i64 fi.op):=RP.a.ins.cell 0
       go_upto_if 107 with (first
        | (go_at_call 23;refine (KS _).mono ?_;rintro e w17 ⟨rfl,hb⟩;have RQ:=RP.on hb;clear hb))
       clear RP KS c0 c10 hbz
       have HDN:Hid ((aloS B s).done=s.done ++ [nowD B s]):=rfl
       generalize hnd:nowD B s=nd at *
       clear hnd
       generalize hnh:nowH B s=nh at *
       have HNH:=Lib.hid hnh
       clear hnh
       go_cut [11,12] from 108 to 110 (fun s11 s12 wx=>s11=.int .i64 A1∧s12=.int .i64 Z1∧Rld w ⟨nh,s.mem,s.ra,s.rs,s.done ++ [nd]⟩ n g (.slice A9 n c9) v16 fi gi nd gd wx)
       case first =>
        clear HE HANS HMM HST2 HA2
        by_cases q10:so=10
        ·have a10:(so == 10)=true:=by rw [q10];rfl
         have HR1:Hid (A1=ad):=Lib.hid (by rw [HA1.out,if_pos q10])
         have HR2:Hid (Z1=sz):=Lib.hid (by rw [HZ1.out,if_pos q10])
         clear q10 HA1 HZ1
         go_wp2
         go_meet
         case rel=>exact ⟨by rw [HR1.out],by rw [HR2.out],RQ⟩
        ·have a10:(so == 10)=false:=by simpa using q10
         have HR1:Hid (A1=a):=Lib.hid (by rw [HA1.out,if_neg q10])
         have HR2:Hid (Z1=z):=Lib.hid (by rw [HZ1.out,if_neg q10])
         clear q10 HA1 HZ1
         go_wp2
         go_meet
         case rel=>exact ⟨by rw [HR1.out],by rw [HR2.out],RQ⟩
       case rest =>
        obtain ⟨rfl,rfl,RR⟩:=hcut
        clear RQ HA1 HZ1
        go_upto_if 112 with (fail)
        go_cut [11] from 111 to 112 (fun s11 wx=>s11=.int .i64 A2∧Rld w ⟨nh,s.mem,s.ra,s.rs,s.done ++ [nd]⟩ n g (.slice A9 n c9) v16 fi gi nd gd wx)
        case first =>
         clear HE HANS HMM HST2
         by_cases q11:so=11
         ·have a11:(so == 11)=true:=by rw [q11];rfl
          have HR1:Hid (A2=-1):=Lib.hid (by rw [HA2.out,if_pos q11])
          clear q11 HA2
          go_wp2
          go_meet
          case rel=>exact ⟨by rw [HR1.out],RR⟩
         ·have a11:(so == 11)=false:=by simpa using q11
          have HR1:Hid (A2=A1):=Lib.hid (by rw [HA2.out,if_neg q11])
          clear q11 HA2
          go_wp2
          go_meet
          case rel=>exact ⟨by rw [HR1.out],RR⟩
        case rest =>
         obtain ⟨rfl,RS⟩:=hcut
         clear RR HA2
         go_upto_region 29 with (fail)
         go_cut [126] from 113 to 126 (fun s26 wx=>s26=.bool st∧Rld w ⟨nh,s.mem,s.ra,s.rs,s.done ++ [nd]⟩ n g (.slice A9 n c9) v16 fi gi nd gd wx)
         case first =>
          clear HE HANS HMM
          by_cases q5:so=5
          ·have a5:(so == 5)=true:=by rw [q5];rfl
           have HL2:Hid (true=st):=Lib.hid (by rw [HST2.out,q5];rfl)
           clear q5 HST2
           go_wp2
           go_meet
           case rel=>exact ⟨congrArg Value.bool HL2.out,RS⟩
          ·have a5:(so == 5)=false:=by simpa using q5
           by_cases q12:so=12
           ·have a12:(so == 12)=true:=by rw [q12];rfl
            have HL2:Hid (true=st):=Lib.hid (by rw [HST2.out,q12];rfl)
            clear q5 q12 HST2
            go_wp2
            go_meet
            case rel=>exact ⟨congrArg Value.bool HL2.out,RS⟩
           ·have a12:(so == 12)=false:=by simpa using q12
            by_cases q11:so=11
            ·have a11:(so == 11)=true:=by rw [q11];rfl
             have HL2:Hid ((!fl)=st):=Lib.hid (by rw [HST2.out,q11];cases fl <;> rfl)
             clear q5 q12 q11 HST2
             cases fl
             ·go_wp2
              go_meet
              case rel=>exact ⟨congrArg Value.bool HL2.out,RS⟩
             ·go_wp2
              go_meet
              case rel=>exact ⟨congrArg Value.bool HL2.out,RS⟩
            ·have a11:(so == 11)=false:=by simpa using q11
             have HL2:Hid (false=st):=Lib.hid (by rw [HST2.out];simp [q5,q11,q12])
             clear q5 q12 q11 HST2
             go_wp2
             go_meet
             case rel=>exact ⟨congrArg Value.bool HL2.out,RS⟩
         case rest =>
          obtain ⟨rfl,RT⟩:=hcut
          clear RS HST2
          go_upto_if 126 with (fail)
          cases st
          ·have HF:=HE.out A2 Z1 v16 _ (RT.a.a.same HNH.out HMM.out HDN.out) (fun _=>HANS.out)
           have HFF:=Lib.hid HF
           clear HF RT HE HANS HMM
           go_wp2
           go_roundg (gK - 1)
           case measure=>have:=HK.out;omega
           case rel=>exact HFF.out
          ·have HM2:Hid ((aloS B s).mem=putM s.mem ad.toNat (zc5 nd.wrote sz.toNat)):=HMM.out
           have HEND:Hid (∀ wr,Rld w ⟨nh,putM s.mem ad.toNat (zc5 nd.wrote sz.toNat),s.ra,s.rs,s.done ++ [nd]⟩ n g (.slice A9 n c9) v16 fi gi nd gd wr→_):=fun wr hr=>HE.out A2 Z1 v16 wr (hr.a.a.same HNH.out HM2.out HDN.out) (fun _=>HANS.out)
           clear HE HMM HM2 HANS HNH HDN
           obtain ⟨an,rfl⟩:∃ an:Nat,ad=(an:Int):=⟨ad.toNat,by omega⟩
           obtain ⟨zn,rfl⟩:∃ zn:Nat,sz=(zn:Int):=⟨sz.toNat,by omega⟩
           have hz8:zn≤8:=by omega
           have haz:an + zn≤n:=by omega
           have HRT:Hid (Rld w ⟨nh,putM s.mem an ((zc5 nd.wrote zn).take 0),s.ra,s.rs,s.done ++ [nd]⟩ n g (.slice A9 n c9) v16 fi gi nd gd wc):=by
            rw [List.take_zero,zK8]
            exact RT
           clear RT
           go_wp2
           go_loopg [23] zn (fun gg v23 wr=>∃ j:Nat,j + gg=zn∧v23=.int .i64 j∧Hid (Rld w ⟨nh,putM s.mem an ((zc5 nd.wrote zn).take j),s.ra,s.rs,s.done ++ [nd]⟩ n g (.slice A9 n c9) v16 fi gi nd gd wr))
           case atStart=>exact ⟨0,by omega,rfl,HRT⟩
           case round =>
            obtain ⟨j,hj,rfl,HRJ⟩:=hrel
            by_cases hjz:j<zn
            ·have hlj:j<(zc5 nd.wrote zn).length:=by rw [zc7];exact hjz
             obtain ⟨gm, c9', e9, _⟩ := HRJ.out.a.a.mem.form (by omega)
             cases e9
             obtain ⟨_,_,hA9,hc1,hc2,_⟩:=zz3 HRJ.out.a.a.mem
             cases hA9
             have hc3:(c9:Int)≤9223372036854775807:=by unfold maxLen at hc2;omega
             have hgm:gm<gi:=HL9.out gm rfl
             have hjb:(j:Int)<zn:=by omega
             have hbj:(zc5 nd.wrote zn)[j]=zs1 nd.wrote j:=by simp [zc5]
             have HBJ:=Lib.hid (HRJ.out.byte HOK.out.len hlj (by rw [zc7];exact haz) hgm)
             rw [hbj] at HBJ
             have hlen:(za4 (putM s.mem an ((zc5 nd.wrote zn).take j))).length=n:=by
              unfold za4
              rw [List.length_map,putM_len (by rw [List.length_take,zc7,HOK.out.len];omega),HOK.out.len]
             obtain ⟨x0,hx0⟩:∃ x0,World.cell? _ ⟨gm,an + j,none⟩=some (.int .u8 x0):=by
              refine ⟨(putM s.mem an ((zc5 nd.wrote zn).take j))[an + j]'(by have:=hlen;unfold za4 at this;rw [List.length_map] at this;omega),?_⟩
              rw [HRJ.out.a.a.mem.cellAt (an + j) (by omega)]
              unfold za4
              rw [List.getElem?_map,List.getElem?_eq_getElem]
              rfl
             have fz:=HRJ.out.a.a.mem.frozenAt (an + j)
             have c14:World.cell? _ ⟨gd,14,none⟩=some (.int .u64 nd.wrote):=HRJ.out.dn.cell 14
             clear hbj hlj hlen HL9 HL10
             go_wp2_with (fail)
             have hbe:nd.wrote / 2 ^ (8 * j) % 256=zs1 nd.wrote j:=by
              unfold zs1
              rw [show (256:Int) ^ j=2 ^ (8 * j) by rw [show (256:Int)=2 ^ 8 from rfl,← Int.pow_mul]]
             rw [← hbe] at HBJ
             go_roundg (gk - 1)
             case measure=>omega
             case rel=>exact ⟨j + 1,by omega,rfl,HBJ⟩
            ·have hje:j=zn:=by omega
             have hF:=HRJ.out
             rw [hje,List.take_of_length_le (by rw [zc7];exact Nat.le_refl _)] at hF
             have HFF:=Lib.hid (HEND.out _ hF)
             have hjb:¬ (j:Int)<zn:=by omega
             clear hF HEND HRJ hje
             go_wp2
             go_roundg (gK - 1)
             case measure=>have:=HK.out;omega
             case rel=>exact HFF.out
      ·have hbz:((nowD B s).cause != 0)=true:=by simpa using hcz
       have HF:=HE.out a z v16 w16 (RP.a.a.same rfl (mem_halt hcz) rfl) (fun hc=>absurd hc (zX0 hcz))
       have HFF:=Lib.hid HF
       clear HF hcz RP HE
       go_wp2
       go_roundg (gK - 1)
       case measure=>have:=HK.out;omega
       case rel=>exact HFF.out
   ·have HST:Hid (aloK B h most.toNat=aloK B h k):=by
     show _=_
     by_cases hc0:(aloK B h k).h.cause=0
     ·have hkm:¬ (k:Int)<most:=fun g=>hgo ⟨hc0,g⟩
      rw [show most.toNat=k by have:=HK.out;omega]
     ·rw [show most.toNat=k + gK by have:=HK.out;omega]
      exact zq7 hc0 gK
    have hXL:=HOK.out.h.len
    obtain ⟨w6,s1,b1,bw1,k1⟩:=Zo4 (aloK B h k).h hXL HR.out.res HR.out.bw (by have:=HG.out;omega)
    have hMM:Hid (w6.ownsRow w.heap.size 5 1 (.slice A9 n c9) n (za4 (aloK B h k).mem)):=(HR.out.mem.kept k1 (.inr fun e=>by have:=(HR.out.mem.lt _ e).1;omega)).mono (by have:=HG.out;omega)
    have hLL:Hid (w6.ownsRow w.heap.size 41 16 u10 (aloK B h k).done.length (zf4 (aloK B h k).done)):=(HR.out.list.kept k1 (.inr fun e=>by have:=(HR.out.list.lt _ e).1;omega)).mono (by have:=HG.out;omega)
    have hBW:=Lib.hid bw1
    have HX:=HR.out.hart
    have HII:=Lib.hid (zb3 hXL)
    have hML:=Lib.hid HOK.out.len
    have HRR:Hid (∀ e,e=Ending.returned (.tuple #[.agg (za2 (aloK B h k).h),.slice A9 n c9,u10])→RetRl w (aloK B h most.toNat) e w6):=by
     rintro e rfl
     rw [HST.out]
     exact ⟨_,_,_,_,rfl,hML.out,hMM.out,hLL.out,hBW.out⟩
    clear hXL hMM hLL hBW hML HR HNE HDL HOK bw1 k1
    have hc:(¬ (k:Int)<most)∨((k:Int)<most∧((aloK B h k).h.cause == 0)=false):=by
     by_cases hkm:(k:Int)<most
     ·exact .inr ⟨hkm,by simpa using (fun g=>hgo ⟨g,hkm⟩:¬ (aloK B h k).h.cause=0)⟩
     ·exact .inl hkm
    clear hgo HST HK HAT
    generalize (aloK B h k).h=hk at *
    generalize hk.cause=ck at *
    rcases hc with hkm | ⟨hkm,hc⟩
    all_goals
     go_wp2_with (first
      | (with_reducible refine za8 (o:=⟨some 145,_,_,_,_,_⟩) rfl 25 (.tmp 3) rfl HX rfl Tryz.underlying25 rfl HII.out ?_)
      | (with_reducible refine zc4 (o:=⟨none,.store _ (.tmp 6) (.tmp 145),_,_,_,_⟩) rfl 25 (.tmp 6) (.tmp 145) rfl rfl rfl s1 ?_))
     try rw [Exit.noGoto_ret]
     refine bodyPost_ret (zu8 rfl rfl b1 Tryz.underlying25 rfl HII.out) rfl ?_
     exact HRR.out _ rfl
end Go.Proofs.YtmamblgpekafbaaGreatDoor
