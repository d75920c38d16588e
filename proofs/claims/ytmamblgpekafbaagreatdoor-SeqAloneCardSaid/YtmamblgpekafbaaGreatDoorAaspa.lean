/- Of stage 11. -/
import Derived.Test.YtmamblgpekafbaaGreatDoorSfpa
import Derived.Test.YtmamblgpekafbaaGreatDoorSypa
import Derived.LoopTactic
import Derived.Outline
import Derived.RangeFuncNested
import Derived.RangeFuncBound
import Derived.RangeFuncCalls
import Derived.RangeFuncLeaves
import Derived.RangeFuncWrites
import Derived.RangeFuncBox
import Derived.Shelf.Abstract
import Derived.Shelf.RegionOpen
import Derived.OwnWalkIn
import Derived.TacticsInMore
import Derived.LoopNIn
import Derived.LoopIn
import Derived.Test.YtmamblgpekafbaaGreatDoorWxpa
import Derived.Test.YtmamblgpekafbaaGreatDoorRngpa
import Derived.Laws.Tables
import Derived.Maps.OwnSet
import Derived.Maps.Views
import Derived.Maps.OwnOps
import Derived.Maps.OwnIn
set_option maxHeartbeats 2000000
set_option maxRecDepth 100000
namespace Go.Proofs.YtmamblgpekafbaaGreatDoor
open Go.RowKit
theorem zy6 {x:Int} (h : -9223372036854775808≤x∧x≤9223372036854775807):wrap64 x=x:=by unfold wrap64;omega
theorem zT1 {W:World} (n:Nat):Below W.heap.size W (W.drewN n):=by
  induction n with
  | zero=>exact Below.refl _ _
  | succ n ih=>exact Below.drew ih
def befT (c:UInt8) (S:List UInt8):List UInt8:=S.takeWhile (fun x=>x != c)
def aftT (c:UInt8) (S:List UInt8):List UInt8:=(S.dropWhile (fun x=>x != c)).drop 1
theorem idx_bef (c:UInt8) (S:List UInt8):(Lib.indexByte S c=-1∧befT c S=S∧aftT c S=[]∧c ∉ S)∨∃ k:Nat,Lib.indexByte S c=(k:Int)∧k<S.length∧befT c S=S.take k∧aftT c S=S.drop (k + 1)∧c ∈ S:=by
  unfold befT aftT
  induction S with
  | nil=>exact .inl ⟨rfl,rfl,rfl,by simp⟩
  | cons a t ih =>
    by_cases h:a=c
    · subst h
      refine .inr ⟨0,by simp [Lib.indexByte],by simp,?_,?_,by simp⟩
      · rw [List.takeWhile_cons_of_neg (by simp)];rfl
      · rw [List.dropWhile_cons_of_neg (by simp)]
    · have hb:(a == c)=false:=by simpa using h
      have hn:(a != c)=true:=by simpa using h
      rw [List.takeWhile_cons_of_pos (p:=fun x=>x != c) hn,List.dropWhile_cons_of_pos (p:=fun x=>x != c) hn,Lib.indexByte,hb]
      have hm:(c ∈ a :: t)↔c ∈ t:=by simp [Ne.symm h]
      rcases ih with ⟨e1,e2,e3,e4⟩ | ⟨k,e1,e2,e3,e4,e5⟩
      · rw [e1,e2];exact .inl ⟨rfl,rfl,e3,by rw [hm];exact e4⟩
      · refine .inr ⟨k + 1,?_,by simp;omega,by rw [e3];rfl,by rw [e4];rfl,hm.2 e5⟩
        rw [e1]
        have:((k:Int) == -1)=false:=by rw [beq_eq_false_iff_ne];omega
        rw [if_neg (by decide),this,if_neg (by decide)]
        omega
theorem ext_take (S:List UInt8) (k:Nat):(bs S).extract 0 k=bs (S.take k):=by
  apply ByteArray.ext
  rw [ByteArray.data_extract]
  apply Array.ext'
  rw [Array.toList_extract,List.extract_eq_take_drop]
  simp [bs]
theorem ext_drop (S:List UInt8) (k:Nat):(bs S).extract k (bs S).size=bs (S.drop k):=by
  apply ByteArray.ext
  rw [ByteArray.data_extract]
  apply Array.ext'
  rw [Array.toList_extract,List.extract_eq_take_drop]
  show List.take ((bs S).size - k) (S.drop k)=S.drop k
  rw [List.take_of_length_le (by rw [List.length_drop];exact Nat.le_refl _)]
def CutR (w:World) (A B:List UInt8) (b:Bool) (e:Ending) (w':World):Prop:=e=.returned (.tuple #[tx A,tx B,.bool b])∧Below w.heap.size w w'
theorem CutR.mk {w w':World} {A B:List UInt8} {b:Bool} {x y:ByteArray} (h1:x=bs A) (h2:y=bs B) (h:Below w.heap.size w w'):CutR w A B b (.returned (.tuple #[.string x,.string y,.bool b])) w':=by
  subst h1;subst h2;exact ⟨rfl,h⟩
theorem zM8 (c:UInt8) (S:List UInt8) (hl:S.length≤100000) (w:World):Calls Tryz.prog 115 #[tx S,.string ⟨#[c]⟩] w (CutR w (befT c S) (aftT c S) (decide (c ∈ S))):=by
  have HK:∀ w,Calls Tryz.prog 153 #[.string (bs S),.string ⟨#[c]⟩] w fun e w'=>e=.returned (.int .i64 (Lib.indexByte S c))∧w'=w:=fun w=>Tryz.stringslite_Index_one (bs S) c w
  have hI:=idx_bef c S
  have hs:(bs S).size=S.length:=rfl
  have HB:Below w.heap.size w w:=Below.refl _ _
  unfold tx
  rcases hI with ⟨e1,e2,e3,e4⟩ | ⟨k,e1,hk,e2,e3,e4⟩
  · rw [e1] at HK
    rw [e2,e3,decide_eq_false e4]
    clear e2 e3 e4 e1
    go_enter Tryz.func115,Tryz.ntmps115
    go_wp2_with (first
      | (go_at_call 153;refine (HK _).mono ?_;rintro e w' ⟨rfl,rfl⟩))
    go_ret3
    exact CutR.mk rfl rfl HB
  · rw [e1] at HK
    rw [e2,e3,decide_eq_true e4]
    have hx:=Lib.hid (ext_take S k)
    have hy:=Lib.hid (ext_drop S (k + 1))
    rw [hs] at hy
    clear e1 e2 e3 e4
    obtain ⟨q,hq⟩:∃ q,bs S=q:=⟨_,rfl⟩
    rw [hq] at HK hx hy hs ⊢
    have hk1:(k:Int)≤q.size:=by omega
    have hk2:(k:Int) + 1≤q.size:=by omega
    have hw:IntKind.i64.wrap ((k:Int) + 1)=(k:Int) + 1:=by rw [IntKind.wrap_i64];omega
    have hw2:wrap64 ((k:Int) + 1)=(k:Int) + 1:=zy6 ⟨by omega,by omega⟩
    have hn0:(0:Int)≤(k:Int) + 1:=by omega
    have hnn:((k:Int) + 1).toNat=k + 1:=by omega
    go_enter Tryz.func115,Tryz.ntmps115
    go_upto_region 3 with (first
      | (go_at_call 153;refine (HK _).mono ?_;rintro e w' ⟨rfl,rfl⟩))
    go_quiet (fail)
    have HB2:Below w'.heap.size w' (w'.drewN nq):=zT1 nq
    generalize w'.drewN nq=w3 at *
    go_wp2
    go_ret3
    exact CutR.mk hx.out hy.out HB2
theorem zF8 (c:UInt8) (S:List UInt8) (hl:S.length≤100000) (w:World):Calls Tryz.prog 83 #[tx S,.string ⟨#[c]⟩] w (CutR w (befT c S) (aftT c S) (decide (c ∈ S))):=by
  have HK:=zM8 c S hl w
  generalize befT c S=A at *
  generalize aftT c S=B at *
  generalize decide (c ∈ S)=b at *
  unfold CutR at *
  unfold tx at *
  go_enter Tryz.func83,Tryz.ntmps83
  go_wp2_with (first
    | (go_at_call 115;refine HK.mono ?_;rintro e w' ⟨rfl,hb⟩;have HB:=Lib.hid hb;clear hb))
  go_ret3
  exact ⟨rfl,HB.out⟩
def Zn4 (S:List UInt8):List ByteArray:=Lib.splitB ⟨#[10]⟩ 0 (Lib.countB (bs S) ⟨#[10]⟩) (bs S)
def zb2 (S:List UInt8):List (List UInt8):=(Zn4 S).map (fun x=>x.data.toList)
theorem bs_dataL (x:ByteArray):bs x.data.toList=x:=by
  unfold bs
  rw [Array.toArray_toList]
theorem zM5 (S:List UInt8):(Zn4 S).map Value.string=(zb2 S).map tx:=by
  unfold zb2
  rw [List.map_map]
  apply List.map_congr_left
  intro x _
  show Value.string x=.string (bs x.data.toList)
  rw [bs_dataL]
theorem zx2 (S:List UInt8):(zb2 S).length=Lib.countB (bs S) ⟨#[10]⟩ + 1:=by
  unfold zb2
  rw [List.length_map]
  exact Lib.splitB_all ⟨#[10]⟩ (by decide) 0 _ (bs S) rfl
theorem zJ0 (S:List UInt8) (hl:S.length≤100000) (w:World):Calls Tryz.prog 114 #[tx S,.string ⟨#[10]⟩,.int .i64 0,.int .i64 (-1)] w fun e w' =>
    e=.returned (.slice (some ⟨w.heap.size,0,none⟩) (zb2 S).length (zb2 S).length)∧w'=w.alloc (.cells ((zb2 S).map tx).toArray 9):=by
  have hle:Lib.countB (bs S) ⟨#[10]⟩≤(bs S).size:=Lib.countB_le ⟨#[10]⟩ (by decide) _ (bs S) (Nat.le_refl _)
  have hs:(bs S).size=S.length:=rfl
  have c:=Any.strings_genSplit_core { Tryz.lays146 with } (by kernel_rfl) (bs S) ⟨#[10]⟩ 0 (-1) (Lib.countB (bs S) ⟨#[10]⟩ + 1) w (by omega) (by decide) (by decide)
    (fun x cc _=>(Tryz.strings_Index_one x 10 _).mono fun e w' h=>by
      refine ⟨?_,h.2⟩
      rw [h.1]
      show Ending.returned (Value.int .i64 (Lib.indexByte x.data.toList 10))=.returned (.int .i64 (Lib.index x.data.toList [10]))
      rw [Lib.index_one])
    ((Tryz.strings_Count_one (bs S) 10 w).mono fun e w' h => by
      refine ⟨?_,h.2⟩
      rw [h.1]
      show _=Ending.returned (Value.int .i64 ((Lib.count (bs S).data.toList [10]:Nat):Int))
      rw [Lib.count_one]
      rfl) (by decide) (by decide) (by rw [if_pos (by decide)];omega)
  rw [Nat.add_sub_cancel] at c
  refine c.mono ?_
  rintro e w' ⟨rfl,rfl⟩
  have h1:(Lib.splitB ⟨#[10]⟩ 0 (Lib.countB (bs S) ⟨#[10]⟩) (bs S)).length=Lib.countB (bs S) ⟨#[10]⟩ + 1:=Lib.splitB_all ⟨#[10]⟩ (by decide) 0 _ (bs S) rfl
  rw [zx2,h1]
  refine ⟨rfl,?_⟩
  have e2:Lib.cellsOf (Lib.splitB ⟨#[10]⟩ 0 (Lib.countB (bs S) ⟨#[10]⟩) (bs S)) (Lib.countB (bs S) ⟨#[10]⟩ + 1)=((zb2 S).map tx).toArray:=by
    rw [← h1,Lib.cellsOf_full,← zM5]
    rfl
  rw [e2]
  rfl
theorem Zo1 (S:List UInt8) (hl:S.length≤100000) (w:World):Calls Tryz.prog 82 #[tx S,.string ⟨#[10]⟩] w fun e w' =>
    e=.returned (.slice (some ⟨w.heap.size,0,none⟩) (zb2 S).length (zb2 S).length)∧w'=w.alloc (.cells ((zb2 S).map tx).toArray 9):=by
  have HK:=zJ0 S hl w
  generalize zb2 S=L at *
  unfold tx at HK ⊢
  go_enter Tryz.func82,Tryz.ntmps82
  go_wp2_with (first
    | (go_at_call 114;refine HK.mono ?_;rintro e w' ⟨rfl,rfl⟩))
  go_ret
  exact ⟨rfl,rfl⟩
def trimT (S:List UInt8):List UInt8:=Lib.trimB S 32
theorem trim_any (S:List UInt8) (hl:S.length≤100000) (w:World):Calls Tryz.prog 84 #[tx S,.string ⟨#[32]⟩] w fun e w'=>e=.returned (tx (trimT S))∧Below w.heap.size w w' :=
  (Tryz.strings_Trim_one (bs S) 32 (by decide) w (by show S.length≤_;omega)).mono fun e w' ⟨he,hw⟩=>⟨he,by
    rcases hw with rfl | rfl
    · exact Below.refl _ _
    · exact Below.drew (Below.refl _ _)⟩
theorem zt4 (S:List UInt8) (hl:S.length≤100000) (w:World):Calls Tryz.prog 85 #[tx S,.string ⟨#[58]⟩] w fun e w'=>e=.returned (.tuple #[tx (Lib.trimSuffix S [58]),.bool (Lib.hasSuffix S [58])])∧w'=w :=
  Tryz.strings_CutSuffix (bs S) ⟨#[58]⟩ w (by show S.length≤_;omega)
open Go.RowKit Go.Shelf
attribute [local go_sem] Oper.semAt_some
def KpS (B:Nat) (W W':World):Prop:=∀ (r:Nat) (cs:Array Value) (p:Nat × Nat),B≤r→W.heap[r]?=some (.cells cs 9 p)→W'.heap[r]?=some (.cells cs 9 p)
theorem KpS.trans {B:Nat} {X Y Z:World} (h:KpS B X Y) (k:KpS B Y Z):KpS B X Z:=fun r cs p hB hr=>k r cs p hB (h r cs p hB hr)
theorem KpS.putObj {B:Nat} (W:World) (l:Nat) (o o':Obj) (h:W.heap[l]?=some o) (ho:o.isCells=false):KpS B W (W.putObj l o'):=fun r cs p _ hr=>by
  have hne:r≠l:=by
    rintro rfl
    rw [h] at hr
    cases hr
    cases ho
  exact ((grownBy_putObj' W l o').block r (Array.getElem?_eq_some_iff.1 hr).1 (by simpa using hne)).trans hr
def zH2 (S:List UInt8):List UInt8:=trimT (befT 35 S)
theorem bef_len (c:UInt8) (S:List UInt8):(befT c S).length≤S.length:=by
  have h:S.takeWhile (fun x=>x != c) ++ S.dropWhile (fun x=>x != c)=S:=List.takeWhile_append_dropWhile
  have:=congrArg List.length h
  rw [List.length_append] at this
  unfold befT
  omega
def encL (x:Nat × List UInt8):Array Value:=#[.int .i64 ((x.1:Int) + 1),tx x.2]
theorem zz9 (sep:List UInt8):∀ (k:Nat) (s:List UInt8),∀ x ∈ Lib.splitK sep 0 k s,x.length≤s.length
  | 0,s=>by
    intro x hx
    rw [Lib.splitK,List.mem_singleton] at hx
    rw [hx];exact Nat.le_refl _
  | k + 1,s=>by
    intro x hx
    rw [Lib.splitK] at hx
    split at hx
    · rw [List.mem_singleton] at hx
      rw [hx];exact Nat.le_refl _
    · rcases List.mem_cons.1 hx with h | h
      · rw [h,List.length_take];exact Nat.min_le_right _ _
      · have:=zz9 sep k _ x h
        rw [List.length_drop] at this
        omega
theorem zw9 (S:List UInt8) (k:Nat):((zb2 S).getD k []).length≤S.length:=by
  by_cases hk:k<(zb2 S).length
  · rw [List.getD_eq_getElem?_getD,List.getElem?_eq_getElem hk,Option.getD_some]
    have hm:=List.getElem_mem hk
    generalize (zb2 S)[k]=x at *
    unfold zb2 Zn4 at hm
    rw [Lib.splitB_data] at hm
    exact zz9 _ _ _ x hm
  · rw [List.getD_eq_getElem?_getD,List.getElem?_eq_none (by omega)]
    exact Nat.zero_le _
set_option maxRecDepth 100000 in
theorem zT0 (l Bs B:Nat) (S:List UInt8) (hl:S.length≤100000) (J:Nat→World→Prop) (m:Nat)
    (hY:∀ k X,k<(zb2 S).length→J k X→YieldAt Fence.wide m Tryz.prog l (encL (k,zH2 ((zb2 S).getD k []))) X fun e X'=>e=.returned (.bool true)∧J (k + 1) X'∧KpS B X X')
    (W : World) (hJB : ∀ k X X', J k X → Below X.heap.size X X' → J k X') (hB : B ≤ W.heap.size) (hBs : W.cell? ⟨Bs, 0, none⟩ = some (tx S)) (h0 : J 0 W) :
    CallsIn Fence.wide (m + 1) Tryz.prog 81 #[.func (.yield l) #[] #[],.pointer (some ⟨Bs,0,none⟩)] W fun e W'=>(∃ v,e=.returned v)∧J (zb2 S).length W':=by
  refine callsIn_of_wp Tryz.func81 rfl trivial ?_ rfl
  simp only [Tryz.ntmps81,List.size_toArray,List.length_cons,List.length_nil,Nat.reduceAdd,Nat.reduceSub,Array.replicate_succ,Array.replicate_zero,List.push_toArray,List.append_toArray,List.nil_append,List.cons_append]
  have HL:Hid (∀ k,k<(zb2 S).length→((zb2 S).map tx).toArray[k]?=some (tx ((zb2 S).getD k []))):=Lib.hid (fun k hk=>by simp [hk])
  have HS:=fun x=>Zo1 S hl x
  have HC:Hid (∀ k x,Calls Tryz.prog 83 #[tx ((zb2 S).getD k []),.string ⟨#[35]⟩] x (CutR x (befT 35 ((zb2 S).getD k [])) (aftT 35 ((zb2 S).getD k [])) (decide (35 ∈ (zb2 S).getD k [])))):=Lib.hid (fun k x=>zF8 35 _ (Nat.le_trans (zw9 S k) hl) x)
  have HT:Hid (∀ k x,Calls Tryz.prog 84 #[tx (befT 35 ((zb2 S).getD k [])),.string ⟨#[32]⟩] x fun e w'=>e=.returned (tx (zH2 ((zb2 S).getD k [])))∧Below x.heap.size x w'):=Lib.hid (fun k x=>trim_any _ (Nat.le_trans (bef_len 35 _) (Nat.le_trans (zw9 S k) hl)) x)
  have HN:Hid ((zb2 S).length≤1000000):=by
    show _≤_
    rw [zx2]
    have:=Lib.countB_le ⟨#[10]⟩ (by decide) _ (bs S) (Nat.le_refl _)
    have hs:(bs S).size=S.length:=rfl
    omega
  have HSS:Hid (((zb2 S).map tx).toArray.size=(zb2 S).length):=by show _=_;simp
  generalize zb2 S=L at *
  clear hl
  generalize tx S=sv at *
  gi_wp2_with (refine ⟨trivial,?_⟩;gi_at_call 82;refine (callsIn_wide.2 (HS _)).mono ?_;rintro e w' ⟨rfl,rfl⟩)
  have hrow:(W.alloc (.cells (L.map tx).toArray 9)).heap[W.heap.size]?=some (.cells (L.map tx).toArray 9 (0,0)):=heap_alloc_last W _
  have h0':=hJB _ _ _ h0 ((Below.refl _ W).alloc (Nat.le_refl _) (.cells (L.map tx).toArray 9))
  have hsz:W.heap.size≤(W.alloc (.cells (L.map tx).toArray 9)).heap.size:=by simp
  generalize W.alloc (.cells (L.map tx).toArray 9)=W1 at *
  generalize hg:W.heap.size=g at *
  gi_loopw [8] (fun i wr=>∃ k:Nat,k≤L.length∧i=.int .i64 k∧J k wr∧wr.heap[g]?=some (.cells (L.map tx).toArray 9 (0,0)))
    (fun i _=>L.length - (intOf i).toNat)
  case atStart => exact ⟨0, Nat.zero_le _, rfl, h0', hrow⟩
  case round =>
    obtain ⟨k,hk,rfl,hJs,hrw⟩:=hrel
    have hN:=HN.out
    by_cases hlt:k<L.length
    · have hcx:wr.cell? ⟨g,k,none⟩=some (tx (L.getD k [])):=by
        rw [cell_of_row wr g k _ _ (0,0) hrw]
        exact HL.out k hlt
      have hkI:(k:Int)<L.length:=by omega
      unfold tx at hcx
      have HC':=HC.out k
      have HT':=HT.out k
      unfold CutR tx at HC'
      unfold tx at HT'
      have HY:=Lib.hid (fun X hX=>hY k X hlt (hJB _ _ _ hJs hX))
      generalize zH2 (L.getD k [])=b at *
      generalize befT 35 (L.getD k [])=a at *
      generalize aftT 35 (L.getD k [])=a' at *
      generalize decide (35 ∈ L.getD k [])=bb at *
      generalize L.getD k []=s at *
      clear HC HT
      gi_wp2_with (first
        | (refine ⟨trivial,?_⟩;gi_at_call 83;refine (callsIn_wide.2 (HC' _)).mono ?_;rintro e w2 ⟨rfl,hb2⟩;have HB2:=Lib.hid hb2;clear hb2)
        | (refine ⟨trivial,?_⟩;gi_at_call 84;refine (callsIn_wide.2 (HT' _)).mono ?_;rintro e w3 ⟨rfl,hb3⟩;have HB3:=Lib.hid (HB2.out.trans (hb3.mono HB2.out.size));clear hb3;obtain ⟨fn,tmps,assign,body,hy,hR⟩:=HY.out w3 HB3.out;unfold encL tx at hy;dsimp only at hy))
      refine hR.mono ?_
      rintro e W3 ⟨rfl,hJ3,hk3⟩
      gi_wp2
      go_roundw
      case rel=>exact ⟨k + 1,by omega,by go_num,hJ3,hk3 _ _ _ hB ((HB3.out.block g (Array.getElem?_eq_some_iff.1 hrw).1).trans hrw)⟩
      case measure=>simp [intOf];omega
    · obtain rfl:k=L.length:=by omega
      gi_wp2
      go_end0
      exact ⟨⟨_,rfl⟩,hJs⟩
def onwards (B:Nat) (I:Nat→World→Prop) (k:Nat) (X:World) (e:Exit) (_:Act) (X':World):Prop :=
  e=.normal∧KeepsFrom B X X'∧KpS B X X'∧I (k + 1) X'
def Stays (B:Nat) (I:Nat→World→Prop):Prop:=∀ k X X' row,I k X→X.grownBy X' row→(∀ r,row=some r→B≤r∧∃ o:Obj,X.heap[r]?=some o∧o.isCells=false)→I k X'
theorem Stays.put {B:Nat} {I:Nat→World→Prop} (h:Stays B I) {k:Nat} {X:World} {r:Nat} {o o':Obj} (hi:I k X) (hr:B≤r) (ho:X.heap[r]?=some o) (hc:o.isCells=false):I k (X.putObj r o') :=
  h k X _ (some r) hi (grownBy_putObj' X r o') (fun q hq=>by cases hq;exact ⟨hr,o,ho,hc⟩)
theorem Stays.new {B:Nat} {I:Nat→World→Prop} (h:Stays B I) {k:Nat} {X:World} (o:Obj) (hi:I k X):I k (X.alloc o) :=
  h k X _ none hi (World.grownBy_alloc X o none) (fun _ hq=>by cases hq)
theorem zh4 {X X':World} (h:Below X.heap.size X X'):X.grownBy X' none:=⟨h.os,h.tape,h.output,h.size,fun k hk _=>h.block k hk⟩
theorem zL7 {X:World} {r q:Nat} {o':Obj} (h:q≠r):(X.putObj r o').heap[q]?=X.heap[q]?:=World.putObj_heap_other h
theorem zH7 {m:Nat} {g:Operand} {ps:Array Tmp} {assign body:Code} {Q:Exit→Act→World→Prop} {a:Act} {w:World} {gf:Nat} {lb:Array Value}
    (hg:a.eval g=.func (.func gf) #[] lb) (eg:∀ args w,(callFunc gf args).run Tryz.prog w=.ok (.enter gf args) w) (N:Nat) (A:Nat→Array Value) (hps:∀ k,(A k).size=ps.size) (a₁:Nat→Act)
    (I:Nat→World→Prop) (hI:Stays w.heap.size I) (h0:I 0 w)
    (hseq : ∀ (l : Nat) (J : Nat → World → Prop) (W : World), Below w.heap.size w W → (∀ k X X', J k X → Below X.heap.size X X' → J k X') →
      (∀ k X,k<N→J k X→YieldAt Fence.wide m Tryz.prog l (A k) X fun e X'=>e=.returned (.bool true)∧J (k + 1) X'∧KpS w.heap.size X X')→J 0 W →
      CallsIn Fence.wide (m + 1) Tryz.prog gf (#[.func (.yield l) #[] #[]] ++ lb) W fun e X=>(∃ v,e=.returned v)∧J N X)
    (hassign:∀ (l k:Nat) (X:World) (K:Act→World→Prop),K (a₁ k) X →
      assign.wpIn (Fence.wide.inRound l) m Tryz.prog (Exit.then K (fun _ _ _=>False)) { tmps:=(ps.zip (A k)).foldl (fun t (p,v)=>t.setIfInBounds p v) a.tmps,defers:=[] } X)
    (hbody:∀ (l k:Nat) (X:World),k<N→I k X→body.wpIn (Fence.wide.inRound l) m Tryz.prog (onwards w.heap.size I k X) (a₁ k) X)
    (hdone:∀ (D:Nat) (X:World),w.heap.size≤D→I N X→X.heap[D]?=some (.deferred (some []))→Q .normal { a with defers:={ target:=.collected D,args:=#[] } :: a.defers } X) :
    (Code.rangeFunc g ps assign body).wpIn Fence.wide (m + 1 + 1) Tryz.prog Q a w:=by
  refine wpIn_rangeFunc fun fn hfn=>?_
  obtain ⟨D,hD⟩:∃ D,w.heap.size=D:=⟨_,rfl⟩
  obtain ⟨rc,hrc⟩:∃ rc:LoopState→Option Code→Loop,rc=fun st pe=>{ state:=st,pending:=pe,fn,tmps:=a.tmps,params:=ps,assign,body,defers:=D }:=⟨_,rfl⟩
  -- the books: the block for deferred calls,the loop's record
  obtain ⟨V,hV⟩:∃ V,(w.alloc (.deferred (some []))).alloc (.loop (rc .ready none))=V:=⟨_,rfl⟩
  have sz1:(w.alloc (.deferred (some []))).heap.size=D + 1:=by rw [World.size_alloc,hD]
  have r1:V.heap[D + 1]?=some (.loop (rc .ready none)):=by
    rw [← hV,← sz1]
    exact World.alloc_heap_new _ _
  have d1:V.heap[D]?=some (.deferred (some [])):=by
    rw [← hV,Below.heap_alloc _ _ _ (by omega),← hD]
    exact World.alloc_heap_new w _
  have i1:I 0 V:=hV ▸ hI.new _ (hI.new _ h0)
  have b1:Below D w V:=by
    rw [← hV]
    have b0:Below D w w:=Below.refl D w
    exact (b0.alloc (by omega) _).alloc (by omega) _
  rw [hD] at hI hseq hbody hdone
  refine ⟨D + 1,[{ target:=.collected D,args:=#[] }],V,{ target:=.fn (.func gf) lb,args:=#[.func (.yield (D + 1)) #[] #[]] },V,gf,#[.func (.yield (D + 1)) #[] #[]] ++ lb,V,?_,?_,fun _ _=>trivial,?_,fun _=>by omega,?_⟩
  · rw [← hV,← hD,hrc,← hD]
    exact run_enterLoop_outer _ _ _ _ _
  · simp only [resolve,hg]
    simp [go_sem]
  · simp [invoke,go_sem,eg]
  refine (hseq (D + 1) (fun k X=>I k X∧X.heap[D + 1]?=some (.loop (rc .ready none))∧X.heap[D]?=some (.deferred (some []))) V b1 ?_ ?_ ⟨i1,r1,d1⟩).mono ?_
  · rintro k X X' ⟨hi,hr,hd⟩ hb
    have hlt:D + 1<X.heap.size:=(Array.getElem?_eq_some_iff.1 hr).1
    exact ⟨hI k X X' none hi (zh4 hb) (fun _ hq=>by cases hq),(hb.block _ hlt).trans hr,(hb.block _ (by omega)).trans hd⟩
  · -- one round
    rintro k X hk ⟨hi,hr,hd⟩
    have hlt:D + 1<X.heap.size:=(Array.getElem?_eq_some_iff.1 hr).1
    have hy:=run_yield (P:=Tryz.prog) (args:=A k) hr (by rw [hrc];exact hps k)
    rw [hrc] at hy
    refine ⟨fn,_,assign,body,hy,roundIn_of_wpIn hfn (hassign _ k X _ ⟨_,run_beginRound hr (by rw [hrc]),?_⟩)⟩
    clear hy
    -- the record is busy while the body runs
    obtain ⟨Y,hY⟩:∃ Y,X.putObj (D + 1) (.loop { rc .ready none with state:=.busy })=Y:=⟨_,rfl⟩
    rw [hY]
    have r2:Y.heap[D + 1]?=some (.loop { rc .ready none with state:=.busy }):=hY ▸ World.putObj_heap_same hlt
    have d2:Y.heap[D]?=some (.deferred (some [])):=hY ▸ (zL7 (by omega)).trans hd
    have i2:I k Y:=hY ▸ hI.put hi (by omega) hr rfl
    have k2:KpS D X Y:=hY ▸ KpS.putObj X _ _ _ hr rfl
    refine wpIn_mono (hbody _ k Y hk i2) ?_
    rintro e a3 Z ⟨rfl,f3,k3,i3⟩
    have r3:=f3.same _ _ (by omega) r2 rfl
    have d3:=f3.same _ _ (Nat.le_refl _) d2 rfl
    have he:=run_endRound (P:=Tryz.prog) none r3
    rw [hrc] at he
    refine ⟨_,_,he,rfl,⟨hI.put i3 (by omega) r3 rfl,?_,(zL7 (by omega)).trans d3⟩,k2.trans (k3.trans (KpS.putObj Z _ _ _ r3 rfl))⟩
    rw [hrc]
    exact World.putObj_heap_same (Array.getElem?_eq_some_iff.1 r3).1
  · -- behind the iterator
    rintro e X ⟨⟨v,rfl⟩,hi,hr,hd⟩
    have he:=run_endLoop (P:=Tryz.prog) hr (by rw [hrc];simp)
    rw [hrc] at he
    exact ⟨none,_,he,hdone D _ (Nat.le_refl _) (hI.put hi (by omega) hr rfl) ((zL7 (by omega)).trans hd)⟩
open Go.RowKit
structure Stm where
  label:List UInt8
  org:Bool
  dest:Int
  count:Int
  value:Int
  inst:Ins
  goal:List UInt8
def noStm:Stm:=⟨[],false,0,0,0,⟨0,0,0,0,0,false,false,0,0⟩,[]⟩
def stV (s:Stm):Value:=.agg #[tx s.label,.bool s.org,.int .i64 s.dest,.int .i64 s.count,.int .u64 s.value,.int .i64 s.inst.op,.int .i64 s.inst.rd,.int .i64 s.inst.rs1,.int .i64 s.inst.rs2,.int .i64 s.inst.imm,.bool s.inst.aq,.bool s.inst.rl,.int .i64 s.inst.pred,.int .i64 s.inst.succ,tx s.goal]
def ze8 (s:Stm):Array Value:=#[tx s.label,.bool s.org,.int .i64 s.dest,.int .i64 s.count,.int .u64 s.value,.int .i64 s.inst.op,.int .i64 s.inst.rd,.int .i64 s.inst.rs1,.int .i64 s.inst.rs2,.int .i64 s.inst.imm,.bool s.inst.aq,.bool s.inst.rl,.int .i64 s.inst.pred,.int .i64 s.inst.succ,tx s.goal]
def zq0 (s:Stm) (p:Int):Int:=if s.org then s.dest else p + s.count
theorem zU0 (s:Stm) (p:Int) (h : -9223372036854775808≤p + s.count∧p + s.count≤9223372036854775807) (w:World) :
    Calls Tryz.prog 53 #[stV s,.int .i64 p] w fun e w'=>e=.returned (.int .i64 (zq0 s p))∧Below w.heap.size w w':=by
  obtain ⟨lb,org,dest,count,value,⟨op,rd,rs1,rs2,imm,aq,rl,pred,succ⟩,goal⟩:=s
  unfold stV zq0 tx
  simp only at h ⊢
  have hw:IntKind.i64.wrap (p + count)=p + count:=by rw [IntKind.wrap_i64];omega
  have hw2:wrap64 (p + count)=p + count:=zy6 h
  have HB:∀ o,Below w.heap.size w (w.alloc o):=fun o=>(Below.refl _ w).alloc (Nat.le_refl _) o
  cases org
  · go_enter Tryz.func53,Tryz.ntmps53
    go_wp2
    go_ret
    exact ⟨rfl,HB _⟩
  · go_enter Tryz.func53,Tryz.ntmps53
    go_wp2
    go_ret
    exact ⟨rfl,HB _⟩
structure FitS (s:Stm) (p n:Int):Prop where
  place:0≤p∧p≤n∧n≤1024
  align:s.inst.op≠0→p % 4=0
  dest:s.org=true→0≤s.dest∧s.dest≤n
  count:s.count≤n - p
theorem fits_c (s:Stm) (p n:Int) (h:FitS s p n) (w:World) :
    Calls Tryz.prog 49 #[stV s,.int .i64 p,.int .i64 n] w fun e w'=>e=.returned (.int .i64 0)∧Below w.heap.size w w':=by
  obtain ⟨hp,ha,hd,hc⟩:=h
  have KA:=fun x=>zP3 p 4 (by omega) x
  obtain ⟨lb,org,dest,count,value,⟨op,rd,rs1,rs2,imm,aq,rl,pred,succ⟩,goal⟩:=s
  unfold stV tx
  simp only at ha hd hc ⊢
  have hw:IntKind.i64.wrap (n - p)=n - p:=by rw [IntKind.wrap_i64];omega
  have hw2:wrap64 (n - p)=n - p:=zy6 (by omega)
  have hgt:decide (n - p<count)=false:=decide_eq_false (by omega)
  have HB:∀ o,Below w.heap.size w (w.alloc o):=fun o=>(Below.refl _ w).alloc (Nat.le_refl _) o
  by_cases h0:op=0
  · have e0:decide (op=0)=true:=decide_eq_true h0
    clear ha
    cases org
    · go_enter Tryz.func49,Tryz.ntmps49
      go_wp2
      all_goals first | (go_ret;exact ⟨rfl,HB _⟩) | (exfalso;omega)
    · obtain ⟨hd1,hd2⟩:=hd rfl
      have d1:decide (dest<0)=false:=decide_eq_false (by omega)
      have d2:decide (n<dest)=false:=decide_eq_false (by omega)
      go_enter Tryz.func49,Tryz.ntmps49
      go_wp2
      all_goals first | (go_ret;exact ⟨rfl,HB _⟩) | (exfalso;omega)
  · have e0:decide (op=0)=false:=decide_eq_false h0
    have hal:alg p 4=true:=by
      unfold alg
      rw [decide_eq_true_eq]
      exact ⟨by omega,by omega,ha h0⟩
    rw [hal] at KA
    clear ha hal
    cases org
    · go_enter Tryz.func49,Tryz.ntmps49
      go_wp2_with (first
        | (go_at_call 79;refine (KA _).mono ?_;rintro e w' ⟨rfl,rfl⟩))
      all_goals first | (go_ret;exact ⟨rfl,HB _⟩) | (exfalso;omega)
    · obtain ⟨hd1,hd2⟩:=hd rfl
      have d1:decide (dest<0)=false:=decide_eq_false (by omega)
      have d2:decide (n<dest)=false:=decide_eq_false (by omega)
      go_enter Tryz.func49,Tryz.ntmps49
      go_wp2_with (first
        | (go_at_call 79;refine (KA _).mono ?_;rintro e w' ⟨rfl,rfl⟩))
      all_goals first | (go_ret;exact ⟨rfl,HB _⟩) | (exfalso;omega)
open Go.RowKit Go.Shelf
attribute [local go_sem] Oper.semAt_some
theorem zQ0 {F:Fence} {n:Nat} {P:Program} {ops:Array Oper} {rest:List Oper} {o:Oper} {a:Act} {w:World} {Q:Exit→Act→World→Prop} {cs:Array Value} {t:TypeId} {g:Nat} (hgd:o.guard=none) (ty:TypeId) (x:Operand) (ho:o.op=.load ty x) (hb:Blk cs t g w)
    (hx:a.eval x=.pointer (some ⟨g,0,none⟩)) {d:TypeDesc} (hu:P.underlying ty=some d) (hd:(match d with | .struct _ | .array _ _=>true | _=>false)=true) (hi:(P.info? ty).map (·.size)=some cs.size)
    (h:wpListIn F n P ops Q rest (a.put o.dst (.agg cs)) w):wpListIn F n P ops Q (o :: rest) a w:=by
  refine wpListIn_plain hgd fun K hK=>?_
  unfold Oper.wpIn
  refine ⟨by simp [Oper.about,ho],?_⟩
  rw [Oper.semAt_plain F _ _ (by rw [ho];intro c hc;cases hc)]
  unfold execOp
  simp only [ho,hx,Instr.loadAt,Instr.sureAddr,Sem.run_bind,Sem.run_pure,Result.andThen_ok,hb.var hu hd hi]
  exact hK _ _ h
structure Fr (n0 B:Nat) (X X':World):Prop where
  os:X'.os=X.os
  tape:X'.tape=X.tape
  output:X'.output=X.output
  size:X.heap.size≤X'.heap.size
  block:∀ (r:Nat) (o:Obj),X.heap[r]?=some o→(r<n0∨(B≤r∧o.isCells=true))→X'.heap[r]?=some o
theorem Fr.of_grown {n0 B:Nat} {X X':World} {row:Option Nat} (h:X.grownBy X' row) (hr:∀ r,row=some r→n0≤r∧(B≤r→∃ o:Obj,X.heap[r]?=some o∧o.isCells=false)):Fr n0 B X X' :=
  ⟨h.os,h.tape,h.output,h.size,fun r o ho hk=>by
    have hl:r<X.heap.size:=(Array.getElem?_eq_some_iff.1 ho).1
    refine (h.block r hl (fun e=>?_)).trans ho
    obtain ⟨h1,h2⟩:=hr r e.symm
    rcases hk with hk | ⟨hk,hc⟩
    · omega
    · obtain ⟨o', ho', hc'⟩ := h2 hk
      rw [ho] at ho'
      cases ho'
      rw [hc] at hc'
      cases hc'⟩
theorem Fr.of_below {n0 B:Nat} {X X':World} (h:Below X.heap.size X X'):Fr n0 B X X':=Fr.of_grown (row:=none) (zh4 h) (fun _ hq=>by cases hq)
theorem Fr.set {n0 B:Nat} (X:World) (b:Nat) (v:Value) (h:n0≤b∧b<B):Fr n0 B X (X.setCell ⟨b,0,none⟩ v) :=
  Fr.of_grown (grownBy_setCell' X b v) (fun r e=>by cases e;exact ⟨h.1,fun h2=>absurd h2 (by omega)⟩)
theorem KpS.set {B:Nat} (X:World) (b:Nat) (o:Nat) (v:Value) (h:b<B):KpS B X (X.setCell ⟨b,o,none⟩ v):=fun r cs p hr ho=>(Below.heap_setCell X _ v r (by show r≠b;omega)).trans ho
structure Dk (n0:Nat) (X X':World):Prop where
  size:X.heap.size≤X'.heap.size
  same:∀ (r:Nat) (o:Obj),n0≤r→X.heap[r]?=some o→(∀ cs p,o≠.cells cs 85 p)→X'.heap[r]?=some o
theorem Dk.of_below {n0:Nat} {X X':World} (h:Below X.heap.size X X'):Dk n0 X X':=⟨h.size,fun r _ _ ho _=>(h.block r (Array.getElem?_eq_some_iff.1 ho).1).trans ho⟩
theorem Dk.trans {n0:Nat} {X Y Z:World} (h:Dk n0 X Y) (k:Dk n0 Y Z):Dk n0 X Z:=⟨Nat.le_trans h.size k.size,fun r o hr ho hl=>k.same r o hr (h.same r o hr ho hl) hl⟩
theorem Dk.boxed {n0:Nat} {X X':World} (h:Dk n0 X X') {B:Nat} {t:TypeId} {v:Value} (hb:Boxed X B t v) (hB:n0≤B) (ht:t≠85):Boxed X' B t v :=
  h.same B _ hB hb (fun cs p e=>by cases e;exact ht rfl)
theorem Dk.keepsFrom {n0 B:Nat} {X X':World} (h:Dk n0 X X') (hB:n0≤B):KeepsFrom B X X' :=
  ⟨h.size,fun r o hr ho hc=>h.same r o (by omega) ho (fun _ _ e=>by subst e;cases hc)⟩
theorem Dk.kpS {n0 B:Nat} {X X':World} (h:Dk n0 X X') (hB:n0≤B):KpS B X X':=fun r cs p hr ho =>
  h.same r _ (by omega) ho (fun cs' p' e=>by cases e)
theorem Blk.dk {n0:Nat} {X X':World} {B:Nat} {cs:Array Value} (hb:Blk cs 64 B X) (h:Dk n0 X X') (hB:n0≤B):Blk cs 64 B X' :=
  h.same B _ hB hb (fun _ _ e=>by cases e)
theorem Boxed.on {X X':World} (h:Below X.heap.size X X') {B:Nat} {t:TypeId} {v:Value} (hb:Boxed X B t v):Boxed X' B t v:=(h.block B hb.lt).trans hb
theorem each_c (S:List UInt8) (w:World):Calls Tryz.prog 51 #[tx S] w fun e w' =>
    e=.returned (.func (.func 81) #[] #[.pointer (some ⟨w.heap.size,0,none⟩)])∧w'=w.alloc (.cells #[tx S] 9):=by
  unfold tx
  go_enter Tryz.func51,Tryz.ntmps51
  go_wp2
  go_ret
  exact ⟨rfl,rfl⟩
structure Own4 (n0 b1 b2 b3:Nat) (dv:Value) (p:Int) (X:World):Prop where
  lay:n0 + 1=b1∧b1 + 1=b2∧b2 + 1=b3∧b3 + 2≤X.heap.size
  dv:Boxed X n0 67 dv
  n:Boxed X b1 3 (.int .i64 0)
  e:Boxed X b2 35 (.int .i64 0)
  place:Boxed X b3 3 (.int .i64 p)
section
variable {n0 b1 b2 b3:Nat} {dv:Value} {p:Int} {X X':World}
theorem Own4.dk (h:Own4 n0 b1 b2 b3 dv p X) (k:Dk n0 X X'):Own4 n0 b1 b2 b3 dv p X':=by
  obtain ⟨h1,h2,h3,h4⟩:=h.lay
  exact ⟨⟨h1,h2,h3,Nat.le_trans h4 k.size⟩,k.boxed h.dv (Nat.le_refl _) (by decide),k.boxed h.n (by omega) (by decide),k.boxed h.e (by omega) (by decide),k.boxed h.place (by omega) (by decide)⟩
theorem Own4.on (h:Own4 n0 b1 b2 b3 dv p X) (hb:Below X.heap.size X X'):Own4 n0 b1 b2 b3 dv p X':=h.dk (Dk.of_below hb)
theorem Own4.stay {row:Option Nat} (h:Own4 n0 b1 b2 b3 dv p X) (hg:X.grownBy X' row) (hr:∀ r,row=some r→∃ o:Obj,X.heap[r]?=some o∧o.isCells=false):Own4 n0 b1 b2 b3 dv p X':=by
  have hb:∀ {B:Nat} {t:TypeId} {v:Value},Boxed X B t v→Boxed X' B t v:=fun {B t v} hb=>hb.kept hg (fun e=>by
    obtain ⟨o,ho,hc⟩:=hr B e.symm
    rw [show X.heap[B]?=_ from hb] at ho
    cases ho
    cases hc)
  obtain ⟨h1,h2,h3,h4⟩:=h.lay
  exact ⟨⟨h1,h2,h3,Nat.le_trans h4 hg.size⟩,hb h.dv,hb h.n,hb h.e,hb h.place⟩
theorem Own4.put (h:Own4 n0 b1 b2 b3 dv p X) (q:Int):Own4 n0 b1 b2 b3 dv q (X.setCell ⟨b3,0,none⟩ (.int .i64 q)):=by
  obtain ⟨h1,h2,h3,h4⟩:=h.lay
  exact ⟨⟨h1,h2,h3,by rw [World.size_setCell];exact h4⟩,h.dv.other (by omega) _,h.n.other (by omega) _,h.e.other (by omega) _,h.place.set _⟩
end
theorem st_one (s:Stm):∀ v ∈ (ze8 s).toList,v.oneCell'=true:=by
  intro v hv
  simp [ze8] at hv
  rcases hv with rfl | rfl | rfl | rfl | rfl | rfl | rfl | rfl | rfl | rfl | rfl | rfl | rfl | rfl | rfl <;> rfl
theorem zw2 {fn:Func} {p q:Tmp} {tmps:Array Value} {w:World} {g h:Nat} {u v:Value} (hr:fn.results=#[.cell p 3,.cell q 35]) (hp:tmps.getD p undef=.pointer (some ⟨g,0,none⟩)) (hq:tmps.getD q undef=.pointer (some ⟨h,0,none⟩))
    (hu:w.cell? ⟨g,0,none⟩=some u) (hv:w.cell? ⟨h,0,none⟩=some v):(results fn tmps).run Tryz.prog w=.ok (.tuple #[u,v]) w:=by
  have a1:=run_isAgg_plain (P:=Tryz.prog) Tryz.underlying3 rfl w
  have hp':tmps[p]?.getD undef=.pointer (some ⟨g,0,none⟩):=by simpa using hp
  have hq':tmps[q]?.getD undef=.pointer (some ⟨h,0,none⟩):=by simpa using hq
  simp [results, hr, hp', hq', asAddr, loadVar, a1, run_load, hu, hv]
theorem Zd1 (S:List UInt8) (hl:S.length≤100000) (a b c:Value) (ss:Nat→Stm) (pl:Nat→Int) (w:World) (J:Nat→World→Prop)
    (hJ : ∀ k X X', J k X → Fr w.heap.size (w.heap.size + 5) X X' → J k X')
    (hread:∀ k X,k<(zb2 S).length→J k X→Calls Tryz.prog 52 #[tx (zH2 ((zb2 S).getD k []))] X fun e X'=>e=.returned (.tuple #[stV (ss k),.bool true])∧Below X.heap.size X X')
    (hdo:∀ k X,k<(zb2 S).length→w.heap.size + 5≤X.heap.size→J k X→Calls Tryz.prog 48 #[stV (ss k),.int .i64 (pl k),a,b,c] X fun e X'=>e=.returned (.int .i64 0)∧J (k + 1) X'∧Dk w.heap.size X X')
    (hpl:∀ k,k<(zb2 S).length→pl (k + 1)=zq0 (ss k) (pl k)∧-9223372036854775808≤pl k + (ss k).count∧pl k + (ss k).count≤9223372036854775807) (hp0:pl 0=0) (h0:J 0 w) :
    Calls Tryz.prog 25 #[tx S,.func (.func 48) #[] #[a,b,c]] w fun e w'=>e=.returned (.tuple #[.int .i64 0,.int .i64 0])∧J (zb2 S).length w':=by
  refine (callsIn_wide (n:=9)).1 ?_
  refine callsIn_of_wp_marks Tryz.func25 rfl trivial ?_ rfl
  simp only [Tryz.ntmps25,List.size_toArray,List.length_cons,List.length_nil,Nat.reduceAdd,Nat.reduceSub,Array.replicate_succ,Array.replicate_zero,List.push_toArray,List.append_toArray,List.nil_append,List.cons_append]
  have KE:=fun x=>each_c S x
  have HE:=Lib.hid (fun l Bs B J m hY W h1 h2 h3 h4=>zT0 l Bs B S hl J m hY W h1 h2 h3 h4)
  have HPL:=Lib.hid hpl
  generalize zb2 S=L at *
  obtain ⟨ln,hln⟩:∃ ln:Nat→List UInt8,∀ k,zH2 (L.getD k [])=ln k:=⟨_,fun _=>rfl⟩
  simp only [hln] at HE hread
  obtain ⟨N,hN⟩:∃ N,L.length=N:=⟨_,rfl⟩
  rw [hN] at HE HPL hread hdo ⊢
  clear hN hln
  generalize hsv:tx S=sv at *
  clear hpl hl
  obtain ⟨n0,hn0⟩:∃ n0,w.heap.size=n0:=⟨_,rfl⟩
  rw [hn0] at hJ hdo
  gi_wp2_with (first
    | (refine ⟨trivial,?_⟩;gi_at_call 51;refine (callsIn_wide.2 (KE _)).mono ?_;rintro e w' ⟨rfl,rfl⟩))
  obtain ⟨b1,hb1⟩:∃ b,n0 + 1=b:=⟨_,rfl⟩
  obtain ⟨b2,hb2⟩:∃ b,b1 + 1=b:=⟨_,rfl⟩
  obtain ⟨b3,hb3⟩:∃ b,b2 + 1=b:=⟨_,rfl⟩
  obtain ⟨b4,hb4⟩:∃ b,b3 + 1=b:=⟨_,rfl⟩
  rw [hb1,hb2,hb3,hb4]
  obtain ⟨dv,hdv⟩:∃ dv:Value,dv=.func (.func 48) #[] #[a,b,c]:=⟨_,rfl⟩
  obtain ⟨W0,hW0⟩:∃ W0,((((w.alloc (Obj.cells #[Value.func (Fn.func 48) #[] #[a,b,c]] 67)).alloc (Obj.cells #[Value.int IntKind.i64 0] 3)).alloc (Obj.cells #[Value.int IntKind.i64 0] 35)).alloc (Obj.cells #[Value.int IntKind.i64 0] 3)).alloc (Obj.cells #[sv] 9)=W0:=⟨_,rfl⟩
  rw [hW0]
  have hsz:W0.heap.size=b4 + 1:=by rw [← hW0];simp only [World.size_alloc];omega
  have hO:Own4 n0 b1 b2 b3 dv (pl 0) W0:=by
    rw [← hW0,hp0,hdv]
    refine ⟨⟨hb1,hb2,hb3,by simp only [World.size_alloc];omega⟩,?_,?_,?_,?_⟩
    · rw [← hn0];exact ((((Boxed.new w _ _).alloc _).alloc _).alloc _).alloc _
    · have:=((((Boxed.new (w.alloc (Obj.cells #[Value.func (Fn.func 48) #[] #[a,b,c]] 67)) 3 (.int .i64 0)).alloc (Obj.cells #[Value.int IntKind.i64 0] 35)).alloc (Obj.cells #[Value.int IntKind.i64 0] 3)).alloc (Obj.cells #[sv] 9))
      simp only [World.size_alloc,hn0,hb1] at this
      exact this
    · have:=(((Boxed.new ((w.alloc (Obj.cells #[Value.func (Fn.func 48) #[] #[a,b,c]] 67)).alloc (Obj.cells #[Value.int IntKind.i64 0] 3)) 35 (.int .i64 0)).alloc (Obj.cells #[Value.int IntKind.i64 0] 3)).alloc (Obj.cells #[sv] 9))
      simp only [World.size_alloc,hn0,hb1,hb2] at this
      exact this
    · have:=((Boxed.new (((w.alloc (Obj.cells #[Value.func (Fn.func 48) #[] #[a,b,c]] 67)).alloc (Obj.cells #[Value.int IntKind.i64 0] 3)).alloc (Obj.cells #[Value.int IntKind.i64 0] 35)) 3 (.int .i64 0)).alloc (Obj.cells #[sv] 9))
      simp only [World.size_alloc,hn0,hb1,hb2,hb3] at this
      exact this
  have hS:W0.cell? ⟨b4,0,none⟩=some sv:=by
    rw [← hW0]
    have:=(Boxed.new ((((w.alloc (Obj.cells #[Value.func (Fn.func 48) #[] #[a,b,c]] 67)).alloc (Obj.cells #[Value.int IntKind.i64 0] 3)).alloc (Obj.cells #[Value.int IntKind.i64 0] 35)).alloc (Obj.cells #[Value.int IntKind.i64 0] 3)) 9 sv).cell
    simp only [World.size_alloc,hn0,hb1,hb2,hb3,hb4] at this
    exact this
  have hbw:Below n0 w W0:=by
    rw [← hW0]
    exact (((((hn0 ▸ Below.refl _ w:Below n0 w w).alloc (by omega) _).alloc (by simp only [World.size_alloc];omega) _).alloc (by simp only [World.size_alloc];omega) _).alloc (by simp only [World.size_alloc];omega) _).alloc (by simp only [World.size_alloc];omega) _
  have h0':J 0 W0:=hJ 0 w W0 h0 (Fr.of_below (hn0.symm ▸ hbw))
  rw [← hdv]
  refine zH7 (m:=7) (gf:=81) (lb:=#[.pointer (some ⟨b4,0,none⟩)]) rfl (enters_of Tryz.func81 (by kernel_rfl) rfl) N (fun k=>encL (k,ln k)) (fun _=>rfl)
    (fun k=>{ tmps:=#[sv,dv,undef,.pointer (some ⟨n0,0,none⟩),.pointer (some ⟨b1,0,none⟩),.pointer (some ⟨b2,0,none⟩),.pointer (some ⟨b3,0,none⟩),.int .i64 ((k:Int) + 1),tx (ln k),undef,undef,undef,sv,.func (.func 81) #[] #[.pointer (some ⟨b4,0,none⟩)],.int .i64 ((k:Int) + 1),tx (ln k),undef,undef,undef,undef,undef,undef,undef,undef,undef,undef,undef,undef,undef,undef,undef,undef,undef,undef,undef],defers:=[] })
    (fun k X=>Own4 n0 b1 b2 b3 dv (pl k) X∧J k X) ?stays ⟨hO,h0'⟩ ?seq ?assign ?body ?done
  case stays =>
    rintro k X X' row ⟨h1,h2⟩ hg hr
    rw [hsz] at hr
    exact ⟨h1.stay hg (fun r e=>(hr r e).2),hJ k X X' h2 (Fr.of_grown hg (fun r e=>⟨by have:=(hr r e).1;omega,fun _=>(hr r e).2⟩))⟩
  case seq =>
    intro l J' W hb hJ' hY hs
    rw [hsz] at hb hY
    exact HE.out l b4 (b4 + 1) J' 7 hY W hJ' (by have:=hb.size;omega) ((hb.cell (p:=⟨b4,0,none⟩) (by simp)).trans hS) hs
  case assign =>
    intro l k X K hK
    unfold encL
    rw [hdv] at hK
    gi_wp2
    exact hK
  case body =>
    rintro l k X hk ⟨hO,hj⟩
    have HR:=hread k X hk hj
    obtain ⟨hp1,hp2,hp3⟩:=HPL.out k hk
    have cdv:=hO.dv.cell
    have cpl:=hO.place.cell
    have HB:=fun Y (hb:Below X.heap.size X Y)=>(⟨hO.on hb,hJ k X Y hj (Fr.of_below hb)⟩:Own4 n0 b1 b2 b3 dv (pl k) Y∧J k Y)
    have HD:=Lib.hid (fun Y hsz hy=>hdo k Y hk hsz hy)
    have KB:=fun Y=>zU0 (ss k) (pl k) ⟨hp2,hp3⟩ Y
    have HP:=Lib.hid hp1
    clear hp1 hp2 hp3
    clear hread hdo
    generalize hs:ss k=s at *
    have hst:stV s=.agg (ze8 s):=rfl
    have hz:(ze8 s).size=15:=rfl
    rw [hst] at HR HD KB
    clear hst
    generalize zq0 s (pl k)=pq at *
    have ho1:=st_one s
    generalize ze8 s=cs at *
    have HZ:=fun Y=>(Blk.new #[.string ⟨#[]⟩,.bool false,.int .i64 0,.int .i64 0,.int .u64 0,.int .i64 0,.int .i64 0,.int .i64 0,.int .i64 0,.int .i64 0,.bool false,.bool false,.int .i64 0,.int .i64 0,.string ⟨#[]⟩] 64 Y).store (P:=Tryz.prog) cs.toList (by rw [Array.length_toList,hz];rfl) ho1
    gi_wp2_with (first
      | (refine ⟨trivial,?_⟩;gi_at_call 52;refine (CallsIn.inRound l (callsIn_wide.2 HR)).mono ?_;rintro e X2 ⟨rfl,hb2⟩;clear HR;obtain ⟨X4,hs4,hX4,hg4⟩:=HZ X2;have HX4:Blk cs 64 X2.heap.size X4:=(by simpa using hX4);clear hX4;have HB4:=Lib.hid (hb2.trans (((Below.refl _ X2).alloc (Nat.le_refl _) _).grown hg4 (by simp) (fun q hq=>by cases hq;exact Nat.le_refl _) |>.mono hb2.size));have HN2:=Lib.hid hb2.size;clear hb2 hg4;obtain ⟨hO4,hj4⟩:=HB _ HB4.out;have cdv4:=hO4.dv.cell;have cpl4:=hO4.place.cell)
      | (with_reducible refine zQ0 (o:=⟨some 25,_,_,_,_,_⟩) rfl 64 (.tmp 9) rfl HX4 rfl Tryz.underlying64 rfl (by rw [hz];kernel_rfl) ?_)
      | (refine ⟨trivial,?_⟩;gi_at_call 48;refine (CallsIn.inRound l (callsIn_wide.2 (HD.out _ (by have:=hO4.lay;omega) hj4))).mono ?_;rintro e X5 ⟨rfl,hj5,hk5⟩;have HK5:=Lib.hid hk5;have hO5:=hO4.dk hk5;have HX5:=Blk.dk HX4 hk5 (by have:=hO4.lay;have:=HN2.out;have:=hO.lay;omega);clear HX4 hk5 cdv4 cpl4;have cpl5:=hO5.place.cell)
      | (with_reducible refine zQ0 (o:=⟨some 32,_,_,_,_,_⟩) rfl 64 (.tmp 9) rfl HX5 rfl Tryz.underlying64 rfl (by rw [hz];kernel_rfl) ?_)
      | (refine ⟨trivial,?_⟩;gi_at_call 53;refine (CallsIn.inRound l (callsIn_wide.2 (KB _))).mono ?_;rintro e X6 ⟨rfl,hb6⟩;have HK6:=Lib.hid (HK5.out.trans (Dk.of_below hb6));have hO6:=hO5.on hb6;have HJ6:=Lib.hid (hJ _ _ _ hj5 (Fr.of_below hb6));clear HX5 hb6 cpl5;have cpl6:=hO6.place.cell;have fpl6:=hO6.place.frozen))
    obtain ⟨q1,q2,q3,q4⟩:=hO6.lay
    have hk:=(Dk.of_below (n0:=n0) HB4.out).trans HK6.out
    refine ⟨rfl,(hk.keepsFrom (by omega)).trans ((KeepsOthers.setCell _ _ _).from _),(hk.kpS (by omega)).trans (KpS.set _ _ _ _ (by omega)),?_,hJ _ _ _ HJ6.out (Fr.set _ _ _ ⟨by omega,by omega⟩)⟩
    show Own4 n0 b1 b2 b3 dv (pl (k + 1)) _
    rw [HP.out]
    exact hO6.put pq
  case done =>
    rintro D X hD ⟨hO,hj⟩ hK
    have c1:=hO.n.cell
    have f1:=hO.n.frozen
    have c2:=hO.e.cell
    have f2:=hO.e.frozen
    gi_wp2
    obtain ⟨q1,q2,q3,q4⟩:=hO.lay
    have hlt:D<X.heap.size:=(Array.getElem?_eq_some_iff.1 hK).1
    have hK2:((X.setCell ⟨b1,0,none⟩ (.int .i64 0)).setCell ⟨b2,0,none⟩ (.int .i64 0)).heap[D]?=some (.deferred (some [])) :=
      ((KeepsOthers.setCell _ _ _).trans (KeepsOthers.setCell _ _ _)).same D _ hK rfl
    refine ⟨by simp,.inl ⟨_,_,rfl,run_takeDeferred hK2,?_⟩⟩
    have z1:Boxed ((X.setCell ⟨b1,0,none⟩ (.int .i64 0)).setCell ⟨b2,0,none⟩ (.int .i64 0)) b1 3 (.int .i64 0):=(hO.n.set _).other (by omega) _
    have z2:Boxed ((X.setCell ⟨b1,0,none⟩ (.int .i64 0)).setCell ⟨b2,0,none⟩ (.int .i64 0)) b2 35 (.int .i64 0):=(hO.e.other (by omega) _).set _
    have y1:Boxed (((X.setCell ⟨b1,0,none⟩ (.int .i64 0)).setCell ⟨b2,0,none⟩ (.int .i64 0)).putObj D (.deferred none)) b1 3 (.int .i64 0):=z1.kept (grownBy_putObj' _ D _) (by simp;omega)
    have y2:Boxed (((X.setCell ⟨b1,0,none⟩ (.int .i64 0)).setCell ⟨b2,0,none⟩ (.int .i64 0)).putObj D (.deferred none)) b2 35 (.int .i64 0):=z2.kept (grownBy_putObj' _ D _) (by simp;omega)
    refine ⟨_,zw2 rfl rfl rfl y1.cell y2.cell,rfl,?_⟩
    refine hJ _ _ _ (hJ _ _ _ (hJ _ _ _ hj (Fr.set _ _ _ ⟨by omega,by omega⟩)) (Fr.set _ _ _ ⟨by omega,by omega⟩)) (Fr.of_grown (grownBy_putObj' _ D _) (fun r e=>?_))
    cases e
    exact ⟨by omega,fun _=>⟨_,hK2,rfl⟩⟩
open Go.RowKit
theorem zD4 (s:Stm) (p n:Int) (h:FitS s p n) (hl:s.label=[]) (b0 b1 b2:Nat) (X:World) (hc:X.cell? ⟨b0,0,none⟩=some (.int .i64 n)) :
    Calls Tryz.prog 48 #[stV s,.int .i64 p,.pointer (some ⟨b0,0,none⟩),.pointer (some ⟨b1,0,none⟩),.pointer (some ⟨b2,0,none⟩)] X fun e X'=>e=.returned (.int .i64 0)∧Below X.heap.size X X':=by
  have KF:=fun x=>fits_c s p n h x
  have HB:∀ o,Below X.heap.size X (X.alloc o):=fun o=>(Below.refl _ X).alloc (Nat.le_refl _) o
  have hlt:b0<X.heap.size:=World.block_lt_of_cell? X _ hc
  have hc1:∀ o,(X.alloc o).cell? ⟨b0,0,none⟩=some (.int .i64 n):=fun o=>(World.cell?_alloc_old X o _ (by simp;omega)).trans hc
  clear h hc
  obtain ⟨lb,org,dest,count,value,⟨op,rd,rs1,rs2,imm,aq,rl,pred,succ⟩,goal⟩:=s
  unfold stV at *
  simp only at hl KF ⊢
  subst hl
  have e0:tx []=.string ⟨#[]⟩:=rfl
  rw [e0] at KF ⊢
  generalize tx goal=gv at *
  go_enter Tryz.func48,Tryz.ntmps48
  go_wp2_with (first
    | (go_at_call 49;refine (KF _).mono ?_;rintro e X2 ⟨rfl,hb2⟩))
  go_ret
  exact ⟨rfl,(HB _).trans (hb2.mono (by simp))⟩
open Go.RowKit
abbrev Labs:=List (List UInt8 × Int)
def labD (L:Labs):DataW Unit:=L.foldl (fun D p=>D.put (.string p.1) (.lit (.int .i64 p.2))) (.map [])
def labC (L:Labs):List Value:=(L.map (fun p=>[tx p.1,.int .i64 p.2])).flatten
def zm7 (L:Labs) (s:List UInt8):Option Int:=(L.reverse.find? (fun p=>p.1 == s)).map (·.2)
theorem zx4 (L:Labs) (p:List UInt8 × Int):labD (L ++ [p])=(labD L).put (.string p.1) (.lit (.int .i64 p.2)):=by simp [labD]
theorem Zq5 (L:Labs) (p:List UInt8 × Int):labC (L ++ [p])=labC L ++ [tx p.1,.int .i64 p.2]:=by simp [labC]
theorem zR6 {P:Labs→Prop} (h0:P []) (hs:∀ l c,P l→P (l ++ [c])) (l:Labs):P l:=by
  rw [← l.reverse_reverse]
  induction l.reverse with
  | nil=>exact h0
  | cons a t ih=>rw [List.reverse_cons];exact hs _ _ ih
theorem zV6 (L:Labs):Maps.IsMap (labD L):=by
  refine zR6 (P:=fun L=>Maps.IsMap (labD L)) Maps.isMap_empty ?_ L
  intro L p h
  rw [zx4]
  exact h.put _ _
theorem zQ5 (s:List UInt8) (L:Labs):Maps.has (labD L) (.string s)=(zm7 L s).isSome∧(labD L).atKey (.string s) (.lit (.int .i64 0))=.lit (.int .i64 ((zm7 L s).getD 0)):=by
  refine zR6 (P:=fun L=>Maps.has (labD L) (.string s)=(zm7 L s).isSome∧(labD L).atKey (.string s) (.lit (.int .i64 0))=.lit (.int .i64 ((zm7 L s).getD 0))) ⟨rfl,rfl⟩ ?_ L
  rintro L ⟨n,p⟩ ⟨h1,h2⟩
  rw [zx4]
  by_cases h:n=s
  · subst h
    have e:zm7 (L ++ [(n,p)]) n=some p:=by simp [zm7]
    rw [e]
    have hk:WideAt.IsKeyLit (.string n):=trivial
    exact ⟨Maps.has_put_same (zV6 L) hk _,Maps.atKey_put_same (zV6 L) hk _ _⟩
  · have e:zm7 (L ++ [(n,p)]) s=zm7 L s:=by
      have hb:(n == s)=false:=by simpa using h
      simp [zm7,hb]
    rw [e]
    have hne:Lit.string s≠Lit.string n:=fun e=>h (by cases e;rfl)
    exact ⟨(Maps.has_put_other hne _).trans h1,(Maps.atKey_put_other hne _ _).trans h2⟩
theorem zG2:Maps.Keyed Tryz.prog 9:=Maps.string_keyed Tryz.underlying9
theorem key_of (s:List UInt8) (h:s.length≤100000):keyOf Tryz.prog 9 (tx s)=some (.string s):=by
  refine keyOf_of_mapKey ?_
  unfold tx mapKey
  rw [Tryz.underlying9]
  show (if (bs s).size≤maxLen then some (Lit.string (bs s).data.toList) else none)=_
  rw [if_pos (by show s.length≤_;unfold maxLen;omega)]
  simp [bs]
structure Kx (S:Nat→Prop) (X X':World):Prop where
  os:X'.os=X.os
  tape:X'.tape=X.tape
  output:X'.output=X.output
  size:X.heap.size≤X'.heap.size
  block:∀ r,r<X.heap.size→¬ S r→X'.heap[r]?=X.heap[r]?
theorem Kx.of_grown {S:Nat→Prop} {X X':World} {row:Option Nat} (h:X.grownBy X' row) (hr:∀ r,row=some r→r<X.heap.size→S r):Kx S X X' :=
  ⟨h.os,h.tape,h.output,h.size,fun r hl hS=>h.block r hl (fun e=>hS (hr r e.symm hl))⟩
theorem Kx.trans {S:Nat→Prop} {X Y Z:World} (h:Kx S X Y) (k:Kx S Y Z):Kx S X Z :=
  ⟨k.os.trans h.os,k.tape.trans h.tape,k.output.trans h.output,Nat.le_trans h.size k.size,fun r hl hS=>(k.block r (Nat.lt_of_lt_of_le hl h.size) hS).trans (h.block r hl hS)⟩
theorem Kx.boxed {S:Nat→Prop} {X X':World} (h:Kx S X X') {b:Nat} {t:TypeId} {v:Value} (hb:Boxed X b t v) (hS:¬ S b):Boxed X' b t v:=(h.block b hb.lt hS).trans hb
structure LabJ (L:Labs) (base b b2:Nat) (v:Value) (X:World):Prop where
  map:X.ownsMap Tryz.prog 9 (plainElem Tryz.prog 3) b L.length (labD L)
  box:Boxed X b2 34 v
  row:X.ownsRow base 85 2 v L.length (labC L)
theorem zZ9:(Tryz.prog.info? 85).map (fun i=>(i.zero,i.size,i.bytes))=some (some (.agg #[.string ⟨#[]⟩,.int .i64 0]),2,24):=by kernel_rfl
theorem zH5 (s:List UInt8) (h:s.length≤100000) (w:World):Calls Tryz.prog 50 #[tx s] w fun e w'=>e=.returned (tx s)∧Below w.heap.size w w':=by
  have HK:=Tryz.stringslite_Clone (bs s) w (by show s.length≤_;omega)
  unfold tx
  generalize bs s=q at *
  go_enter Tryz.func50,Tryz.ntmps50
  go_wp2_with (first
    | (go_at_call 80;refine HK.mono ?_;rintro e w' ⟨rfl,hb⟩))
  go_ret
  exact ⟨rfl,hb⟩
theorem zA9 {X:World} {base g n m:Nat} {e k:TypeId} {sz:Nat} {v:Value} {xs:List Value} {R:Value→Option (DataW Unit × List MemPlace)} {D:DataW Unit} (hm:X.ownsMap Tryz.prog k R g m D) (h:X.ownsRow base e sz v n xs):some g≠v.ownBlock:=by
  obtain ⟨es,clock,hb,_⟩:=hm
  rcases h.2 with ⟨rfl, _⟩ | ⟨g', c, cur, rfl, _, hg, _⟩
  · simp [Value.ownBlock]
  · intro e
    simp [Value.ownBlock] at e
    subst e
    rw [hb] at hg
    cases hg
theorem lab_new (u v:Value) (w:World):∀ j x,[u,v][j]?=some x→(w.alloc (.cells #[u,v] 85)).cell? ((⟨w.heap.size,0,none⟩:Addr).add j)=some x:=by
  intro j x hx
  have hadd:(⟨w.heap.size,0,none⟩:Addr).add j=⟨w.heap.size,j,none⟩:=by unfold Addr.add;split <;> simp_all
  rw [hadd,(Blk.new #[u,v] 85 w).cell j]
  simpa using hx
def labS (b b2:Nat) (v:Value) (r:Nat):Prop:=r=b∨r=b2∨some r=v.ownBlock
theorem zD3 (s:Stm) (p:Int) (hp:0≤p∧p≤1024) (L:Labs) (hl:s.label≠[]) (hll:s.label.length≤16) (hno:zm7 L s.label=none) (hL:L.length≤100000) (b0 b1 b b2 base:Nat) (v:Value) (X:World) (hbase:base≤X.heap.size)
    (hne:b≠b2) (h1:X.cell? ⟨b1,0,none⟩=some (.map (some b))) (hJ:LabJ L base b b2 v X) :
    Calls Tryz.prog 48 #[stV s, .int .i64 p, .pointer (some ⟨b0, 0, none⟩), .pointer (some ⟨b1, 0, none⟩), .pointer (some ⟨b2, 0, none⟩)] X fun e X' => e = .returned (.int .i64 0) ∧ (∃ v', LabJ (L ++ [(s.label, p)]) base b b2 v' X') ∧ Kx (labS b b2 v) X X' := by
  obtain ⟨i0,hi,hz0,hz1,hz2⟩:=info_parts zZ9
  obtain ⟨hm,hbx,hrow⟩:=hJ
  have hb1:b1<X.heap.size:=World.block_lt_of_cell? X _ h1
  have hkey:=key_of s.label (by omega)
  have hhas:=(zQ5 s.label L).1
  rw [hno] at hhas
  have hhas:Maps.has (labD L) (.string s.label)=false:=hhas
  have KC:=fun x=>zH5 s.label (by omega) x
  have hq:((bs s.label).toList.isEmpty)=false:=by
    rw [ze3]
    cases hs:s.label with
    | nil=>exact absurd hs hl
    | cons a t=>rfl
  have HS1:=Lib.hid (zx4 L (s.label,p))
  have HS2:=Lib.hid (Zq5 L (s.label,p))
  have hlen:(L ++ [(s.label,p)]).length=L.length + 1:=by simp
  obtain ⟨lb,org,dest,count,value,⟨op,rd,rs1,rs2,imm,aq,rl,pred,succ⟩,goal⟩:=s
  unfold stV
  unfold tx at *
  simp only at hkey hhas KC hq hll HS1 HS2 hlen ⊢
  clear hl hno
  have hm1:∀ x,Below X.heap.size X x→x.ownsMap Tryz.prog 9 (plainElem Tryz.prog 3) b L.length (labD L):=fun x hb=>hm.kept (zh4 hb) (by simp)
  have hc1:∀ o,(X.alloc o).cell? ⟨b1,0,none⟩=some (.map (some b)):=fun o=>(World.cell?_alloc_old X o _ (by simp;omega)).trans h1
  have HB:Hid (∀ o,Below X.heap.size X (X.alloc o)):=Lib.hid (fun o=>(Below.refl _ X).alloc (Nat.le_refl _) o)
  generalize bs lb=q at *
  generalize bs goal=gq at *
  go_enter Tryz.func48,Tryz.ntmps48
  go_upto_region 7 with (first
    | (at_lookup;refine wpList_lookup_own_ok_int _ rfl _ _ 58 rfl 9 3 .i64 zG2 Tryz.underlying58 Tryz.underlying3 (Tryz.zeroValue3 _) b L.length (labD L) rfl (hm1 _ (HB.out _)) _ _ rfl hkey ?_;intro c hat hwc;rw [hhas])
    | (go_at_call 50;refine (KC _).mono ?_;rintro e x2 ⟨rfl,hb2⟩;have HB2:=Lib.hid ((HB.out _).trans (hb2.mono (by simp)));clear hb2))
  have hX2:=HB2.out
  have hm2:=hm1 _ hX2
  have hc2:x2.cell? ⟨b1,0,none⟩=some (.map (some b)):=(hX2.cell (p:=⟨b1,0,none⟩) hb1).trans h1
  have hbx2:=Boxed.on hX2 hbx
  have hrow2:=hrow.kept (zh4 hX2) (Classical.em _)
  clear hm hm1 hc1 h1 KC hrow hbx
  have hwf:(Lit.int .i64 p).wf=true:=by
    have h:=wrap64_wf p
    rw [zy6 (x:=p) (by omega)] at h
    exact h
  have hpe:plainElem (H:=Unit) Tryz.prog 3 (.int .i64 p)=some (.lit (.int .i64 p),[]):=plainElem_int Tryz.underlying3 hwf
  go_upto_region 8 with (first
    | (at_mapUpdate;refine wpList_mapUpdate_own _ rfl _ _ _ 58 rfl 9 3 zG2 Tryz.underlying58 (plainElem Tryz.prog 3) b L.length (labD L) rfl hm2 (by unfold maxLen;omega) _ _ _ rfl rfl hkey (.lit (.int .i64 p)) [] hpe ?_;intro x3 hm3 hg3))
  have hne3:=zA9 hm2 hrow2
  have hrow3:=hrow2.kept hg3 (.inr hne3.symm)
  have hbx3:Boxed x3 b2 34 v:=hbx2.kept hg3 (by simpa using hne.symm)
  have HX3:Hid (X.grownBy x3 (some b)):=⟨hg3.os.trans hX2.os,hg3.tape.trans hX2.tape,hg3.output.trans hX2.output,Nat.le_trans hX2.size hg3.size,fun r hr hn=>(hg3.block r (Nat.lt_of_lt_of_le hr hX2.size) hn).trans (hX2.block r hr)⟩
  have c3:=hbx3.cell
  have f3:=hbx3.frozen
  have hsz3:base≤x3.heap.size:=Nat.le_trans hbase HX3.out.size
  have HNR:Hid (some b2≠v.ownBlock):=Lib.hid (hbx3.not_row (by decide) hrow3)
  have HNM:Hid (some b≠v.ownBlock):=Lib.hid (zA9 hm3 hrow3)
  have HM3:=Lib.hid hm3
  have HR3:=Lib.hid hrow3
  clear hm3 hrow3 hm2 hrow2 hbx2 hX2 HB HB2 hc2 hkey hhas hat
  have c4:∀ o,(x3.alloc o).cell? ⟨b2,0,none⟩=some v:=fun o=>(World.cell?_alloc_old x3 o _ (by have:=hbx3.lt;simp;omega)).trans c3
  go_upto_region 9 with (first
    | (at_builtin;refine wpList_append_own _ rfl _ _ 34 rfl base 85 i0 (.agg #[.string ⟨#[]⟩,.int .i64 0]) 2 24 Tryz.underlying34 hi hz0 hz1 hz2 rfl (by decide) _ L.length (labC L) rfl (HR3.out.alloc _) ⟨x3.heap.size,0,none⟩ 1 1 [.string q,.int .i64 p] rfl rfl (lab_new _ _ _) (by simp [Value.oneCell']) (by unfold maxLen;omega) (by omega) (by simp;omega) ?_;intro v5 x5 hown5 hgrow5 hnn5;clear hnn5;obtain ⟨g5,cap5,rfl⟩:=ownsRow_succ hown5;have HO5:=Lib.hid hown5;have HG5:=Lib.hid hgrow5;have hbx5:=(hbx3.alloc (.cells #[.string q,.int .i64 p] 85)).kept hgrow5 HNR.out;clear hown5 hgrow5;have c5:=hbx5.cell;have f5:=hbx5.frozen))
  go_wp2
  go_ret
  have hm5:=(HM3.out.alloc (.cells #[.string q,.int .i64 p] 85)).kept HG5.out HNM.out
  have hne5:some b2≠(Value.slice (some ⟨g5,0,none⟩) (L.length + 1) cap5).ownBlock:=hbx5.not_row (by decide) HO5.out
  refine ⟨rfl,⟨_,?_,hbx5.set _,?_⟩,?_⟩
  · rw [hlen,HS1.out]
    exact hm5.kept (grownBy_setCell' _ _ _) (by simpa using hne)
  · rw [hlen,HS2.out]
    exact HO5.out.kept (grownBy_setCell' _ _ _) (.inr hne5.symm)
  · refine (Kx.of_grown HX3.out (fun r e _=>by cases e;exact .inl rfl)).trans ((Kx.of_grown (World.grownBy_alloc x3 (.cells #[.string q,.int .i64 p] 85) none) (fun r e _=>by cases e)).trans ((Kx.of_grown HG5.out (fun r e _=>.inr (.inr e.symm))).trans (Kx.of_grown (grownBy_setCell' _ _ _) (fun r e _=>by cases e;exact .inr (.inl rfl)))))
open Go.RowKit Go.Shelf
structure Prog1 (w:World) (S:List UInt8) (n:Int) (ss:Nat→Stm) (pl:Nat→Int) (lab:Nat→Labs):Prop where
  len:S.length≤65536
  size:0≤n∧n≤1024
  read:∀ k X,k<(zb2 S).length→BW w X→Calls Tryz.prog 52 #[tx (zH2 ((zb2 S).getD k []))] X fun e X'=>e=.returned (.tuple #[stV (ss k),.bool true])∧Below X.heap.size X X'
  step:∀ k,k<(zb2 S).length→((ss k).label=[]∧FitS (ss k) (pl k) n∧lab (k + 1)=lab k)∨((ss k).label≠[]∧(ss k).label.length≤16∧zm7 (lab k) (ss k).label=none∧lab (k + 1)=lab k ++ [((ss k).label,pl k)])
  place:∀ k,k<(zb2 S).length→0≤pl k∧pl k + (ss k).count≤n∧0≤(ss k).count
  next:∀ k,k<(zb2 S).length→pl (k + 1)=zq0 (ss k) (pl k)
  start:pl 0=0∧lab 0=[]
theorem Prog1.few {w:World} {S:List UInt8} {n:Int} {ss:Nat→Stm} {pl:Nat→Int} {lab:Nat→Labs} (h:Prog1 w S n ss pl lab):∀ k,k≤(zb2 S).length→(lab k).length≤k
  | 0,_=>by rw [h.start.2];exact Nat.le_refl _
  | k + 1,hk=>by
    have ih:=h.few k (by omega)
    rcases h.step k (by omega) with ⟨_,_,e⟩ | ⟨_,_,_,e⟩
    · rw [e];omega
    · rw [e,List.length_append];simp;omega
theorem Zm4 (S:List UInt8) (h:S.length≤65536):(zb2 S).length≤65537:=by
  rw [zx2]
  have:=Lib.countB_le ⟨#[10]⟩ (by decide) _ (bs S) (Nat.le_refl _)
  have hs:(bs S).size=S.length:=rfl
  omega
theorem Zp7 {X X':World} {k:TypeId} {R:Value→Option (DataW Unit × List MemPlace)} {b n:Nat} {D:DataW Unit} (h:X.ownsMap Tryz.prog k R b n D) (e:∀ o,X.heap[b]?=some o→X'.heap[b]?=some o):X'.ownsMap Tryz.prog k R b n D:=by
  obtain ⟨es,clock,hb,r⟩:=h
  exact ⟨es,clock,e _ hb,r⟩
theorem Zl1 {X X':World} {base:Nat} {t:TypeId} {z n:Nat} {v:Value} {xs:List Value} (h:X.ownsRow base t z v n xs) (e:∀ g cs,base≤g→X.heap[g]?=some (.cells cs t (0,0))→X'.heap[g]?=some (.cells cs t (0,0))):X'.ownsRow base t z v n xs:=by
  refine ⟨h.1,?_⟩
  rcases h.2 with h2 | ⟨g,c,cur,hv,hb,hg,r⟩
  · exact .inl h2
  · exact .inr ⟨g,c,cur,hv,hb,e g cur hb hg,r⟩
theorem zv7 {X:World} {base:Nat} {t:TypeId} {z n:Nat} {v:Value} {xs:List Value} (h:X.ownsRow base t z v n xs) {r:Nat} (hr:some r=v.ownBlock):base≤r∧∃ cs,X.heap[r]?=some (.cells cs t (0,0)):=by
  rcases h.2 with ⟨rfl,_⟩ | ⟨g,c,cur,rfl,hb,hg,_⟩
  · cases hr
  · have e:r=g:=by simpa [Value.ownBlock] using hr
    subst e
    exact ⟨hb,cur,hg⟩
theorem Fr.boxed {n0 B:Nat} {X X':World} (h:Fr n0 B X X') {b:Nat} {t:TypeId} {v:Value} (hb:Boxed X b t v) (hlt:b<n0):Boxed X' b t v:=h.block b _ hb (.inl hlt)
theorem Fr.below {n0 B b0:Nat} {w X X':World} (h:Fr n0 B X X') (hb:Below b0 w X) (hlt:b0≤n0) (hw:b0≤w.heap.size):Below b0 w X' :=
  ⟨h.os.trans hb.os,h.tape.trans hb.tape,h.output.trans hb.output,Nat.le_trans hb.size h.size,fun k hk=>by
    have hk2:k<X.heap.size:=Nat.lt_of_lt_of_le (Nat.lt_of_lt_of_le hk hw) hb.size
    rw [← hb.block k hk,Array.getElem?_eq_getElem hk2]
    exact h.block k _ (Array.getElem?_eq_getElem hk2) (.inl (by omega))⟩
theorem zu9 {fn:Func} {t u v x:Tmp} (h:fn.results=#[.tmp t,.tmp u,.tmp v,.tmp x]) (tmps:Array Value) (P:Program) (w:World) :
    (results fn tmps).run P w=.ok (.tuple #[tmps.getD t undef,tmps.getD u undef,tmps.getD v undef,tmps.getD x undef]) w:=by
  simp [results,h]
structure SurJ (w:World) (n:Int) (b0 b1 b2 b3 base:Nat) (L:Labs) (X:World):Prop where
  size:Boxed X b0 3 (.int .i64 n)
  map:Boxed X b3 58 (.map (some b2))
  lab:∃ v,LabJ L base b2 b1 v X
  below:Below b0 w X
theorem LabJ.fr {L:Labs} {base b2 b1 n0 B:Nat} {v:Value} {X X':World} (h:LabJ L base b2 b1 v X) (hf:Fr n0 B X X') (hlt:b2<n0∧b1<n0) (hB:B≤base):LabJ L base b2 b1 v X' :=
  ⟨Zp7 h.map (fun o ho=>hf.block b2 o ho (.inl hlt.1)),hf.boxed h.box hlt.2,Zl1 h.row (fun g _ hg ho=>hf.block g _ ho (.inr ⟨Nat.le_trans hB hg,rfl⟩))⟩
theorem LabJ.on {L:Labs} {base b2 b1:Nat} {v:Value} {X X':World} (h:LabJ L base b2 b1 v X) (hb:Below X.heap.size X X'):LabJ L base b2 b1 v X' :=
  ⟨Zp7 h.map (fun _ ho=>(hb.block b2 (Array.getElem?_eq_some_iff.1 ho).1).trans ho),Boxed.on hb h.box,Zl1 h.row (fun g _ _ ho=>(hb.block g (Array.getElem?_eq_some_iff.1 ho).1).trans ho)⟩
theorem zS1 {b0:Nat} {w X X':World} (h:Below b0 w X) (hw:b0≤w.heap.size) (hb:Below X.heap.size X X'):Below b0 w X':=h.trans (hb.mono (Nat.le_trans hw h.size))
theorem sur_step {w:World} {S:List UInt8} {n:Int} {ss:Nat→Stm} {pl:Nat→Int} {lab:Nat→Labs} (h:Prog1 w S n ss pl lab) (b0 b1 b2 b3 n0:Nat) (hw:w.heap.size=b0) (hb:b0 + 1=b1∧b1 + 1=b2∧b2 + 1=b3∧b3<n0)
    (k:Nat) (X:World) (hk:k<(zb2 S).length) (hsz:n0 + 5≤X.heap.size) (hX:SurJ w n b0 b1 b2 b3 (n0 + 5) (lab k) X) :
    Calls Tryz.prog 48 #[stV (ss k),.int .i64 (pl k),.pointer (some ⟨b0,0,none⟩),.pointer (some ⟨b3,0,none⟩),.pointer (some ⟨b1,0,none⟩)] X fun e X'=>e=.returned (.int .i64 0)∧SurJ w n b0 b1 b2 b3 (n0 + 5) (lab (k + 1)) X'∧Dk n0 X X':=by
  obtain ⟨h1,h2,⟨v,h3⟩,h4⟩:=hX
  rcases h.step k hk with ⟨hl,hf,he⟩ | ⟨hl,hll,hno,he⟩
  · refine (zD4 (ss k) (pl k) n hf hl b0 b3 b1 X h1.cell).mono ?_
    rintro e X' ⟨rfl,hb'⟩
    rw [he]
    exact ⟨rfl,⟨Boxed.on hb' h1,Boxed.on hb' h2,⟨v,h3.on hb'⟩,zS1 h4 (by omega) hb'⟩,Dk.of_below hb'⟩
  · have hp:=h.place k hk
    have hsz2:=h.size
    have hfew:=h.few k (by omega)
    have hln:=Zm4 S h.len
    refine (zD3 (ss k) (pl k) ⟨hp.1,by omega⟩ (lab k) hl hll hno (by omega) b0 b3 b2 b1 (n0 + 5) v X hsz (by omega) h2.cell h3).mono ?_
    rintro e X' ⟨rfl, ⟨v', h5⟩, hx⟩
    have hr:∀ r,r<n0→some r≠v.ownBlock:=fun r hr e=>by have:=(zv7 h3.row e).1;omega
    rw [he]
    refine ⟨rfl, ⟨hx.boxed h1 ?_, hx.boxed h2 ?_, ⟨v', h5⟩, ⟨hx.os.trans h4.os, hx.tape.trans h4.tape, hx.output.trans h4.output, Nat.le_trans h4.size hx.size, fun q hq => ?_⟩⟩, ⟨hx.size, fun r o hr2 ho hne => ?_⟩⟩
    · rintro (e | e | e)
      · omega
      · omega
      · exact hr _ (by omega) e
    · rintro (e | e | e)
      · omega
      · omega
      · exact hr _ (by omega) e
    · rw [← h4.block q hq]
      refine hx.block q (Nat.lt_of_lt_of_le (by omega) h4.size) ?_
      rintro (e | e | e)
      · omega
      · omega
      · exact hr _ (by omega) e
    · refine (hx.block r (Array.getElem?_eq_some_iff.1 ho).1 ?_).trans ho
      rintro (e | e | e)
      · omega
      · omega
      · obtain ⟨_,cs,hcs⟩:=zv7 h3.row e
        rw [ho] at hcs
        cases hcs
        exact hne cs _ rfl
theorem survey_c (S:List UInt8) (n:Int) (ss:Nat→Stm) (pl:Nat→Int) (lab:Nat→Labs) (w:World) (h:Prog1 w S n ss pl lab) :
    Calls Tryz.prog 24 #[tx S,.int .i64 n] w fun e w'=>∃ r v,e=.returned (.tuple #[v,.map (some r),.int .i64 0,.int .i64 0])∧Below w.heap.size w w'∧w.heap.size≤r∧w'.ownsMap Tryz.prog 9 (plainElem Tryz.prog 3) r (lab (zb2 S).length).length (labD (lab (zb2 S).length)) ∧
      w'.ownsRow w.heap.size 85 2 v (lab (zb2 S).length).length (labC (lab (zb2 S).length)):=by
  have KT:=fun (b0 b1 b2 b3:Nat) (x:World) (hw:w.heap.size=b0) (hlt:b0 + 1=b1∧b1 + 1=b2∧b2 + 1=b3∧b3<x.heap.size) (hj:SurJ w n b0 b1 b2 b3 (x.heap.size + 5) (lab 0) x) =>
    Zd1 S (by have:=h.len;omega) (.pointer (some ⟨b0,0,none⟩)) (.pointer (some ⟨b3,0,none⟩)) (.pointer (some ⟨b1,0,none⟩)) ss pl x (fun k X=>SurJ w n b0 b1 b2 b3 (x.heap.size + 5) (lab k) X)
      (fun _ X X' hX hf=>⟨hf.boxed hX.size (by omega),hf.boxed hX.map (by omega),hX.lab.imp (fun v hv=>hv.fr hf (by omega) (Nat.le_refl _)),hf.below hX.below (by omega) (by omega)⟩)
      (fun k X hk hX=>h.read k X hk (by have:=hX.below;rw [← hw] at this;exact this))
      (fun k X hk hsz hX=>sur_step h b0 b1 b2 b3 x.heap.size hw (by omega) k X hk hsz hX)
      (fun k hk=>⟨h.next k hk,by have:=h.place k hk;omega,by have:=h.place k hk;have:=h.size;omega⟩) h.start.1 hj
  rw [h.start.2] at KT
  have HT:=Lib.hid KT
  clear KT h
  generalize lab (zb2 S).length=L at *
  generalize tx S=sv at *
  have hmm:=@run_makeMap Tryz.prog
  go_enter Tryz.func24,Tryz.ntmps24
  go_upto_region 3 with (fail)
  obtain ⟨b0,hb0⟩:∃ b,w.heap.size=b:=⟨_,rfl⟩
  rw [hb0]
  obtain ⟨b1,hb1⟩:∃ b,b0 + 1=b:=⟨_,rfl⟩
  rw [hb1]
  obtain ⟨b2,hb2⟩:∃ b,b1 + 1=b:=⟨_,rfl⟩
  rw [hb2]
  obtain ⟨b3,hb3⟩:∃ b,b2 + 1=b:=⟨_,rfl⟩
  rw [hb3]
  have s1:=World.size_alloc w (.cells #[.int .i64 n] 3)
  have s2:=World.size_alloc (w.alloc (.cells #[.int .i64 n] 3)) (.cells #[.slice none 0 0] 34)
  have s3:=World.size_alloc ((w.alloc (.cells #[.int .i64 n] 3)).alloc (.cells #[.slice none 0 0] 34)) (.map #[] 0)
  have s4:=World.size_alloc (((w.alloc (.cells #[.int .i64 n] 3)).alloc (.cells #[.slice none 0 0] 34)).alloc (.map #[] 0)) (.cells #[.map (some b2)] 58)
  have j1:=(((Boxed.new w 3 (.int .i64 n)).alloc (.cells #[.slice none 0 0] 34)).alloc (.map #[] 0)).alloc (.cells #[.map (some b2)] 58)
  have j2:=((Boxed.new (w.alloc (.cells #[.int .i64 n] 3)) 34 (.slice none 0 0)).alloc (.map #[] 0)).alloc (.cells #[.map (some b2)] 58)
  have j3:=Boxed.new (((w.alloc (.cells #[.int .i64 n] 3)).alloc (.cells #[.slice none 0 0] 34)).alloc (.map #[] 0)) 58 (.map (some b2))
  have j4:Below b0 w ((((w.alloc (.cells #[.int .i64 n] 3)).alloc (.cells #[.slice none 0 0] 34)).alloc (.map #[] 0)).alloc (.cells #[.map (some b2)] 58)) :=
    ((((Below.refl b0 w).alloc (by omega) _).alloc (by omega) _).alloc (by omega) _).alloc (by omega) _
  rw [show w.heap.size=b0 from hb0] at j1
  rw [show (w.alloc (.cells #[.int .i64 n] 3)).heap.size=b1 by omega] at j2
  rw [show (((w.alloc (.cells #[.int .i64 n] 3)).alloc (.cells #[.slice none 0 0] 34)).alloc (.map #[] 0)).heap.size=b3 by omega] at j3
  have j6:=(World.ownsMap_made ((w.alloc (.cells #[.int .i64 n] 3)).alloc (.cells #[.slice none 0 0] 34)) Tryz.prog 9 (plainElem (H:=Unit) Tryz.prog 3)).alloc (.cells #[.map (some b2)] 58)
  rw [show ((w.alloc (.cells #[.int .i64 n] 3)).alloc (.cells #[.slice none 0 0] 34)).heap.size=b2 by omega] at j6
  have hsz:((((w.alloc (.cells #[.int .i64 n] 3)).alloc (.cells #[.slice none 0 0] 34)).alloc (.map #[] 0)).alloc (.cells #[.map (some b2)] 58)).heap.size=b3 + 1:=by omega
  clear s1 s2 s3 s4
  generalize ((((w.alloc (.cells #[.int .i64 n] 3)).alloc (.cells #[.slice none 0 0] 34)).alloc (.map #[] 0)).alloc (.cells #[.map (some b2)] 58))=W4 at *
  have j7:W4.ownsRow (W4.heap.size + 5) 85 2 (.slice none 0 0) (List.length ([]:Labs)) (labC []):=⟨rfl,.inl ⟨rfl,rfl⟩⟩
  have KT:=HT.out b0 b1 b2 b3 W4 hb0 (by omega) ⟨j1,j3,⟨_,j6,j2,j7⟩,j4⟩
  have hb5:b0≤W4.heap.size + 5:=by omega
  clear j1 j2 j3 j4 j6 j7
  go_upto_region 4 with (go_at_call 25;refine KT.mono ?_;rintro e X ⟨rfl,hX⟩)
  obtain ⟨h1,h2,⟨v,h3⟩,h4⟩:=hX
  have c2:=h3.box.cell
  have c3:=h2.cell
  have HJ3:=Lib.hid h3
  have hbw:=Lib.hid h4
  clear h1 h2 h3 h4 KT HT
  go_quiet (fail)
  have hdr:Below X.heap.size X (X.drewN nq):=zT1 (W:=X) nq
  have HB5:=Lib.hid (zS1 hbw.out (by omega) hdr)
  have HJ5:=Lib.hid (HJ3.out.on hdr)
  clear hbw hdr HJ3
  generalize X.drewN nq=X2 at *
  go_wp2
  refine bodyPost_ret (zu9 rfl _ _ _) rfl ⟨b2,v,rfl,hb0.symm ▸ HB5.out,by omega,HJ5.out.map,?_⟩
  obtain ⟨q1,q2 | ⟨g,c,cur,q3,q4,q5,q6⟩⟩:=HJ5.out.row
  · exact ⟨q1,.inl q2⟩
  · exact ⟨q1,.inr ⟨g,c,cur,q3,by omega,q5,q6⟩⟩
open Go.RowKit Go.Shelf
attribute [local go_sem] Oper.semAt_some
theorem Zh1 (S:List UInt8) (hl:S.length≤100000) (a b:Value) (ss:Nat→Stm) (pl:Nat→Int) (w:World) (J:Nat→World→Prop)
    (hJ : ∀ k X X', J k X → Fr w.heap.size (w.heap.size + 5) X X' → J k X')
    (hread:∀ k X,k<(zb2 S).length→J k X→Calls Tryz.prog 52 #[tx (zH2 ((zb2 S).getD k []))] X fun e X'=>e=.returned (.tuple #[stV (ss k),.bool true])∧Below X.heap.size X X')
    (hdo:∀ k X,k<(zb2 S).length→w.heap.size + 5≤X.heap.size→J k X→Calls Tryz.prog 26 #[stV (ss k),.int .i64 (pl k),a,b] X fun e X'=>e=.returned (.int .i64 0)∧J (k + 1) X'∧Dk w.heap.size X X')
    (hpl:∀ k,k<(zb2 S).length→pl (k + 1)=zq0 (ss k) (pl k)∧-9223372036854775808≤pl k + (ss k).count∧pl k + (ss k).count≤9223372036854775807) (hp0:pl 0=0) (h0:J 0 w) :
    Calls Tryz.prog 25 #[tx S,.func (.func 26) #[] #[a,b]] w fun e w'=>e=.returned (.tuple #[.int .i64 0,.int .i64 0])∧J (zb2 S).length w':=by
  refine (callsIn_wide (n:=9)).1 ?_
  refine callsIn_of_wp_marks Tryz.func25 rfl trivial ?_ rfl
  simp only [Tryz.ntmps25,List.size_toArray,List.length_cons,List.length_nil,Nat.reduceAdd,Nat.reduceSub,Array.replicate_succ,Array.replicate_zero,List.push_toArray,List.append_toArray,List.nil_append,List.cons_append]
  have KE:=fun x=>each_c S x
  have HE:=Lib.hid (fun l Bs B J m hY W h1 h2 h3 h4=>zT0 l Bs B S hl J m hY W h1 h2 h3 h4)
  have HPL:=Lib.hid hpl
  generalize zb2 S=L at *
  obtain ⟨ln,hln⟩:∃ ln:Nat→List UInt8,∀ k,zH2 (L.getD k [])=ln k:=⟨_,fun _=>rfl⟩
  simp only [hln] at HE hread
  obtain ⟨N,hN⟩:∃ N,L.length=N:=⟨_,rfl⟩
  rw [hN] at HE HPL hread hdo ⊢
  clear hN hln
  generalize hsv:tx S=sv at *
  clear hpl hl
  obtain ⟨n0,hn0⟩:∃ n0,w.heap.size=n0:=⟨_,rfl⟩
  rw [hn0] at hJ hdo
  gi_wp2_with (first
    | (refine ⟨trivial,?_⟩;gi_at_call 51;refine (callsIn_wide.2 (KE _)).mono ?_;rintro e w' ⟨rfl,rfl⟩))
  obtain ⟨b1,hb1⟩:∃ b,n0 + 1=b:=⟨_,rfl⟩
  obtain ⟨b2,hb2⟩:∃ b,b1 + 1=b:=⟨_,rfl⟩
  obtain ⟨b3,hb3⟩:∃ b,b2 + 1=b:=⟨_,rfl⟩
  obtain ⟨b4,hb4⟩:∃ b,b3 + 1=b:=⟨_,rfl⟩
  rw [hb1,hb2,hb3,hb4]
  obtain ⟨dv,hdv⟩:∃ dv:Value,dv=.func (.func 26) #[] #[a,b]:=⟨_,rfl⟩
  obtain ⟨W0,hW0⟩:∃ W0,((((w.alloc (Obj.cells #[Value.func (Fn.func 26) #[] #[a,b]] 67)).alloc (Obj.cells #[Value.int IntKind.i64 0] 3)).alloc (Obj.cells #[Value.int IntKind.i64 0] 35)).alloc (Obj.cells #[Value.int IntKind.i64 0] 3)).alloc (Obj.cells #[sv] 9)=W0:=⟨_,rfl⟩
  rw [hW0]
  have hsz:W0.heap.size=b4 + 1:=by rw [← hW0];simp only [World.size_alloc];omega
  have hO:Own4 n0 b1 b2 b3 dv (pl 0) W0:=by
    rw [← hW0,hp0,hdv]
    refine ⟨⟨hb1,hb2,hb3,by simp only [World.size_alloc];omega⟩,?_,?_,?_,?_⟩
    · rw [← hn0];exact ((((Boxed.new w _ _).alloc _).alloc _).alloc _).alloc _
    · have:=((((Boxed.new (w.alloc (Obj.cells #[Value.func (Fn.func 26) #[] #[a,b]] 67)) 3 (.int .i64 0)).alloc (Obj.cells #[Value.int IntKind.i64 0] 35)).alloc (Obj.cells #[Value.int IntKind.i64 0] 3)).alloc (Obj.cells #[sv] 9))
      simp only [World.size_alloc,hn0,hb1] at this
      exact this
    · have:=(((Boxed.new ((w.alloc (Obj.cells #[Value.func (Fn.func 26) #[] #[a,b]] 67)).alloc (Obj.cells #[Value.int IntKind.i64 0] 3)) 35 (.int .i64 0)).alloc (Obj.cells #[Value.int IntKind.i64 0] 3)).alloc (Obj.cells #[sv] 9))
      simp only [World.size_alloc,hn0,hb1,hb2] at this
      exact this
    · have:=((Boxed.new (((w.alloc (Obj.cells #[Value.func (Fn.func 26) #[] #[a,b]] 67)).alloc (Obj.cells #[Value.int IntKind.i64 0] 3)).alloc (Obj.cells #[Value.int IntKind.i64 0] 35)) 3 (.int .i64 0)).alloc (Obj.cells #[sv] 9))
      simp only [World.size_alloc,hn0,hb1,hb2,hb3] at this
      exact this
  have hS:W0.cell? ⟨b4,0,none⟩=some sv:=by
    rw [← hW0]
    have:=(Boxed.new ((((w.alloc (Obj.cells #[Value.func (Fn.func 26) #[] #[a,b]] 67)).alloc (Obj.cells #[Value.int IntKind.i64 0] 3)).alloc (Obj.cells #[Value.int IntKind.i64 0] 35)).alloc (Obj.cells #[Value.int IntKind.i64 0] 3)) 9 sv).cell
    simp only [World.size_alloc,hn0,hb1,hb2,hb3,hb4] at this
    exact this
  have hbw:Below n0 w W0:=by
    rw [← hW0]
    exact (((((hn0 ▸ Below.refl _ w:Below n0 w w).alloc (by omega) _).alloc (by simp only [World.size_alloc];omega) _).alloc (by simp only [World.size_alloc];omega) _).alloc (by simp only [World.size_alloc];omega) _).alloc (by simp only [World.size_alloc];omega) _
  have h0':J 0 W0:=hJ 0 w W0 h0 (Fr.of_below (hn0.symm ▸ hbw))
  rw [← hdv]
  refine zH7 (m:=7) (gf:=81) (lb:=#[.pointer (some ⟨b4,0,none⟩)]) rfl (enters_of Tryz.func81 (by kernel_rfl) rfl) N (fun k=>encL (k,ln k)) (fun _=>rfl)
    (fun k=>{ tmps:=#[sv,dv,undef,.pointer (some ⟨n0,0,none⟩),.pointer (some ⟨b1,0,none⟩),.pointer (some ⟨b2,0,none⟩),.pointer (some ⟨b3,0,none⟩),.int .i64 ((k:Int) + 1),tx (ln k),undef,undef,undef,sv,.func (.func 81) #[] #[.pointer (some ⟨b4,0,none⟩)],.int .i64 ((k:Int) + 1),tx (ln k),undef,undef,undef,undef,undef,undef,undef,undef,undef,undef,undef,undef,undef,undef,undef,undef,undef,undef,undef],defers:=[] })
    (fun k X=>Own4 n0 b1 b2 b3 dv (pl k) X∧J k X) ?stays ⟨hO,h0'⟩ ?seq ?assign ?body ?done
  case stays =>
    rintro k X X' row ⟨h1,h2⟩ hg hr
    rw [hsz] at hr
    exact ⟨h1.stay hg (fun r e=>(hr r e).2),hJ k X X' h2 (Fr.of_grown hg (fun r e=>⟨by have:=(hr r e).1;omega,fun _=>(hr r e).2⟩))⟩
  case seq =>
    intro l J' W hb hJ' hY hs
    rw [hsz] at hb hY
    exact HE.out l b4 (b4 + 1) J' 7 hY W hJ' (by have:=hb.size;omega) ((hb.cell (p:=⟨b4,0,none⟩) (by simp)).trans hS) hs
  case assign =>
    intro l k X K hK
    unfold encL
    rw [hdv] at hK
    gi_wp2
    exact hK
  case body =>
    rintro l k X hk ⟨hO,hj⟩
    have HR:=hread k X hk hj
    obtain ⟨hp1,hp2,hp3⟩:=HPL.out k hk
    have cdv:=hO.dv.cell
    have cpl:=hO.place.cell
    have HB:=fun Y (hb:Below X.heap.size X Y)=>(⟨hO.on hb,hJ k X Y hj (Fr.of_below hb)⟩:Own4 n0 b1 b2 b3 dv (pl k) Y∧J k Y)
    have HD:=Lib.hid (fun Y hsz hy=>hdo k Y hk hsz hy)
    have KB:=fun Y=>zU0 (ss k) (pl k) ⟨hp2,hp3⟩ Y
    have HP:=Lib.hid hp1
    clear hp1 hp2 hp3
    clear hread hdo
    generalize hs:ss k=s at *
    have hst:stV s=.agg (ze8 s):=rfl
    have hz:(ze8 s).size=15:=rfl
    rw [hst] at HR HD KB
    clear hst
    generalize zq0 s (pl k)=pq at *
    have ho1:=st_one s
    generalize ze8 s=cs at *
    have HZ:=fun Y=>(Blk.new #[.string ⟨#[]⟩,.bool false,.int .i64 0,.int .i64 0,.int .u64 0,.int .i64 0,.int .i64 0,.int .i64 0,.int .i64 0,.int .i64 0,.bool false,.bool false,.int .i64 0,.int .i64 0,.string ⟨#[]⟩] 64 Y).store (P:=Tryz.prog) cs.toList (by rw [Array.length_toList,hz];rfl) ho1
    gi_wp2_with (first
      | (refine ⟨trivial,?_⟩;gi_at_call 52;refine (CallsIn.inRound l (callsIn_wide.2 HR)).mono ?_;rintro e X2 ⟨rfl,hb2⟩;clear HR;obtain ⟨X4,hs4,hX4,hg4⟩:=HZ X2;have HX4:Blk cs 64 X2.heap.size X4:=(by simpa using hX4);clear hX4;have HB4:=Lib.hid (hb2.trans (((Below.refl _ X2).alloc (Nat.le_refl _) _).grown hg4 (by simp) (fun q hq=>by cases hq;exact Nat.le_refl _) |>.mono hb2.size));have HN2:=Lib.hid hb2.size;clear hb2 hg4;obtain ⟨hO4,hj4⟩:=HB _ HB4.out;have cdv4:=hO4.dv.cell;have cpl4:=hO4.place.cell)
      | (with_reducible refine zQ0 (o:=⟨some 25,_,_,_,_,_⟩) rfl 64 (.tmp 9) rfl HX4 rfl Tryz.underlying64 rfl (by rw [hz];kernel_rfl) ?_)
      | (refine ⟨trivial,?_⟩;gi_at_call 26;refine (CallsIn.inRound l (callsIn_wide.2 (HD.out _ (by have:=hO4.lay;omega) hj4))).mono ?_;rintro e X5 ⟨rfl,hj5,hk5⟩;have HK5:=Lib.hid hk5;have hO5:=hO4.dk hk5;have HX5:=Blk.dk HX4 hk5 (by have:=hO4.lay;have:=HN2.out;have:=hO.lay;omega);clear HX4 hk5 cdv4 cpl4;have cpl5:=hO5.place.cell)
      | (with_reducible refine zQ0 (o:=⟨some 32,_,_,_,_,_⟩) rfl 64 (.tmp 9) rfl HX5 rfl Tryz.underlying64 rfl (by rw [hz];kernel_rfl) ?_)
      | (refine ⟨trivial,?_⟩;gi_at_call 53;refine (CallsIn.inRound l (callsIn_wide.2 (KB _))).mono ?_;rintro e X6 ⟨rfl,hb6⟩;have HK6:=Lib.hid (HK5.out.trans (Dk.of_below hb6));have hO6:=hO5.on hb6;have HJ6:=Lib.hid (hJ _ _ _ hj5 (Fr.of_below hb6));clear HX5 hb6 cpl5;have cpl6:=hO6.place.cell;have fpl6:=hO6.place.frozen))
    obtain ⟨q1,q2,q3,q4⟩:=hO6.lay
    have hk:=(Dk.of_below (n0:=n0) HB4.out).trans HK6.out
    refine ⟨rfl,(hk.keepsFrom (by omega)).trans ((KeepsOthers.setCell _ _ _).from _),(hk.kpS (by omega)).trans (KpS.set _ _ _ _ (by omega)),?_,hJ _ _ _ HJ6.out (Fr.set _ _ _ ⟨by omega,by omega⟩)⟩
    show Own4 n0 b1 b2 b3 dv (pl (k + 1)) _
    rw [HP.out]
    exact hO6.put pq
  case done =>
    rintro D X hD ⟨hO,hj⟩ hK
    have c1:=hO.n.cell
    have f1:=hO.n.frozen
    have c2:=hO.e.cell
    have f2:=hO.e.frozen
    gi_wp2
    obtain ⟨q1,q2,q3,q4⟩:=hO.lay
    have hlt:D<X.heap.size:=(Array.getElem?_eq_some_iff.1 hK).1
    have hK2:((X.setCell ⟨b1,0,none⟩ (.int .i64 0)).setCell ⟨b2,0,none⟩ (.int .i64 0)).heap[D]?=some (.deferred (some [])) :=
      ((KeepsOthers.setCell _ _ _).trans (KeepsOthers.setCell _ _ _)).same D _ hK rfl
    refine ⟨by simp,.inl ⟨_,_,rfl,run_takeDeferred hK2,?_⟩⟩
    have z1:Boxed ((X.setCell ⟨b1,0,none⟩ (.int .i64 0)).setCell ⟨b2,0,none⟩ (.int .i64 0)) b1 3 (.int .i64 0):=(hO.n.set _).other (by omega) _
    have z2:Boxed ((X.setCell ⟨b1,0,none⟩ (.int .i64 0)).setCell ⟨b2,0,none⟩ (.int .i64 0)) b2 35 (.int .i64 0):=(hO.e.other (by omega) _).set _
    have y1:Boxed (((X.setCell ⟨b1,0,none⟩ (.int .i64 0)).setCell ⟨b2,0,none⟩ (.int .i64 0)).putObj D (.deferred none)) b1 3 (.int .i64 0):=z1.kept (grownBy_putObj' _ D _) (by simp;omega)
    have y2:Boxed (((X.setCell ⟨b1,0,none⟩ (.int .i64 0)).setCell ⟨b2,0,none⟩ (.int .i64 0)).putObj D (.deferred none)) b2 35 (.int .i64 0):=z2.kept (grownBy_putObj' _ D _) (by simp;omega)
    refine ⟨_,zw2 rfl rfl rfl y1.cell y2.cell,rfl,?_⟩
    refine hJ _ _ _ (hJ _ _ _ (hJ _ _ _ hj (Fr.set _ _ _ ⟨by omega,by omega⟩)) (Fr.set _ _ _ ⟨by omega,by omega⟩)) (Fr.of_grown (grownBy_putObj' _ D _) (fun r e=>?_))
    cases e
    exact ⟨by omega,fun _=>⟨_,hK2,rfl⟩⟩
end Go.Proofs.YtmamblgpekafbaaGreatDoor
