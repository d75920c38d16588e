/- Of stage 11. -/
import Derived.IntWalk
import Derived.Test.YtmamblgpekafbaaGreatDoorRgpa
set_option maxRecDepth 100000
namespace Go.Proofs.YtmamblgpekafbaaGreatDoor
open Go.RowKit
def zq4 (bs:List Int) (n:Nat):Int:=bs.getD n 0 + 256 * bs.getD (n + 1) 0 + 65536 * bs.getD (n + 2) 0 + 16777216 * bs.getD (n + 3) 0
theorem w32 {x:Int} (h:0≤x∧x<4294967296):IntKind.u32.wrap x=x:=by rw [IntKind.wrap_u32];omega
theorem zj4 {bs:List Int} (hb:∀ b ∈ bs,0≤b∧b<256) {i:Nat} (hi:i<bs.length):0≤bs.getD i 0∧bs.getD i 0<256:=by
 rw [List.getD_eq_getElem?_getD,List.getElem?_eq_getElem hi]
 exact hb _ (List.getElem_mem hi)
theorem Rd.byte {w:World} {B:Nat} {A:Option Addr} {bs:List Int} (h:Rd w B A (bs.map (Value.int .u8))) {i:Nat} (hi:i<bs.length):∃ b off,A=some ⟨b,off,none⟩∧b<B∧∀ j,j<bs.length→w.cell? ⟨b,off + j,none⟩=some (.int .u8 (bs.getD j 0)):=by
 rcases h with h | ⟨b,off,rfl,hb,hc⟩
 ·have:=congrArg List.length h;simp at this;rw [this] at hi;cases hi
 ·refine ⟨b,off,rfl,hb,fun j hj=>hc j _ ?_⟩
  rw [List.getElem?_map,List.getD_eq_getElem?_getD,List.getElem?_eq_getElem hj]
  rfl
theorem Zl4 {w w':World} (h:Below w.heap.size w w'):w.grownBy w' none:=⟨h.os,h.tape,h.output,h.size,fun k hk _=>h.block k hk⟩
theorem zp4 {w w':World} {base:Nat} {e:TypeId} {z n:Nat} {v:Value} {xs:List Value} (h:w.ownsRow base e z v n xs) (hb:Below w.heap.size w w'):w'.ownsRow base e z v n xs :=
 h.kept (Zl4 hb) (by cases v.ownBlock <;> simp)
open Go.RowKit
open Go.RowKit
def encW (i:Ins):Int:=if rgtB i then zd9 i else 0
def encE (i:Ins):Int:=if rgtB i then 0 else 1
end Go.Proofs.YtmamblgpekafbaaGreatDoor
