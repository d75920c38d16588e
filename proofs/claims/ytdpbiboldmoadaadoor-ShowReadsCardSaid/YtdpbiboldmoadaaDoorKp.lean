/- The program's put. -/
import Derived.Test.YtdpbiboldmoadaaDoorKe
set_option maxRecDepth 100000
namespace Go.Proofs.YtdpbiboldmoadaaDoor
open Go.RowKit

/-- Block g alone, and new ones, may have turned. -/
def KeptBut (g : Nat) (w w' : World) : Prop := w.heap.size ≤ w'.heap.size ∧ ∀ b, b < w.heap.size → b ≠ g → w'.heap[b]? = w.heap[b]?
theorem KeptBut.refl (g : Nat) (w : World) : KeptBut g w w := ⟨Nat.le_refl _, fun _ _ _ => rfl⟩
theorem KeptBut.trans {g : Nat} {a b c : World} (h1 : KeptBut g a b) (h2 : KeptBut g b c) : KeptBut g a c := ⟨Nat.le_trans h1.1 h2.1, fun k hk hg => (h2.2 k (Nat.lt_of_lt_of_le hk h1.1) hg).trans (h1.2 k hk hg)⟩
theorem KeptBut.store {g k : Nat} {w w2 : World} {v : Value} (hb : Below w.heap.size w w2) : KeptBut g w (w2.setCell ⟨g, k, none⟩ v) := by
  refine ⟨?_, fun b hlt hne => ?_⟩
  · have := hb.size; simpa using this
  · rw [Below.heap_setCell w2 ⟨g, k, none⟩ v b hne]; exact hb.block b hlt
theorem KeptBut.cell {g b i : Nat} {w w' : World} (h : KeptBut g w w') (hlt : b < w.heap.size) (hne : b ≠ g) : w'.cell? ⟨b, i, none⟩ = w.cell? ⟨b, i, none⟩ := World.cell?_of_block (h.2 b hlt hne)
theorem retO_some (o : Option Int) : retO o = .tuple #[.int .i64 (o.getD 0), .bool o.isSome] := rfl
set_option maxHeartbeats 2000000 in
theorem put_fill (W : World) (i : Ins) (g : Nat) (c : UInt8) (hc : c ∈ sixL) (p : List UInt8) (hl : p.length ≤ 100000) (w : World) (hJ : Jn W i g w) :
    Calls Tryd.prog 35 #[.pointer (some ⟨g, 0, none⟩), .int .u8 (c.toNat : Int), tx p] w fun e w' => e = .returned (.bool (putT i c p).2) ∧ Jn W (putT i c p).1 g w' ∧ KeptBut g w w' := by
  have KR := reg_c p hl w
  have KN := number_c p hl w
  have KS := readSet_c p w
  rw [retO_some] at KR KN KS
  have v1 : Hid (putT i 100 p = ({ i with rd := (regS p).getD 0 }, (regS p).isSome)) := rfl
  have v2 : Hid (putT i 97 p = ({ i with rs1 := (regS p).getD 0 }, (regS p).isSome)) := rfl
  have v3 : Hid (putT i 98 p = ({ i with rs2 := (regS p).getD 0 }, (regS p).isSome)) := rfl
  have v4 : Hid (putT i 110 p = ({ i with imm := (numV p).getD 0 }, (numV p).isSome)) := rfl
  have v5 : Hid (putT i 112 p = ({ i with pred := (setO p).getD 0 }, (setO p).isSome)) := rfl
  have v6 : Hid (putT i 115 p = ({ i with succ := (setO p).getD 0 }, (setO p).isSome)) := rfl
  unfold tx at *
  generalize bs p = q at *
  simp only [sixL, List.mem_cons, List.not_mem_nil, or_false] at hc
  rcases hc with rfl | rfl | rfl | rfl | rfl | rfl
  · rw [v1.out]
    clear v1 v2 v3 v4 v5 v6 KN KS
    generalize (regS p).getD 0 = x at *
    generalize (regS p).isSome = b at *
    go_enter Tryd.func35, Tryd.ntmps35
    go_wp2_with (first
      | (go_at_call 15; refine KR.mono ?_; rintro e w2 ⟨rfl, hb⟩; have HJ2 := hJ.on hb; have ff := HJ2.2.1.free 1; have cc := HJ2.2.1.cell 1; simp only [insCells] at cc; have HBX := Lib.hid hb; clear hb))
    go_ret
    exact ⟨rfl, HJ2.s1 x, KeptBut.store HBX.out⟩
  · rw [v2.out]
    clear v1 v2 v3 v4 v5 v6 KN KS
    generalize (regS p).getD 0 = x at *
    generalize (regS p).isSome = b at *
    go_enter Tryd.func35, Tryd.ntmps35
    go_wp2_with (first
      | (go_at_call 15; refine KR.mono ?_; rintro e w2 ⟨rfl, hb⟩; have HJ2 := hJ.on hb; have ff := HJ2.2.1.free 2; have cc := HJ2.2.1.cell 2; simp only [insCells] at cc; have HBX := Lib.hid hb; clear hb))
    go_ret
    exact ⟨rfl, HJ2.s2 x, KeptBut.store HBX.out⟩
  · rw [v3.out]
    clear v1 v2 v3 v4 v5 v6 KN KS
    generalize (regS p).getD 0 = x at *
    generalize (regS p).isSome = b at *
    go_enter Tryd.func35, Tryd.ntmps35
    go_wp2_with (first
      | (go_at_call 15; refine KR.mono ?_; rintro e w2 ⟨rfl, hb⟩; have HJ2 := hJ.on hb; have ff := HJ2.2.1.free 3; have cc := HJ2.2.1.cell 3; simp only [insCells] at cc; have HBX := Lib.hid hb; clear hb))
    go_ret
    exact ⟨rfl, HJ2.s3 x, KeptBut.store HBX.out⟩
  · rw [v4.out]
    clear v1 v2 v3 v4 v5 v6 KR KS
    generalize (numV p).getD 0 = x at *
    generalize (numV p).isSome = b at *
    go_enter Tryd.func35, Tryd.ntmps35
    go_wp2_with (first
      | (go_at_call 13; refine KN.mono ?_; rintro e w2 ⟨rfl, hb⟩; have HJ2 := hJ.on hb; have ff := HJ2.2.1.free 4; have cc := HJ2.2.1.cell 4; simp only [insCells] at cc; have HBX := Lib.hid hb; clear hb))
    go_ret
    exact ⟨rfl, HJ2.s4 x, KeptBut.store HBX.out⟩
  · rw [v5.out]
    clear v1 v2 v3 v4 v5 v6 KR KN
    generalize (setO p).getD 0 = x at *
    generalize (setO p).isSome = b at *
    go_enter Tryd.func35, Tryd.ntmps35
    go_wp2_with (first
      | (go_at_call 53; refine KS.mono ?_; rintro e w2 ⟨rfl, hb⟩; have HJ2 := hJ.on hb; have ff := HJ2.2.1.free 7; have cc := HJ2.2.1.cell 7; simp only [insCells] at cc; have HBX := Lib.hid hb; clear hb))
    go_ret
    exact ⟨rfl, HJ2.s7 x, KeptBut.store HBX.out⟩
  · rw [v6.out]
    clear v1 v2 v3 v4 v5 v6 KR KN
    generalize (setO p).getD 0 = x at *
    generalize (setO p).isSome = b at *
    go_enter Tryd.func35, Tryd.ntmps35
    go_wp2_with (first
      | (go_at_call 53; refine KS.mono ?_; rintro e w2 ⟨rfl, hb⟩; have HJ2 := hJ.on hb; have ff := HJ2.2.1.free 8; have cc := HJ2.2.1.cell 8; simp only [insCells] at cc; have HBX := Lib.hid hb; clear hb))
    go_ret
    exact ⟨rfl, HJ2.s8 x, KeptBut.store HBX.out⟩
end Go.Proofs.YtdpbiboldmoadaaDoor
