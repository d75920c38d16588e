/- SbufNone: no buffer has nothing. -/
import Derived.Test.YthifeaolodmhhaaVu
import Derived.Test.YthifeaolodmhhaaOv
set_option maxRecDepth 100000
set_option linter.unusedVariables false
namespace Go.Proofs.Ythifeaolodmhhaa
open Go.RowKit

set_option maxHeartbeats 8000000 in
theorem none13_walk (i a z d : Int) (ha : a ≤ 9223372036854775807) (W : World) : Calls Try.prog 4 #[.agg #[.int .i64 i, .int .i64 a, .int .i64 z, .int .u64 d]] W fun e w' => e = .returned (.bool true) ∧ BW W w' := by
  have HAL := Lib.hid (fun w => alive13_any w)
  have HBA := Lib.hid barrier_nil
  have HFI := Lib.hid (find_nil a)
  have HFT := Lib.hid (fits_nil ⟨i, a, z, d⟩)
  have HPU := Lib.hid (put_nil ⟨i, a, z, d⟩)
  have HRE := Lib.hid ready_nil
  have HDR := Lib.hid (drain_nil 0)
  have HEN := Lib.hid entries_nil
  have HEM := Lib.hid empty_nil
  have HEL := Lib.hid elder_nil
  have HOV := Lib.hid (over_nil a z)
  have HAF : True := trivial
  go_enter Try.func4, Try.ntmps4
  have HB0 := Lib.hid (show BW W _ from BW.new (Below.refl _ _) (.cells #[.int .i64 i, .int .i64 a, .int .i64 z, .int .u64 d] 34))
  have HK0 := Lib.hid (Blk.new #[.int .i64 i, .int .i64 a, .int .i64 z, .int .u64 d] 34 W)
  go_wp2_with (first
    | (go_at_call 8; (have HFIRST := HAF); clear HAF; refine (HAL.out _).mono ?_; rintro e w1 ⟨rfl, hb⟩; have HB1 := Lib.hid (HB0.out.on hb); have HK1 := Lib.hid (HK0.out.on hb); clear hb)
    | (go_at_call 12; refine (HBA.out _).mono ?_; rintro e w2 ⟨rfl, hb⟩; have HB2 := Lib.hid (HB1.out.on hb); have HK2 := Lib.hid (HK1.out.on hb); have q20 : w2.cell? ⟨W.heap.size, 0, none⟩ = some (.int .i64 i) := HK2.out.cell 0; have q21 : w2.cell? ⟨W.heap.size, 1, none⟩ = some (.int .i64 a) := HK2.out.cell 1; have q22 : w2.cell? ⟨W.heap.size, 2, none⟩ = some (.int .i64 z) := HK2.out.cell 2; have q23 : w2.cell? ⟨W.heap.size, 3, none⟩ = some (.int .u64 d) := HK2.out.cell 3; clear hb)
    | (go_at_call 17; refine (HFI.out _).mono ?_; unfold findV; rintro e w3 ⟨rfl, hb⟩; have HB3 := Lib.hid (HB2.out.on hb); have HK3 := Lib.hid (HK2.out.on hb); clear hb)
    | (go_at_call 8; refine (HAL.out _).mono ?_; rintro e w4 ⟨rfl, hb⟩; have HB4 := Lib.hid (HB3.out.on hb); have HK4 := Lib.hid (HK3.out.on hb); have q40 : w4.cell? ⟨W.heap.size, 0, none⟩ = some (.int .i64 i) := HK4.out.cell 0; have q41 : w4.cell? ⟨W.heap.size, 1, none⟩ = some (.int .i64 a) := HK4.out.cell 1; have q42 : w4.cell? ⟨W.heap.size, 2, none⟩ = some (.int .i64 z) := HK4.out.cell 2; have q43 : w4.cell? ⟨W.heap.size, 3, none⟩ = some (.int .u64 d) := HK4.out.cell 3; clear hb)
    | (go_at_call 9; refine (HFT.out _).mono ?_; rintro e w5 ⟨rfl, hb⟩; have HB5 := Lib.hid (HB4.out.on hb); have HK5 := Lib.hid (HK4.out.on hb); have q50 : w5.cell? ⟨W.heap.size, 0, none⟩ = some (.int .i64 i) := HK5.out.cell 0; have q51 : w5.cell? ⟨W.heap.size, 1, none⟩ = some (.int .i64 a) := HK5.out.cell 1; have q52 : w5.cell? ⟨W.heap.size, 2, none⟩ = some (.int .i64 z) := HK5.out.cell 2; have q53 : w5.cell? ⟨W.heap.size, 3, none⟩ = some (.int .u64 d) := HK5.out.cell 3; clear hb)
    | (go_at_call 10; refine (HPU.out _).mono ?_; rintro e w6 ⟨rfl, hb⟩; have HB6 := Lib.hid (HB5.out.on hb); have HK6 := Lib.hid (HK5.out.on hb); clear hb)
    | (go_at_call 22; refine (HRE.out _).mono ?_; rintro e w7 ⟨vr, rfl, hor, hb⟩; obtain ⟨Ar, cr, rfl⟩ := own_shape hor; clear hor; have HB7 := Lib.hid (HB6.out.on hb); have HK7 := Lib.hid (HK6.out.on hb); clear hb)
    | (go_at_call 15; refine (HDR.out _).mono ?_; rintro e w8 ⟨rfl, hb⟩; have HB8 := Lib.hid (HB7.out.on hb); have HK8 := Lib.hid (HK7.out.on hb); clear hb)
    | (go_at_call 23; refine (HEN.out _).mono ?_; rintro e w9 ⟨rfl, hb⟩; have HB9 := Lib.hid (HB8.out.on hb); have HK9 := Lib.hid (HK8.out.on hb); have q90 : w9.cell? ⟨W.heap.size, 0, none⟩ = some (.int .i64 i) := HK9.out.cell 0; have q91 : w9.cell? ⟨W.heap.size, 1, none⟩ = some (.int .i64 a) := HK9.out.cell 1; have q92 : w9.cell? ⟨W.heap.size, 2, none⟩ = some (.int .i64 z) := HK9.out.cell 2; have q93 : w9.cell? ⟨W.heap.size, 3, none⟩ = some (.int .u64 d) := HK9.out.cell 3; clear hb)
    | (go_at_call 24; refine (HEM.out _).mono ?_; rintro e w10 ⟨rfl, rfl⟩; have HB10 := HB9; have HK10 := HK9)
    | (go_at_call 25; refine (HEL.out _).mono ?_; rintro e w11 ⟨rfl, hb⟩; have HB11 := Lib.hid (HB10.out.on hb); have HK11 := Lib.hid (HK10.out.on hb); have q110 : w11.cell? ⟨W.heap.size, 0, none⟩ = some (.int .i64 i) := HK11.out.cell 0; have q111 : w11.cell? ⟨W.heap.size, 1, none⟩ = some (.int .i64 a) := HK11.out.cell 1; have q112 : w11.cell? ⟨W.heap.size, 2, none⟩ = some (.int .i64 z) := HK11.out.cell 2; have q113 : w11.cell? ⟨W.heap.size, 3, none⟩ = some (.int .u64 d) := HK11.out.cell 3; clear hb)
    | (go_at_call 19; refine (HOV.out _).mono ?_; rintro e w12 ⟨rfl, hb⟩; have HB12 := Lib.hid (HB11.out.on hb); have HK12 := Lib.hid (HK11.out.on hb); clear hb))
  go_ret
  exact ⟨rfl, HB12.out⟩
theorem sbufNone_law (x : Wr) (W : World) (h : Wwr x) : Calls Try.prog 4 #[.agg (wrCells x)] W fun e w' => e = .returned (.bool true) ∧ Below W.heap.size W w' :=
  none13_walk x.id x.addr x.size x.data h.addr.2 W
end Go.Proofs.Ythifeaolodmhhaa
