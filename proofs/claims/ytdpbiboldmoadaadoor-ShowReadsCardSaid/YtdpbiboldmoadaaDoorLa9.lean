/- Layer 9: what every right program answers. -/
import Derived.Test.YtdpbiboldmoadaaDoorKz
import Derived.Test.YtdpbiboldmoadaaDoorRv9
import Derived.Test.YtdpbiboldmoadaaDoorRw9
set_option maxRecDepth 100000
namespace Go.Proofs.YtdpbiboldmoadaaDoor
open Go.RowKit

def lwI : Ins := ⟨13, 5, 2, 0, -8, false, false, 0, 0⟩
def fenI : Ins := ⟨50, 0, 0, 0, 0, false, false, 3, 1⟩
theorem lw_rgt : Rgt lwI := (rgt_iff _).1 (by decide)
theorem fen_rgt : Rgt fenI := (rgt_iff _).1 (by decide)
theorem lw_text : textT lwI = [108, 119, 32, 120, 53, 44, 32, 45, 56, 40, 120, 50, 41] := by decide
theorem fen_read : readC [102, 101, 110, 99, 101, 32, 114, 119, 44, 32, 119] = some fenI := (readC_iff _ _).2 ⟨fen_rgt, by decide⟩
theorem m7_num : numV [45, 55] = some (-7) := by decide
theorem x31_reg : regS [120, 51, 49] = some 31 := by decide
set_option maxHeartbeats 2000000 in
theorem alive9_any {W : World} (T : Tab9 W) (w : World) (h : BW W w) : Calls Tryd.prog 7 #[] w fun e w' => e = .returned (.bool true) ∧ BW W w' ∧ Below w.heap.size w w' := by
  have HB : Hid (Below w.heap.size w w) := Below.refl _ _
  have k1 := fun x (hx : Below w.heap.size w x) => text_ok lwI lw_rgt x (T.below (h.on hx))
  have k2 := fun x (hx : Below w.heap.size w x) => read_fill [102, 101, 110, 99, 101, 32, 114, 119, 44, 32, 119] (by decide) x (T.below (h.on hx))
  have k3 := fun x => number_c [45, 55] (by decide) x
  have k4 := fun x => reg_c [120, 51, 49] (by decide) x
  simp only [lw_text] at k1
  simp only [fen_read] at k2
  simp only [m7_num] at k3
  simp only [x31_reg] at k4
  have k2' : ∀ x (hx : Below w.heap.size w x), Calls Tryd.prog 11 #[.string ⟨#[102, 101, 110, 99, 101, 32, 114, 119, 44, 32, 119]⟩] x fun e w' => e = .returned (.tuple #[insV fenI, .int .i64 0]) ∧ Below x.heap.size x w' := k2
  have k3' : ∀ x, Calls Tryd.prog 13 #[.string ⟨#[45, 55]⟩] x fun e w' => e = .returned (.tuple #[.int .i64 (-7), .bool true]) ∧ Below x.heap.size x w' := k3
  have k4' : ∀ x, Calls Tryd.prog 15 #[.string ⟨#[120, 51, 49]⟩] x fun e w' => e = .returned (.tuple #[.int .i64 31, .bool true]) ∧ Below x.heap.size x w' := k4
  have k1' : ∀ x (hx : Below w.heap.size w x), Calls Tryd.prog 8 #[insV lwI] x fun e w' => e = .returned (.tuple #[.string ⟨#[108, 119, 32, 120, 53, 44, 32, 45, 56, 40, 120, 50, 41]⟩, .int .i64 0]) ∧ Below x.heap.size x w' := k1
  clear k1 k2 k3 k4 T
  have HE := fun x => run_eql_ins fenI fenI x
  rw [show eqB fenI fenI = true by decide] at HE
  unfold insV lwI fenI at *
  unfold insCells at HE
  simp only at HE
  simp only at k1' k2'
  go_enter Tryd.func7, Tryd.ntmps7
  go_wp2_with (first
    | (go_at_call 8; refine (k1' _ HB.out).mono ?_; rintro e w2 ⟨rfl, hb⟩; have HB2 := Lib.hid (Below.trans HB.out (hb.mono (Below.size HB.out))); clear hb)
    | (go_at_call 11; refine (k2' _ HB2.out).mono ?_; rintro e w3 ⟨rfl, hb⟩; have HB3 := Lib.hid (Below.trans HB2.out (hb.mono (Below.size HB2.out))); clear hb)
    | (go_at_call 13; refine (k3' _).mono ?_; rintro e w4 ⟨rfl, hb⟩; have HQ4 := Lib.hid ((Blk.new #[.int .i64 50, .int .i64 0, .int .i64 0, .int .i64 0, .int .i64 0, .bool false, .bool false, .int .i64 3, .int .i64 1] 23 w3).on hb); have HB4 := Lib.hid (Below.trans (HB3.out.alloc (Below.size HB3.out) _) (hb.mono (Below.size (HB3.out.alloc (Below.size HB3.out) _)))); clear hb)
    | (go_at_call 15; refine (k4' _).mono ?_; rintro e w5 ⟨rfl, hb⟩; have HB5 := Lib.hid (Below.trans HB4.out (hb.mono (Below.size HB4.out))); have HQ5 := HQ4.out.on hb; have c0 := HQ5.cell 0; have c1 := HQ5.cell 1; have c2 := HQ5.cell 2; have c3 := HQ5.cell 3; have c4 := HQ5.cell 4; have c5 := HQ5.cell 5; have c6 := HQ5.cell 6; have c7 := HQ5.cell 7; have c8 := HQ5.cell 8; clear hb HQ5))
  go_ret
  exact ⟨rfl, h.on HB5.out, HB5.out⟩
end Go.Proofs.YtdpbiboldmoadaaDoor
