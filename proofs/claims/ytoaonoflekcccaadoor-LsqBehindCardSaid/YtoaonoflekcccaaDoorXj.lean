/- Package lsq: lacks. -/
import Derived.Test.YtoaonoflekcccaaDoorXi
set_option maxRecDepth 100000
set_option linter.unusedVariables false
namespace Go.Proofs.YtoaonoflekcccaaDoor
open Go.RowKit

theorem lck_mono (l : List Slt) (i : Nat) : ∀ (n m : Nat), lckG l i m = true → m ≤ n → lckG l i n = true
  | 0, m, h, hm => by rw [show m = 0 by omega] at h; exact h
  | n + 1, m, h, hm => by
    by_cases e : m = n + 1
    · rw [← e]; exact h
    · show (_ || _) = true
      rw [lck_mono l i n m h (by omega)]; rfl
set_option maxHeartbeats 4000000 in
theorem lacks_c {l : List Slt} {A : Option Addr} {w : World} (h : FL l A w) (cap : Nat) (hcap : l.length ≤ cap) (i : Nat) (hi : i < l.length) :
    Calls Tryd.prog 18 #[.slice A l.length cap, .int .i64 (i : Int)] w fun e w' => e = .returned (.bool (lckS l i)) ∧ BW w w' := by
  obtain ⟨b, off, rfl, hb, hcs⟩ := h.cells hi
  have HCS := Lib.hid (hcs w (Below.refl _ _))
  have HRM := Lib.hid (room_c (sAt l i) (h.at hi) w h.tab)
  have hrm := room_most (sAt l i)
  have HSR := Lib.hid (fun (m : Nat) y (hy : BW w y) => source_c (h.on hy) cap hcap (i : Int) (m : Int))
  have HLT := Lib.hid (fun (m : Nat) => srcS_lt l i (m : Int) (by omega))
  have HALL := Lib.hid (fun m (hm : m < l.length) => h.cells hm)
  have HIL := Lib.hid hi
  have hlen := h.len
  have hN : ∀ m : Nat, lckG l i (m + 1) = (lckG l i m || (decide (srcS l i m ≠ -1) && !(sAt l (srcS l i m).toNat).ready)) := fun m => rfl
  obtain ⟨R, hR⟩ : ∃ R : Nat, roomS (sAt l i) = (R : Int) := ⟨(roomS (sAt l i)).toNat, by omega⟩
  have HE : Hid (lckS l i = lckG l i R) := by show _ = _; unfold lckS; rw [hR, Int.toNat_natCast]
  rw [hR] at HRM hrm
  have HNN := Lib.hid hN
  have HMO := Lib.hid (fun m (hm : m + 1 ≤ R) (e : lckG l i (m + 1) = true) => HE.out.trans (lck_mono l i R (m + 1) e hm))
  unfold sltV at HRM
  clear h hcs hR hN hcap
  go_enter Tryd.func18, Tryd.ntmps18
  go_wp2_with (first
    | (with_reducible refine Hz.val_arm (o := ⟨some 10, .load _ _, _, _, _, _⟩) (by kernel_rfl) (ex_slt (sAt l i) rfl rfl HCS.out Tryd.underlying29 rfl (by kernel_rfl)) ?_)
    | (go_at_call 22; refine HRM.out.mono ?_; rintro e w1 ⟨rfl, hb1⟩; have HB1 := Lib.hid hb1; clear hb1))
  go_loopw [5, 6, 12] (fun _ _ i2 wx => ∃ m : Nat, m ≤ R ∧ i2 = .int .i64 (m : Int) ∧ Hid (BW w wx ∧ lckG l i m = false)) (fun _ _ i2 _ => R - (intOf i2).toNat)
  case atStart => exact ⟨0, by omega, rfl, HB1.out, rfl⟩
  case round =>
    obtain ⟨m, hm, rfl, HH⟩ := hrel
    by_cases hlt : m < R
    · have hltI : (m : Int) < (R : Int) := by omega
      have HN := Lib.hid (HNN.out m)
      have HCL := Lib.hid (HSR.out m wr HH.out.1)
      have HML := Lib.hid (HLT.out m)
      have HMM := Lib.hid (HMO.out m (by omega))
      have HG0 := Lib.hid HH.out.2
      have HBX := Lib.hid HH.out.1
      clear HH
      rw [HG0.out] at HN
      by_cases hs : srcS l i m = -1
      · have HN2 : Hid (lckG l i (m + 1) = false) := by show _ = _; rw [HN.out, hs]; rfl
        rw [hs] at HCL
        clear hs HN HML HMM HG0
        go_wp2_with (first
          | (go_at_call 7; refine HCL.out.mono ?_; rintro e w2 ⟨rfl, hb2⟩; have HB2 := Lib.hid (BW.on HBX.out hb2); clear hb2))
        go_roundw
        case rel => exact ⟨m + 1, by omega, by first | rfl | go_num, HB2.out, HN2.out⟩
        case measure => simp [intOf]; omega
      · obtain ⟨s, hs2⟩ : ∃ s : Nat, srcS l i m = (s : Int) := ⟨(srcS l i m).toNat, by have := HML.out; omega⟩
        have hsl : s < l.length := by have := HML.out; rw [hs2] at this; omega
        obtain ⟨b', off', e', _, hcj⟩ := HALL.out s hsl
        obtain ⟨rfl, rfl⟩ : b = b' ∧ off = off' := by simpa using e'
        have HCJ : Hid (∀ y, BW w y → y.cell? ⟨b, off + s * 18 + 7, none⟩ = some (.bool (sAt l s).ready)) := fun y hy => hcj y hy 7 _ rfl
        rw [hs2] at HCL
        have hN3 := HN.out
        rw [hs2, Int.toNat_natCast, decide_eq_true (show ((s : Nat) : Int) ≠ -1 by omega)] at hN3
        have HN3 := Lib.hid hN3
        have hsI : (0 : Int) ≤ (s : Int) ∧ (s : Int) < (l.length : Int) := by omega
        clear hs hs2 HN HML HG0 hcj e' hN3
        cases hr : (sAt l s).ready with
        | true =>
          have HN2 : Hid (lckG l i (m + 1) = false) := by show _ = _; rw [HN3.out, hr]; rfl
          rw [hr] at HCJ
          clear hr HN3 HMM
          go_wp2_with (first
            | (go_at_call 7; refine HCL.out.mono ?_; rintro e w2 ⟨rfl, hb2⟩; have HB2 := Lib.hid (BW.on HBX.out hb2); have c7 := HCJ.out _ HB2.out; clear hb2))
          go_roundw
          case rel => exact ⟨m + 1, by omega, by first | rfl | go_num, HB2.out, HN2.out⟩
          case measure => simp [intOf]; omega
        | false =>
          have HN2 : Hid (lckS l i = true) := HMM.out (by rw [HN3.out, hr]; rfl)
          rw [hr] at HCJ
          clear hr HN3 HMM
          go_wp2_with (first
            | (go_at_call 7; refine HCL.out.mono ?_; rintro e w2 ⟨rfl, hb2⟩; have HB2 := Lib.hid (BW.on HBX.out hb2); have c7 := HCJ.out _ HB2.out; clear hb2))
          go_ret
          exact ⟨by rw [HN2.out]; rfl, HB2.out⟩
    · obtain rfl : m = R := by omega
      have HN2 : Hid (lckS l i = false) := HE.out.trans HH.out.2
      go_wp2
      go_ret
      exact ⟨by rw [HN2.out]; rfl, HH.out.1⟩
end Go.Proofs.YtoaonoflekcccaaDoor
