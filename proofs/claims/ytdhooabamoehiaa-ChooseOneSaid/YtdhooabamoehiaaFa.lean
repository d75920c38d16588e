/- The contracts of Windows and Fair, the program's. -/
import Derived.Test.YtdhooabamoehiaaRows
import Derived.Test.YtdhooabamoehiaaSv
import Derived.WalkKit
import Derived.WalkLawsBesides
import Derived.Deep.QuietTactic
import Derived.BigQuiet
import Derived.WalkSmall
import Derived.WalkSpells
import Derived.Lib.Hide
import Derived.Below
import Derived.Deep.Cut
import Derived.LoopTactic
namespace Go.Proofs.Ytdhooabamoehiaa
open Go.RowKit

theorem windows_any (A : Option Addr) (cap n : Nat) (v : Int) (w : World) (hn : n ≤ 9223372036854775807) (hv : v ≤ 9223372036854775807) :
    Calls Try.prog 17 #[.slice A n cap, .int .i64 v] w fun e w' => e = .returned (.int .i64 (winV n v)) ∧ w = w' := by
  by_cases h : v < 1
  · have HV : Hid (winV n v = 0) := by show _ = _; unfold winV; rw [if_neg (by omega)]
    go_enter Try.func17, Try.ntmps17
    go_wp2
    go_ret
    exact ⟨ret_int HV.out.symm, rfl⟩
  · have HV : Hid (winV n v = (n : Int) / v) := by
      show _ = _; unfold winV; rw [if_pos (by omega), Int.natCast_ediv, show ((v.toNat : Nat) : Int) = v by omega]
    have hd : 0 ≤ (n : Int) / v := Int.ediv_nonneg (by omega) (by omega)
    have hd2 : (n : Int) / v ≤ n := Int.ediv_le_self _ (by omega)
    go_enter Try.func17, Try.ntmps17
    go_wp2
    go_ret
    exact ⟨ret_int HV.out.symm, rfl⟩

set_option maxRecDepth 100000 in
theorem fair_any (A : Option Addr) (cap : Nat) (l : List Pk) (v : Int) (w : World) (hl : l.length ≤ 9223372036854775807) (hcap : l.length ≤ cap) (hcap2 : cap ≤ 9223372036854775807) (hv : v ≤ 9223372036854775807) (hw : Wd l) (hr : Rd w w.heap.size A (cellsP l)) :
    Calls Try.prog 15 #[.slice A l.length cap, .int .i64 v] w fun e w' => e = .returned (.bool (fairB l v)) ∧ Below w.heap.size w w' := by
  have HR := Lib.hid hr
  have HW := Lib.hid hw
  clear hr hw
  by_cases h : v < 1
  · have HV : Hid (fairB l v = false) := by show _ = _; unfold fairB; rw [decide_eq_false (by omega)]; rfl
    go_enter Try.func15, Try.ntmps15
    go_wp2
    go_ret
    exact ⟨ret_bool HV.out.symm, Below.refl _ _⟩
  obtain ⟨m, rfl⟩ : ∃ m : Nat, v = (m : Int) := ⟨v.toNat, by omega⟩
  have HV : Hid (fairB l (m : Int) = fairN l m (l.length / m)) := by show _ = _; unfold fairB; rw [decide_eq_true (by omega)]; rfl
  obtain ⟨N, hN⟩ : ∃ N, l.length / m = N := ⟨_, rfl⟩
  have hWin := windows_any A cap l.length (m : Int)
  have hwn : winV l.length (m : Int) = (N : Int) := by unfold winV; rw [if_pos (by omega), Int.toNat_natCast, hN]
  rw [hwn] at hWin
  rw [hN] at HV
  have hNm : N * m ≤ l.length := by rw [← hN]; exact Nat.div_mul_le_self _ _
  have hNl : N ≤ l.length := by rw [← hN]; exact Nat.div_le_self _ _
  have HNm := Lib.hid hNm
  clear hwn hN hNm
  go_enter Try.func15, Try.ntmps15
  go_wp2_with (first
    | (go_at_call 17; refine (hWin _ hl hv).mono ?_; rintro e w' ⟨rfl, rfl⟩))
  go_loopg [11] N (fun gg v11 wr => Below w.heap.size w wr ∧ ∃ k : Nat, v11 = .int .i64 k ∧ k + gg = N ∧ Hid (fairN l m k = true))
  case atStart => exact ⟨Below.refl _ _, 0, rfl, by omega, (show Hid _ from rfl)⟩
  case round =>
    obtain ⟨hb, k, rfl, hk, HK⟩ := hrel
    obtain ⟨w1, rfl⟩ : ∃ w1 : World, w1 = wr := ⟨_, rfl⟩
    have HB := Lib.hid hb
    clear hb
    by_cases hkN : k < N
    · have hkN' : (k : Int) < (N : Int) := by omega
      have e1 : (k + 1) * m ≤ N * m := Nat.mul_le_mul_right _ hkN
      rw [Nat.succ_mul] at e1
      have e2 := HNm.out
      obtain ⟨K, hK⟩ : ∃ K : Nat, k * m = K := ⟨_, rfl⟩
      rw [hK] at e1
      have hm1 : (k : Int) * (m : Int) = (K : Int) := by rw [← hK, Int.natCast_mul]
      have hm2 : ((k : Int) + 1) * (m : Int) = (K : Int) + (m : Int) := by rw [Int.add_mul, hm1, Int.one_mul]
      obtain ⟨b, off, rfl, hbB, _, _, _⟩ := HR.out.pick (i := 0) (by omega)
      have hlen : ((l.drop K).take m).length = m := by rw [List.length_take, List.length_drop, Nat.min_eq_left (by omega)]
      have hsv := serves_any (some ⟨b, off + K * 3, none⟩) (cap - K) ((l.drop K).take m) w1 (by rw [hlen]; omega)
        (fun p hp => HW.out p (List.mem_of_mem_drop (List.mem_of_mem_take hp))) (((HR.out.part K m (by omega)).below HB.out).mono HB.out.size)
      rw [hlen] at hsv
      have HWB : Hid (runB ((l.drop K).take m) = winB l m k) := by show _ = _; unfold winB; rw [hK]
      have HNX := Lib.hid (fairN_next l m k)
      have HNO : Hid (winB l m k = false → fairN l m N = false) := fun h => fairN_no hkN h
      clear hK hlen
      cases hr : runB ((l.drop K).take m)
      · rw [hr] at hsv HWB
        have HRR := Lib.hid hr
        clear hr
        go_wp2_with (first
          | (go_at_call 27; refine hsv.mono ?_; rintro e w2 ⟨rfl, hb2⟩; have HB2 := Lib.hid hb2; clear hb2))
        go_ret
        exact ⟨ret_bool (by rw [HV.out, HNO.out HWB.out.symm]), HB.out.trans (HB2.out.mono HB.out.size)⟩
      · rw [hr] at hsv HWB
        have HRR := Lib.hid hr
        clear hr
        go_wp2_with (first
          | (go_at_call 27; refine hsv.mono ?_; rintro e w2 ⟨rfl, hb2⟩; have HB2 := Lib.hid hb2; clear hb2))
        go_roundg (N - (k + 1))
        case measure => omega
        case rel => exact ⟨HB.out.trans (HB2.out.mono HB.out.size), k + 1, by go_num, by omega, (show Hid _ from by show _ = _; rw [HNX.out, HK.out, ← HWB.out]; rfl)⟩
    · obtain rfl : k = N := by omega
      go_wp2
      go_ret
      exact ⟨ret_bool (by rw [HV.out, HK.out]), HB.out⟩
end Go.Proofs.Ytdhooabamoehiaa
