/- The contract of the document's Fair. -/
import Derived.Test.YtdhooabamoehiaaRows
import Derived.Test.YtdhooabamoehiaaFa
import Derived.WalkKit
import Derived.WalkLawsBesides
import Derived.Deep.QuietTactic
import Derived.BigQuiet
import Derived.WalkSmall
import Derived.WalkSpells
import Derived.Lib.Hide
import Derived.Below
import Derived.Deep.Cut
import Derived.LoopTactic
namespace Go.Proofs.Ytdhooabamoehiaa
open Go.RowKit

theorem noneB_at {l : List Pk} {c u i : Nat} {p : Pk} (h : l[i]? = some p) : noneB l c u (i + 1) = (noneB l c u i || hitB c u p) := by
  obtain ⟨hi, e⟩ := List.getElem?_eq_some_iff.1 h
  rw [noneB_next hi, e]
set_option maxHeartbeats 1000000 in
set_option maxRecDepth 100000 in
theorem rfair_any (A : Option Addr) (cap : Nat) (l : List Pk) (v : Int) (w : World) (hl : l.length ≤ 9223372036854775807) (hv : v ≤ 9223372036854775807) (hw : Wd l) (hr : Rd w w.heap.size A (cellsP l)) :
    Calls Try.prog 16 #[.slice A l.length cap, .int .i64 v] w fun e w' => e = .returned (.bool (fairB l v)) ∧ Below w.heap.size w w' := by
  have HR := Lib.hid hr
  have HW := Lib.hid hw
  clear hr hw
  by_cases h : v < 1
  · have HV : Hid (fairB l v = false) := by show _ = _; unfold fairB; rw [decide_eq_false (by omega)]; rfl
    go_enter Try.func16, Try.ntmps16
    go_wp2
    go_ret
    exact ⟨ret_bool HV.out.symm, Below.refl _ _⟩
  obtain ⟨m, rfl⟩ : ∃ m : Nat, v = (m : Int) := ⟨v.toNat, by omega⟩
  have HV : Hid (fairB l (m : Int) = fairN l m (l.length / m)) := by show _ = _; unfold fairB; rw [decide_eq_true (by omega)]; rfl
  obtain ⟨N, hN⟩ : ∃ N, l.length / m = N := ⟨_, rfl⟩
  rw [hN] at HV
  have hNm : N * m ≤ l.length := by rw [← hN]; exact Nat.div_mul_le_self _ _
  have hNl : N ≤ l.length := by rw [← hN]; exact Nat.div_le_self _ _
  have hdv : (l.length : Int) / (m : Int) = (N : Int) := by rw [← hN, Int.natCast_ediv]
  have HNm := Lib.hid hNm
  clear hN hNm
  go_enter Try.func16, Try.ntmps16
  go_wp2
  go_loopg [5] N (fun gg v5 wr => Below w.heap.size w wr ∧ ∃ k : Nat, v5 = .int .i64 k ∧ k + gg = N ∧ Hid (fairN l m k = true))
  case atStart => exact ⟨Below.refl _ _, 0, rfl, by omega, (show Hid _ from rfl)⟩
  case round =>
    obtain ⟨hb, k, rfl, hk, HK⟩ := hrel
    obtain ⟨w1, rfl⟩ : ∃ w1 : World, w1 = wr := ⟨_, rfl⟩
    have HB1 := Lib.hid hb
    clear hb
    by_cases hkN : k < N
    · have hkN' : (k : Int) < (N : Int) := by omega
      have e1 : (k + 1) * m ≤ N * m := Nat.mul_le_mul_right _ hkN
      rw [Nat.succ_mul] at e1
      have e2 := HNm.out
      obtain ⟨K, hK⟩ : ∃ K : Nat, k * m = K := ⟨_, rfl⟩
      rw [hK] at e1
      have hm1 : (k : Int) * (m : Int) = (K : Int) := by rw [← hK, Int.natCast_mul]
      obtain ⟨b, off, rfl, hbB, _, _, _⟩ := HR.out.pick (i := 0) (by omega)
      obtain ⟨rn, hrn⟩ : ∃ rn, (l.drop K).take m = rn := ⟨_, rfl⟩
      have hlen : rn.length = m := by rw [← hrn, List.length_take, List.length_drop, Nat.min_eq_left (by omega)]
      have HLEN := Lib.hid hlen
      have HAT : Hid (∀ i, i < m → rn[i]? = l[K + i]?) := by
        intro i h
        rw [← hrn, List.getElem?_take_of_lt h, List.getElem?_drop]
      have HWB : Hid (runB rn = winB l m k) := by show _ = _; unfold winB; rw [hK, hrn]
      have HNX := Lib.hid (fairN_next l m k)
      have HNO : Hid (winB l m k = false → fairN l m N = false) := fun h => fairN_no hkN h
      clear hK hlen hrn
      go_wp2
      go_loopg [6] 3 (fun g1 v6 wr1 => Below w.heap.size w wr1 ∧ ∃ c : Nat, v6 = .int .i64 c ∧ c + g1 = 3 ∧ Hid (uptoB rn c 0 = true))
      case atStart => exact ⟨HB1.out, 0, rfl, by omega, uptoB_zero rn⟩
      case round =>
        obtain ⟨hb, c, rfl, hc, HC⟩ := hrel
        obtain ⟨w2, rfl⟩ : ∃ w2 : World, w2 = wr := ⟨_, rfl⟩
        have HB2 := Lib.hid hb
        clear hb
        by_cases hc3 : c < 3
        · have hc3' : (c : Int) < 3 := by omega
          go_wp2
          go_loopg [7] 6 (fun g2 v7 wr2 => Below w.heap.size w wr2 ∧ ∃ u : Nat, v7 = .int .i64 u ∧ u + g2 = 6 ∧ Hid (uptoB rn c u = true))
          case atStart => exact ⟨HB2.out, 0, rfl, by omega, HC⟩
          case round =>
            obtain ⟨hb, u, rfl, hu, HU⟩ := hrel
            obtain ⟨w3, rfl⟩ : ∃ w3 : World, w3 = wr := ⟨_, rfl⟩
            have HB3 := Lib.hid hb
            clear hb
            by_cases hu6 : u < 6
            · have hu6' : (u : Int) < 6 := by omega
              go_wp2
              go_loopg [8, 9] m (fun g3 v8 v9 wr3 => Below w.heap.size w wr3 ∧ ∃ (i : Nat) (t : Bool), v8 = .bool t ∧ v9 = .int .i64 i ∧ i + g3 = m ∧ Hid (t = noneB rn c u i))
              case atStart => exact ⟨HB3.out, 0, false, rfl, rfl, by omega, (show Hid _ from rfl)⟩
              case round =>
                obtain ⟨hb3, i, t, rfl, rfl, hi, HI⟩ := hrel
                by_cases hil : i < m
                · have hii : (i : Int) < (m : Int) := by omega
                  obtain ⟨b', off', e', hbB', q0, q1, q2⟩ := HR.out.pick (i := K + i) (by omega)
                  cases e'
                  have bi := HW.out _ (List.getElem_mem (show K + i < l.length by omega))
                  have r0 := (hb3.cell (p := ⟨b, off + (K + i) * 3, none⟩) hbB).trans q0
                  have r1 := (hb3.cell (p := ⟨b, off + (K + i) * 3 + 1, none⟩) hbB).trans q1
                  have r2 := (hb3.cell (p := ⟨b, off + (K + i) * 3 + 2, none⟩) hbB).trans q2
                  clear q0 q1 q2
                  have HN : Hid (noneB rn c u (i + 1) = (noneB rn c u i || hitB c u (l[K + i]'(by omega)))) := by
                    show _ = _
                    refine noneB_at ?_
                    rw [HAT.out i hil, List.getElem?_eq_getElem]
                  generalize l[K + i]'(by omega) = p at *
                  obtain ⟨pc, pu, pa⟩ := p
                  simp only at r0 r1 r2 bi
                  have hst := @store_float
                  cases t
                  · by_cases h1 : pc = (c : Int)
                    · subst h1
                      by_cases h2 : pu = (u : Int)
                      · subst h2
                        cases ho : olB pa
                        · have HNO2 : Hid (hitB c u ⟨(c : Int), (u : Int), pa⟩ = false) := by show _ = _; unfold hitB; rw [ho]; simp
                          have HO := roldest_any pa bi
                          rw [ho] at HO
                          have HHo := Lib.hid ho
                          clear ho
                          go_wp2_with (first
                            | (go_at_call 12; refine (HO _).mono ?_; rintro e w' ⟨rfl, rfl⟩))
                          go_roundg (m - (i + 1))
                          case measure => omega
                          case rel => exact ⟨hb3.alloc hb3.size _, i + 1, false, rfl, by go_num, by omega, (show Hid _ from by show _ = _; rw [HN.out, ← HI.out, HNO2.out]; rfl)⟩
                        · have HNO2 : Hid (hitB c u ⟨(c : Int), (u : Int), pa⟩ = true) := by show _ = _; unfold hitB; rw [ho]; simp
                          have HO := roldest_any pa bi
                          rw [ho] at HO
                          have HHo := Lib.hid ho
                          clear ho
                          go_wp2_with (first
                            | (go_at_call 12; refine (HO _).mono ?_; rintro e w' ⟨rfl, rfl⟩))
                          go_roundg (m - (i + 1))
                          case measure => omega
                          case rel => exact ⟨hb3.alloc hb3.size _, i + 1, true, rfl, by go_num, by omega, (show Hid _ from by show _ = _; rw [HN.out, ← HI.out, HNO2.out]; rfl)⟩
                      · have ht : (pu == (u : Int)) = false := by simpa using h2
                        have HNO2 : Hid (hitB c u ⟨(c : Int), pu, pa⟩ = false) := by show _ = _; unfold hitB; simp [h2]
                        clear h2
                        go_wp2
                        go_roundg (m - (i + 1))
                        case measure => omega
                        case rel => exact ⟨hb3.alloc hb3.size _, i + 1, false, rfl, by go_num, by omega, (show Hid _ from by show _ = _; rw [HN.out, ← HI.out, HNO2.out]; rfl)⟩
                    · have ht : (pc == (c : Int)) = false := by simpa using h1
                      have HNO2 : Hid (hitB c u ⟨pc, pu, pa⟩ = false) := by show _ = _; unfold hitB; simp [h1]
                      clear h1
                      go_wp2
                      go_roundg (m - (i + 1))
                      case measure => omega
                      case rel => exact ⟨hb3.alloc hb3.size _, i + 1, false, rfl, by go_num, by omega, (show Hid _ from by show _ = _; rw [HN.out, ← HI.out, HNO2.out]; rfl)⟩
                  · go_wp2
                    go_roundg (m - (i + 1))
                    case measure => omega
                    case rel => exact ⟨hb3.alloc hb3.size _, i + 1, true, rfl, by go_num, by omega, (show Hid _ from by show _ = _; rw [HN.out, ← HI.out]; rfl)⟩
                · have HT : Hid (t = unitB rn c u) := by show _ = _; rw [← noneB_all (i := i) (by rw [HLEN.out]; omega)]; exact HI.out
                  cases t
                  · have HF : Hid (fairN l m N = false) := HNO.out (by rw [← HWB.out]; exact uptoB_le rn hc3 hu6 HT.out.symm)
                    go_wp2
                    go_ret
                    exact ⟨ret_bool (by rw [HV.out, HF.out]), hb3⟩
                  · have HX : Hid (uptoB rn c (u + 1) = true) := by show _ = _; rw [uptoB_next, HU.out, ← HT.out]; rfl
                    go_wp2
                    go_roundg (6 - (u + 1))
                    case measure => omega
                    case rel => exact ⟨hb3, u + 1, by go_num, by omega, HX⟩
            · obtain rfl : u = 6 := by omega
              have HX : Hid (uptoB rn (c + 1) 0 = true) := by show _ = _; rw [uptoB_core]; exact HU.out
              go_wp2
              go_roundg (3 - (c + 1))
              case measure => omega
              case rel => exact ⟨HB3.out, c + 1, by go_num, by omega, HX⟩
        · obtain rfl : c = 3 := by omega
          have HX : Hid (fairN l m (k + 1) = true) := by show _ = _; rw [HNX.out, HK.out, ← HWB.out]; exact HC.out
          go_wp2
          go_roundg (N - (k + 1))
          case measure => omega
          case rel => exact ⟨HB2.out, k + 1, by go_num, by omega, HX⟩
    · obtain rfl : k = N := by omega
      go_wp2
      go_ret
      exact ⟨ret_bool (by rw [HV.out, HK.out]), HB1.out⟩
end Go.Proofs.Ytdhooabamoehiaa
