/- The contract of servesAll. -/
import Derived.Test.YtdhooabamoehiaaRows
import Derived.Test.YtdhooabamoehiaaRf
import Derived.WalkKit
import Derived.WalkLawsBesides
import Derived.Deep.QuietTactic
import Derived.BigQuiet
import Derived.WalkSmall
import Derived.WalkSpells
import Derived.Lib.Hide
import Derived.Below
import Derived.Deep.Cut
import Derived.LoopTactic
namespace Go.Proofs.Ytdhooabamoehiaa
open Go.RowKit

theorem store_float (w : World) (a : Addr) (k : FloatKind) (x : Nat) (m : Mode) : (store a (.float k x) m).run Try.prog w = stored Try.prog w a (.float k x) m := run_store Try.prog w a _ m rfl
def Wd (l : List Pk) : Prop := ∀ p ∈ l, p.at' < 18446744073709551616

set_option maxRecDepth 100000 in
theorem serves_any (A : Option Addr) (cap : Nat) (l : List Pk) (w : World) (hl : l.length ≤ 9223372036854775807) (hw : Wd l) (hr : Rd w w.heap.size A (cellsP l)) :
    Calls Try.prog 27 #[.slice A l.length cap] w fun e w' => e = .returned (.bool (runB l)) ∧ Below w.heap.size w w' := by
  have HR := Lib.hid hr
  have HW := Lib.hid hw
  clear hr hw
  go_enter Try.func27, Try.ntmps27
  go_wp2
  go_loopg [7] 3 (fun gg v7 wr => Below w.heap.size w wr ∧ ∃ c : Nat, v7 = .int .i64 c ∧ c + gg = 3 ∧ Hid (uptoB l c 0 = true))
  case atStart => exact ⟨Below.refl _ _, 0, rfl, by omega, uptoB_zero l⟩
  case round =>
    obtain ⟨hb1, c, rfl, hc, HC⟩ := hrel
    obtain ⟨w1, rfl⟩ : ∃ w1 : World, w1 = wr := ⟨_, rfl⟩
    have HB1 := Lib.hid hb1
    clear hb1
    by_cases hc3 : c < 3
    · have hc3' : (c : Int) < 3 := by omega
      go_wp2
      go_step3
      go_wp2
      go_step3
      go_wp2
      go_loopg [10] 6 (fun g2 v10 wr2 => Below w.heap.size w wr2 ∧ ∃ u : Nat, v10 = .int .i64 u ∧ u + g2 = 6 ∧ Hid (uptoB l c u = true))
      case atStart => exact ⟨HB1.out, 0, rfl, by omega, HC⟩
      case round =>
        obtain ⟨hb2, u, rfl, hu, HU⟩ := hrel
        obtain ⟨w2, rfl⟩ : ∃ w2 : World, w2 = wr := ⟨_, rfl⟩
        have HB2 := Lib.hid hb2
        clear hb2
        by_cases hu6 : u < 6
        · have hu6' : (u : Int) < 6 := by omega
          go_wp2
          go_loopg [15] l.length (fun g3 v15 wr3 => Below w.heap.size w wr3 ∧ ∃ i : Nat, v15 = .int .i64 i ∧ i + g3 = l.length ∧ Hid (noneB l c u i = false))
          case atStart => exact ⟨HB2.out, 0, rfl, by omega, (show Hid _ from rfl)⟩
          case round =>
            obtain ⟨hb3, i, rfl, hi, HI⟩ := hrel
            by_cases hil : i < l.length
            · obtain ⟨b, off, rfl, hbB, q0, q1, q2⟩ := HR.out.pick hil
              have bi := HW.out _ (List.getElem_mem hil)
              have r0 := (hb3.cell (p := ⟨b, off + i * 3, none⟩) hbB).trans q0
              have r1 := (hb3.cell (p := ⟨b, off + i * 3 + 1, none⟩) hbB).trans q1
              have r2 := (hb3.cell (p := ⟨b, off + i * 3 + 2, none⟩) hbB).trans q2
              clear q0 q1 q2
              have hii : (i : Int) < (l.length : Int) := by omega
              have HN : Hid (noneB l c u (i + 1) = (noneB l c u i || hitB c u l[i])) := noneB_next hil
              have HH : Hid (hitB c u l[i] = true → unitB l c u = true) := unit_of hil
              generalize l[i] = p at *
              obtain ⟨pc, pu, pa⟩ := p
              simp only at r0 r1 r2 bi
              have hst := @store_float
              by_cases h1 : pc = (c : Int)
              · subst h1
                by_cases h2 : pu = (u : Int)
                · subst h2
                  cases ho : olB pa
                  · have hno : Hid (hitB c u ⟨(c : Int), (u : Int), pa⟩ = false) := by show _ = _; unfold hitB; rw [ho]; simp
                    have HO := oldest_any pa bi
                    rw [ho] at HO
                    have HHo := Lib.hid ho
                    clear ho
                    go_wp2_with (first
                      | (go_at_call 11; refine (HO _).mono ?_; rintro e w' ⟨rfl, rfl⟩))
                    have hno := hno.out
                    go_roundg (l.length - (i + 1))
                    case measure => omega
                    case rel => exact ⟨hb3.alloc hb3.size _, i + 1, by go_num, by omega, (show Hid _ from by show _ = _; rw [HN.out, HI.out, hno]; rfl)⟩
                  · have hno : Hid (hitB c u ⟨(c : Int), (u : Int), pa⟩ = true) := by show _ = _; unfold hitB; rw [ho]; simp
                    have HO := oldest_any pa bi
                    rw [ho] at HO
                    have HHo := Lib.hid ho
                    have HX : Hid (uptoB l c (u + 1) = true) := by show _ = _; rw [uptoB_next, HU.out, HH.out hno.out]; rfl
                    clear ho
                    go_wp2_with (first
                      | (go_at_call 11; refine (HO _).mono ?_; rintro e w' ⟨rfl, rfl⟩))
                    go_roundg (6 - (u + 1))
                    case measure => omega
                    case rel => exact ⟨hb3.alloc hb3.size _, u + 1, by go_num, by omega, HX⟩
                · have ht : (pu == (u : Int)) = false := by simpa using h2
                  have hno : Hid (hitB c u ⟨(c : Int), pu, pa⟩ = false) := by show _ = _; unfold hitB; simp [h2]
                  clear h2
                  go_wp2
                  have hno := hno.out
                  go_roundg (l.length - (i + 1))
                  case measure => omega
                  case rel => exact ⟨hb3.alloc hb3.size _, i + 1, by go_num, by omega, (show Hid _ from by show _ = _; rw [HN.out, HI.out, hno]; rfl)⟩
              · have ht : (pc == (c : Int)) = false := by simpa using h1
                have hno : Hid (hitB c u ⟨pc, pu, pa⟩ = false) := by show _ = _; unfold hitB; simp [h1]
                clear h1
                go_wp2
                have hno := hno.out
                go_roundg (l.length - (i + 1))
                case measure => omega
                case rel => exact ⟨hb3.alloc hb3.size _, i + 1, by go_num, by omega, (show Hid _ from by show _ = _; rw [HN.out, HI.out, hno]; rfl)⟩
            · have HF : Hid (runB l = false) := by
                refine uptoB_le l hc3 hu6 ?_
                rw [← noneB_all (i := i) (by omega)]; exact HI.out
              go_wp2
              try rw [Exit.noGoto_ret]
              go_ret
              exact ⟨ret_bool HF.out.symm, hb3⟩
        · obtain rfl : u = 6 := by omega
          have HX : Hid (uptoB l (c + 1) 0 = true) := by show _ = _; rw [uptoB_core]; exact HU.out
          go_wp2
          rw [Exit.noGoto_normal]
          go_wp2
          go_roundg (3 - (c + 1))
          case measure => omega
          case rel => exact ⟨HB2.out, c + 1, by go_num, by omega, HX⟩
    · obtain rfl : c = 3 := by omega
      go_wp2
      go_ret
      exact ⟨ret_bool HC.out.symm, HB1.out⟩
end Go.Proofs.Ytdhooabamoehiaa
