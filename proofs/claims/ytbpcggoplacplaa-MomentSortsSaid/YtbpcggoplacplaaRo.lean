/- The contract of the stable sort's rotation. -/
import Derived.Test.YtbpcggoplacplaaRows
import Derived.Test.YtbpcggoplacplaaSm
import Derived.Test.YtbpcggoplacplaaSw
import Derived.WalkKit
import Derived.Deep.LoopGhost
import Derived.Lib.Hide
import Derived.Outline
namespace Go.Proofs.Ytbpcggoplacplaa
open Go.RowKit Go.Sort

/-- What is left of a rotation: whatever rotates the rest rotates the whole. -/
def RotL (a m b i j : Nat) (d dk : Array Int) : Prop := dk.size = d.size ∧ ∀ d', RotR (m - i) m (m + j) dk d' → RotR a m b d d'

set_option maxHeartbeats 1000000 in
set_option maxRecDepth 100000 in
theorem rotate_any (w0 : World) (blk off cap a m b g sz : Nat) (za zm zb : Int) (cb : Array Value) (d : Array Int) (w : World) (S : SW w0 blk off d w) (R : Had w0 blk off sz) (es : d.size = sz) (ea : za = a) (em : zm = m) (eb : zb = b)
    (ham : a < m) (hmb : m < b) (hb : b ≤ sz) (hsz : sz < 4611686018427387904) :
    Calls Try.prog 44 #[.slice (some ⟨blk, off, none⟩) sz cap, .int .i64 za, .int .i64 zm, .int .i64 zb, .func (.func g) #[] cb] w fun e w' =>
      e = .returned (.tuple #[]) ∧ ∃ d', RotR a m b d d' ∧ SW w0 blk off d' w' := by
  subst ea em eb
  have S0 := Lib.hid S
  have RR := Lib.hid R
  have ES := Lib.hid es
  have HL0 : Hid (RotL a m b (m - a) (b - m) d d) := by
    refine ⟨rfl, fun d' h => ?_⟩
    rw [show m - (m - a) = a by omega, show m + (b - m) = b by omega] at h
    exact h
  clear S R es
  go_enter Try.func44, Try.ntmps44
  go_wp2
  go_loopg [10, 11] (b - a) (fun gg vi vj wr => ∃ (i j : Nat) (dk : Array Int), vi = .int .i64 i ∧ vj = .int .i64 j ∧ i + j ≤ gg ∧ 0 < i ∧ 0 < j ∧ i ≤ m - a ∧ j ≤ b - m ∧ Hid (RotL a m b i j d dk) ∧ Hid (SW w0 blk off dk wr))
  case atStart => exact ⟨m - a, b - m, d, by congr 1; omega, by congr 1; omega, by omega, by omega, by omega, by omega, by omega, HL0, S0⟩
  case round =>
    clear S0 HL0
    obtain ⟨i, j, dk, rfl, rfl, hg, hi0, hj0, hia, hjb, HL, S1⟩ := hrel
    by_cases c1 : i = j
    · have hne : ((i : Int) != (j : Int)) = false := by simp; omega
      have CC := Lib.hid c1
      clear c1
      go_wp2_with (first
        | (go_at_call 47; refine (swapRange_z w0 blk off cap (m - i) m i g sz _ _ _ cb dk wr S1.out RR.out (HL.out.1.trans ES.out) (by omega) (by omega) (by omega) (by omega) (by have := CC.out; omega) hsz).mono ?_; rintro e w2 ⟨rfl, d2, hs2, hw2⟩))
      go_end0
      have h2 := rot_eq (by omega) hs2
      have c1 := CC.out
      subst c1
      exact ⟨rfl, d2, HL.out.2 d2 h2, hw2⟩
    · have hne : ((i : Int) != (j : Int)) = true := by simp; omega
      by_cases c2 : j < i
      · have c2' : (j : Int) < (i : Int) := by omega
        go_wp2_with (first
          | (go_at_call 47; refine (swapRange_z w0 blk off cap (m - i) m j g sz _ _ _ cb dk wr S1.out RR.out (HL.out.1.trans ES.out) (by omega) (by omega) (by omega) (by omega) (by omega) hsz).mono ?_; rintro e w2 ⟨rfl, d2, hs2, hw2⟩))
        have HL2 : Hid (RotL a m b (i - j) j d d2) := ⟨hs2.size.trans HL.out.1, fun d' h => HL.out.2 d' (rot_gt (by omega) c2 hs2 h (by have := HL.out.1; have := ES.out; omega))⟩
        have HW2 := Lib.hid hw2
        clear hs2 hw2
        go_wp2
        go_roundg (i - j + j)
        case measure => omega
        case rel => exact ⟨i - j, j, d2, by congr 1; omega, rfl, by omega, by omega, hj0, by omega, hjb, HL2, HW2⟩
      · have c2' : ¬ (j : Int) < (i : Int) := by omega
        go_wp2_with (first
          | (go_at_call 47; refine (swapRange_z w0 blk off cap (m - i) (m + j - i) i g sz _ _ _ cb dk wr S1.out RR.out (HL.out.1.trans ES.out) (by omega) (by omega) (by omega) (by omega) (by omega) hsz).mono ?_; rintro e w2 ⟨rfl, d2, hs2, hw2⟩))
        have HL2 : Hid (RotL a m b i (j - i) d d2) := ⟨hs2.size.trans HL.out.1, fun d' h => HL.out.2 d' (rot_lt (by omega) (by omega) hs2 h (by have := HL.out.1; have := ES.out; omega))⟩
        have HW2 := Lib.hid hw2
        clear hs2 hw2
        go_wp2
        go_roundg (i + (j - i))
        case measure => omega
        case rel => exact ⟨i, j - i, d2, rfl, by congr 1; omega, by omega, hi0, by omega, hia, by omega, HL2, HW2⟩
end Go.Proofs.Ytbpcggoplacplaa
