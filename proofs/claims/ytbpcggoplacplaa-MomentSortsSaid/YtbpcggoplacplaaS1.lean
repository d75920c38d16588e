/- The contract of the stable sort's merge where the first range has one. -/
import Derived.Test.YtbpcggoplacplaaRows
import Derived.Test.YtbpcggoplacplaaSm
import Derived.Test.YtbpcggoplacplaaSw
import Derived.Test.YtbpcggoplacplaaRo
import Derived.Test.YtbpcggoplacplaaCm
import Derived.Test.YtbpcggoplacplaaIn
import Derived.WalkKit
import Derived.Deep.Draws
import Derived.Deep.LoopGhost
import Derived.Deep.QuietTactic
import Derived.BigQuiet
import Derived.BigRegion
import Derived.RegionTactic
import Derived.Lib.Hide
import Derived.Outline
namespace Go.Proofs.Ytbpcggoplacplaa
open Go.RowKit Go.Sort

set_option maxHeartbeats 4000000 in
set_option maxRecDepth 100000 in
theorem symMerge_first (w0 : World) (blk off cap a m b B sz : Nat) (za zm zb : Int) (l : List Nat) (d : Array Int) (w : World) (S : SW w0 blk off d w) (R : Had w0 blk off sz) (V : Vals sz d) (C : CmpOk w0 blk off B l sz) (es : d.size = sz) (ea : za = a) (em : zm = m) (eb : zb = b)
    (ham : a < m) (hmb : m < b) (hb : b ≤ sz) (hsz : sz < 4611686018427387904) (s1 : SrtIn (kyL l) a m d) (s2 : SrtIn (kyL l) m b d) (hx : Apart a m b d) (hm : m = a + 1) :
    Calls Try.prog 40 #[.slice (some ⟨blk, off, none⟩) sz cap, .int .i64 za, .int .i64 zm, .int .i64 zb, .func (.func 31) #[] #[.pointer (some ⟨B, 0, none⟩)]] w fun e w' =>
      e = .returned (.tuple #[]) ∧ ∃ d', PermIn a b d d' ∧ SrtIn (kyL l) a b d' ∧ SW w0 blk off d' w' := by
  subst ea em eb
  have S0 := Lib.hid S
  have RR := Lib.hid R
  have VV := Lib.hid V
  have CMP := Lib.hid C
  have ES := Lib.hid es
  have HX := Lib.hid hx
  have H1 := Lib.hid s1
  have H2 := Lib.hid s2
  clear S R V C es hx s1 s2
  have ht0 : ((m : Int) - (a : Int) == 1) = true := by simp; omega
  have HM := Lib.hid hm
  have R1 : Had w0 blk off d.size := by rw [ES.out]; exact RR.out
  have R1' := Lib.hid R1
  clear R1 hm
  go_enter Try.func40, Try.ntmps40
  go_wp2
  go_loopg [10, 11] (b - m) (fun gg vi vj wr => ∃ (i j : Nat), vi = .int .i64 i ∧ vj = .int .i64 j ∧ m ≤ i ∧ i ≤ j ∧ j ≤ b ∧ j - i ≤ gg ∧ Hid (∀ h, m ≤ h → h < i → kyL l d[h]! < kyL l d[a]!) ∧ Hid (∀ h, j ≤ h → h < b → kyL l d[a]! ≤ kyL l d[h]!) ∧ Hid (SW w0 blk off d wr))
  case atStart => exact ⟨m, b, rfl, rfl, by omega, by omega, by omega, by omega, fun h _ _ => by omega, fun h _ _ => by omega, S0⟩
  case round =>
    clear S0
    obtain ⟨i, j, rfl, rfl, hmi, hij, hjb, hgg, HA, HB, S1⟩ := hrel
    have hes := ES.out
    have R1 := R1'.out
    have V1 := VV
    by_cases hlt : i < j
    · have hltz : (i : Int) < (j : Int) := by omega
      cases hl1 : ltI (kyL l) d[(i + j) / 2]! d[a]! with
      | true =>
        have HA2 : Hid (∀ h, m ≤ h → h < (i + j) / 2 + 1 → kyL l d[h]! < kyL l d[a]!) := fun h g1 g2 =>
          Int.lt_of_le_of_lt (H2.out.le g1 (by omega) (by omega)) (of_decide_eq_true hl1)
        obtain ⟨iN1, hiN1⟩ : ∃ x, x = (i + j) / 2 := ⟨_, rfl⟩
        obtain ⟨jN1, hjN1⟩ : ∃ x, x = a := ⟨_, rfl⟩
        have ea1 : (((i : Int) + (j : Int)) / 2).toNat = iN1 := by omega
        have pa1 : (0 : Int) ≤ ((i : Int) + (j : Int)) / 2 := by omega
        have ba1 : ((i : Int) + (j : Int)) / 2 < (sz : Int) := by omega
        have ra1 : IntKind.i64.wrap (((i : Int) + (j : Int)) / 2) = ((i : Int) + (j : Int)) / 2 := by rw [IntKind.wrap_i64]; omega
        have ec1 : ((a : Int)).toNat = jN1 := by omega
        have pc1 : (0 : Int) ≤ (a : Int) := by omega
        have bc1 : (a : Int) < (sz : Int) := by omega
        have rc1 : IntKind.i64.wrap ((a : Int)) = (a : Int) := by rw [IntKind.wrap_i64]; omega
        obtain ⟨x1, hx1⟩ : ∃ x, x = d[(i + j) / 2]! := ⟨_, rfl⟩
        obtain ⟨y1, hy1⟩ : ∃ x, x = d[a]! := ⟨_, rfl⟩
        have l1a := S1.out.c1 R1 ((i + j) / 2) (by omega)
        have l1b := S1.out.c1 R1 (a) (by omega)
        rw [← hx1, ← hiN1] at l1a
        rw [← hy1, ← hjN1] at l1b
        have hc1 := CMP.out d wr (by omega) V1.out S1.out x1 y1 (by rw [hx1]; exact (V1.out ((i + j) / 2) (by omega))) (by rw [hy1]; exact (V1.out (a) (by omega)))
        have hd1 : decide (cfL l x1 y1 < 0) = true := by rw [cfL_lt, hx1, hy1]; exact hl1
        have hv1 : cfL l x1 y1 < 0 := of_decide_eq_true hd1
        clear hx1 hy1 hiN1 hjN1
        go_wp2_with fail
        go_quiet (first | (go_at_call 31; refine Calls.quiet_of (hc1 _)))
        have Sw2 : Hid (SW w0 blk off d (wr.drewN nq)) := S1.out.drewN nq
        clear l1a l1b hc1 S1 R1 V1 hl1 hes
        generalize wr.drewN nq = w2 at Sw2 ⊢
        clear nq
        clear ea1 pa1 ba1 ra1 ec1 pc1 bc1 rc1
        go_wp2
        go_roundg (j - ((i + j) / 2 + 1))
        case measure => omega
        case rel => exact ⟨(i + j) / 2 + 1, j, by go_num, rfl, by omega, by omega, by omega, by omega, HA2, HB, Sw2⟩
      | false =>
        have HB2 : Hid (∀ h, (i + j) / 2 ≤ h → h < b → kyL l d[a]! ≤ kyL l d[h]!) := fun h g1 g2 =>
          Int.le_trans (Int.not_lt.1 (of_decide_eq_false hl1)) (H2.out.le (by omega) g1 g2)
        obtain ⟨iN1, hiN1⟩ : ∃ x, x = (i + j) / 2 := ⟨_, rfl⟩
        obtain ⟨jN1, hjN1⟩ : ∃ x, x = a := ⟨_, rfl⟩
        have ea1 : (((i : Int) + (j : Int)) / 2).toNat = iN1 := by omega
        have pa1 : (0 : Int) ≤ ((i : Int) + (j : Int)) / 2 := by omega
        have ba1 : ((i : Int) + (j : Int)) / 2 < (sz : Int) := by omega
        have ra1 : IntKind.i64.wrap (((i : Int) + (j : Int)) / 2) = ((i : Int) + (j : Int)) / 2 := by rw [IntKind.wrap_i64]; omega
        have ec1 : ((a : Int)).toNat = jN1 := by omega
        have pc1 : (0 : Int) ≤ (a : Int) := by omega
        have bc1 : (a : Int) < (sz : Int) := by omega
        have rc1 : IntKind.i64.wrap ((a : Int)) = (a : Int) := by rw [IntKind.wrap_i64]; omega
        obtain ⟨x1, hx1⟩ : ∃ x, x = d[(i + j) / 2]! := ⟨_, rfl⟩
        obtain ⟨y1, hy1⟩ : ∃ x, x = d[a]! := ⟨_, rfl⟩
        have l1a := S1.out.c1 R1 ((i + j) / 2) (by omega)
        have l1b := S1.out.c1 R1 (a) (by omega)
        rw [← hx1, ← hiN1] at l1a
        rw [← hy1, ← hjN1] at l1b
        have hc1 := CMP.out d wr (by omega) V1.out S1.out x1 y1 (by rw [hx1]; exact (V1.out ((i + j) / 2) (by omega))) (by rw [hy1]; exact (V1.out (a) (by omega)))
        have hd1 : decide (cfL l x1 y1 < 0) = false := by rw [cfL_lt, hx1, hy1]; exact hl1
        have hv1 : ¬ cfL l x1 y1 < 0 := of_decide_eq_false hd1
        clear hx1 hy1 hiN1 hjN1
        go_wp2_with fail
        go_quiet (first | (go_at_call 31; refine Calls.quiet_of (hc1 _)))
        have Sw2 : Hid (SW w0 blk off d (wr.drewN nq)) := S1.out.drewN nq
        clear l1a l1b hc1 S1 R1 V1 hl1 hes
        generalize wr.drewN nq = w2 at Sw2 ⊢
        clear nq
        clear ea1 pa1 ba1 ra1 ec1 pc1 bc1 rc1
        go_wp2
        go_roundg ((i + j) / 2 - i)
        case measure => omega
        case rel => exact ⟨i, (i + j) / 2, rfl, by go_num, hmi, by omega, by omega, by omega, HA, HB2, Sw2⟩
    · have hltz : ¬ (i : Int) < (j : Int) := by omega
      have hji : j = i := by omega
      have HJ := Lib.hid hji
      have hm := HM.out
      clear hji
      go_wp2
      go_loopg [13] (i - 1 - a) (fun gg vk wr2 => ∃ (k : Nat) (dk : Array Int), vk = .int .i64 k ∧ a ≤ k ∧ k ≤ i - 1 ∧ i - 1 - k ≤ gg ∧ Hid (RotR a (a + 1) (k + 1) d dk) ∧ Hid (SW w0 blk off dk wr2))
      case atStart => exact ⟨a, d, rfl, by omega, by omega, by omega, RotR.one a (a + 1) (by omega) d, S1⟩
      case round =>
        clear S1 R1
        obtain ⟨k, dk, rfl, hak, hki, hgk, HR, SK⟩ := hrel
        have hsk : dk.size = sz := HR.out.size.trans ES.out
        have R2 : Had w0 blk off dk.size := by rw [hsk]; exact RR.out
        by_cases hk : k < i - 1
        · have hkz : (k : Int) < (i : Int) - 1 := by omega
          have HR2 : Hid (RotR a (a + 1) (k + 1 + 1) d (swp dk k (k + 1))) := HR.out.right hak (by omega)
          obtain ⟨iN2, hiN2⟩ : ∃ x, x = k := ⟨_, rfl⟩
          obtain ⟨jN2, hjN2⟩ : ∃ x, x = k + 1 := ⟨_, rfl⟩
          have ea2 : ((k : Int)).toNat = iN2 := by omega
          have pa2 : (0 : Int) ≤ (k : Int) := by omega
          have ba2 : (k : Int) < (sz : Int) := by omega
          have ra2 : IntKind.i64.wrap ((k : Int)) = (k : Int) := by rw [IntKind.wrap_i64]; omega
          have ec2 : ((k : Int) + 1).toNat = jN2 := by omega
          have pc2 : (0 : Int) ≤ (k : Int) + 1 := by omega
          have bc2 : (k : Int) + 1 < (sz : Int) := by omega
          have rc2 : IntKind.i64.wrap ((k : Int) + 1) = (k : Int) + 1 := by rw [IntKind.wrap_i64]; omega
          obtain ⟨x2, hx2⟩ : ∃ x, x = dk[k]! := ⟨_, rfl⟩
          obtain ⟨y2, hy2⟩ : ∃ x, x = dk[k + 1]! := ⟨_, rfl⟩
          have Sw3 : Hid (SW w0 blk off (swp dk (k) (k + 1)) ((wr.setCell ⟨blk, off + iN2, none⟩ (.int .i64 y2)).setCell ⟨blk, off + jN2, none⟩ (.int .i64 x2)).drew) := by rw [hiN2, hjN2, hx2, hy2]; exact SK.out.swapped (k) (k + 1) (by omega) (by omega)
          have c2a := SK.out.c1 R2 (k) (by omega)
          have c2b := SK.out.c1 R2 (k + 1) (by omega)
          have f2a := SK.out.f1 R2 (k) (by omega)
          have f2b := SK.out.f1 R2 (k + 1) (by omega)
          obtain ⟨u2, c2c⟩ := SK.out.c2 R2 (k) (k + 1) (by omega) (by omega) (.int .i64 y2)
          rw [← hjN2, ← hiN2] at c2c
          rw [← hx2, ← hiN2] at c2a
          rw [← hy2, ← hjN2] at c2b
          rw [← hiN2] at f2a
          rw [← hjN2] at f2b
          clear SK hx2 hy2 hiN2 hjN2
          go_wp2_with fail
          go_region
          clear c2a c2b c2c f2a f2b
          generalize ((wr.setCell ⟨blk, off + iN2, none⟩ (.int .i64 y2)).setCell ⟨blk, off + jN2, none⟩ (.int .i64 x2)).drew = w3 at Sw3 ⊢
          clear ea2 pa2 ba2 ra2 ec2 pc2 bc2 rc2
          clear R2 hes
          go_wp2
          go_roundg (i - 1 - (k + 1))
          case measure => omega
          case rel => exact ⟨k + 1, swp dk k (k + 1), by go_num, by omega, by omega, by omega, HR2, Sw3⟩
        · have hkz : ¬ (k : Int) < (i : Int) - 1 := by omega
          clear R2 hes hsk
          go_wp2
          refine bodyPost_ret (results_none rfl _ _ _) rfl ?_
          have hr := HR.out
          have hm := HM.out
          have hji := HJ.out
          rw [show k + 1 = i by omega] at hr
          have h1 := H1.out
          have h2 := H2.out
          have hx := HX.out
          subst hm
          refine ⟨rfl, dk, permIn_mono _ _ _ _ _ _ (Nat.le_refl _) (by omega) (by have := ES.out; omega) hr.1, merge_first (by omega) (by omega) h2 hx HA.out (fun h g1 g2 => HB.out h (by omega) g2) hr, SK.out⟩
end Go.Proofs.Ytbpcggoplacplaa
