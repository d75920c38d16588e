/- The contract of the stable sort's insertion into a range whose places come in their numbers' order. -/
import Derived.Test.YtbpcggoplacplaaRows
import Derived.Test.YtbpcggoplacplaaSm
import Derived.Test.YtbpcggoplacplaaSw
import Derived.Test.YtbpcggoplacplaaCm
import Derived.WalkKit
import Derived.Deep.Draws
import Derived.Deep.LoopGhost
import Derived.Deep.QuietTactic
import Derived.BigQuiet
import Derived.BigRegion
import Derived.RegionTactic
import Derived.Lib.Hide
import Derived.Outline
namespace Go.Proofs.Ytbpcggoplacplaa
open Go.RowKit Go.Sort

/-- Each is a place of a list of that length. -/
def Vals (sz : Nat) (d : Array Int) : Prop := ∀ k, k < d.size → 0 ≤ d[k]! ∧ d[k]! < sz
theorem Vals.perm {sz a b : Nat} {d d' : Array Int} (h : Vals sz d) (hb : b ≤ d.size) (p : PermIn a b d d') : Vals sz d' := fun k hk => by
  have hs : d'.size = d.size := p.1
  by_cases c : a ≤ k ∧ k < b
  · exact permIn_all d d' a b (fun x => 0 ≤ x ∧ x < sz) hb p (fun i _ hi => h i (by omega)) k c.1 c.2
  · rw [p.2.1 k (by omega)]; exact h k (by omega)
/-- What is asked of the closure, in each world of the sort. -/
def CmpOk (w0 : World) (blk off B : Nat) (l : List Nat) (sz : Nat) : Prop := ∀ (d : Array Int) (W : World), d.size = sz → Vals sz d → SW w0 blk off d W → ∀ x y : Int, (0 ≤ x ∧ x < sz) → (0 ≤ y ∧ y < sz) → ∀ n,
  Calls Try.prog 31 #[.int .i64 x, .int .i64 y, .pointer (some ⟨B, 0, none⟩)] (W.drewN n) fun e w' => e = .returned (.int .i64 (cfL l x y)) ∧ ∃ m, w' = (W.drewN n).drewN m

set_option maxHeartbeats 2000000 in
set_option maxRecDepth 100000 in
theorem insertion_any (w0 : World) (blk off cap a b B sz : Nat) (za zb : Int) (l : List Nat) (d : Array Int) (w : World) (S : SW w0 blk off d w) (R : Had w0 blk off sz) (V : Vals sz d) (C : CmpOk w0 blk off B l sz) (es : d.size = sz) (ea : za = a) (eb : zb = b)
    (hab : a ≤ b) (hb : b ≤ sz) (hsz : sz < 4611686018427387904) (hx : ∀ p q, a ≤ p → p < q → q < b → d[p]! < d[q]!) :
    Calls Try.prog 39 #[.slice (some ⟨blk, off, none⟩) sz cap, .int .i64 za, .int .i64 zb, .func (.func 31) #[] #[.pointer (some ⟨B, 0, none⟩)]] w fun e w' =>
      e = .returned (.tuple #[]) ∧ ∃ d', PermIn a b d d' ∧ SrtIn (kyL l) a b d' ∧ SW w0 blk off d' w' := by
  subst ea eb
  have S0 := Lib.hid S
  have RR := Lib.hid R
  have VV := Lib.hid V
  have CMP := Lib.hid C
  have ES := Lib.hid es
  have HX := Lib.hid hx
  clear S R V C es hx
  go_enter Try.func39, Try.ntmps39
  go_wp2
  go_loopg [8] (b - a) (fun g1 vi wr => ∃ (i : Nat) (dk : Array Int), vi = .int .i64 i ∧ a < i ∧ i ≤ b + 1 ∧ b + 1 - i ≤ g1 + 1 ∧ (i ≤ b ∨ b = a) ∧ Hid (PermIn a (min i b) d dk ∧ SrtIn (kyL l) a (min i b) dk) ∧ Hid (SW w0 blk off dk wr))
  case atStart => exact ⟨a + 1, d, by go_num, by omega, by omega, by omega, by omega, ⟨permIn_refl _ _ _, SrtIn.small (by omega) _⟩, S0⟩
  case round =>
    clear S0
    obtain ⟨i, dk, rfl, hai, hib, hg1, hend, HP, S1⟩ := hrel
    by_cases hlt : i < b
    · have hltz : (i : Int) < (b : Int) := by omega
      have HI0 : Hid (InsR (kyL l) a i i d dk) := by
        have h := HP.out
        rw [Nat.min_eq_left (by omega)] at h
        exact InsR.start (by omega) (by have := ES.out; omega) h.1 h.2 (fun p hp hpi => HX.out p i hp hpi hlt)
      clear HP
      go_wp2
      go_loopg [9] i (fun g2 vj wr2 => ∃ (j : Nat) (dj : Array Int), vj = .int .i64 j ∧ a ≤ j ∧ j ≤ i ∧ j ≤ g2 ∧ Hid (InsR (kyL l) a i j d dj) ∧ Hid (SW w0 blk off dj wr2))
      case atStart => exact ⟨i, dk, rfl, by omega, Nat.le_refl _, Nat.le_refl _, HI0, S1⟩
      case round =>
        clear S1 HI0
        obtain ⟨j, dj, rfl, haj, hji, hg2, HI, SJ⟩ := hrel
        have hsj : dj.size = sz := HI.out.1.1.trans ES.out
        have R1 : Had w0 blk off dj.size := by rw [hsj]; exact RR.out
        have V1 : Hid (Vals sz dj) := VV.out.perm (b := i + 1) (by have := ES.out; omega) HI.out.1
        have R2 := R1
        have out : (j ≤ a ∨ ltI (kyL l) dj[j]! dj[j - 1]! = false) → Hid (PermIn a (min (i + 1) b) d dj ∧ SrtIn (kyL l) a (min (i + 1) b) dj) := fun h => by
          rw [Nat.min_eq_left (by omega)]; exact HI.out.stop h
        have OUT := Lib.hid out
        clear out
        by_cases hja : a < j
        · have hjaz : (a : Int) < (j : Int) := by omega
          obtain ⟨jp, hjp⟩ : ∃ q, q + 1 = j := ⟨j - 1, by omega⟩
          have zjp : (j : Int) = (jp : Int) + 1 := by omega
          have hjad : decide ((jp : Int) + 1 > (a : Int)) = true := decide_eq_true (by omega)
          have hjaz' : (a : Int) < (jp : Int) + 1 := by omega
          cases hl1 : ltI (kyL l) dj[j]! dj[j - 1]! with
          | true =>
            have HI2 : Hid (InsR (kyL l) a i (j - 1) d (swp dj j (j - 1))) := HI.out.step (by have := ES.out; omega) hja hl1
            obtain ⟨iN1, hiN1⟩ : ∃ x, x = j := ⟨_, rfl⟩
            obtain ⟨jN1, hjN1⟩ : ∃ x, x = j - 1 := ⟨_, rfl⟩
            have ea1 : ((jp : Int) + 1).toNat = iN1 := by omega
            have pa1 : (0 : Int) ≤ (jp : Int) + 1 := by omega
            have ba1 : (jp : Int) + 1 < (sz : Int) := by omega
            have ra1 : IntKind.i64.wrap ((jp : Int) + 1) = (jp : Int) + 1 := by rw [IntKind.wrap_i64]; omega
            have ec1 : ((jp : Int)).toNat = jN1 := by omega
            have pc1 : (0 : Int) ≤ (jp : Int) := by omega
            have bc1 : (jp : Int) < (sz : Int) := by omega
            have rc1 : IntKind.i64.wrap ((jp : Int)) = (jp : Int) := by rw [IntKind.wrap_i64]; omega
            obtain ⟨x1, hx1⟩ : ∃ x, x = dj[j]! := ⟨_, rfl⟩
            obtain ⟨y1, hy1⟩ : ∃ x, x = dj[j - 1]! := ⟨_, rfl⟩
            have l1a := SJ.out.c1 R1 (j) (by omega)
            have l1b := SJ.out.c1 R1 (j - 1) (by omega)
            rw [← hx1, ← hiN1] at l1a
            rw [← hy1, ← hjN1] at l1b
            have hc1 := CMP.out dj wr (by omega) V1.out SJ.out x1 y1 (by rw [hx1]; exact (V1.out (j) (by omega))) (by rw [hy1]; exact (V1.out (j - 1) (by omega)))
            have hd1 : decide (cfL l x1 y1 < 0) = true := by rw [cfL_lt, hx1, hy1]; exact hl1
            have hv1 : cfL l x1 y1 < 0 := of_decide_eq_true hd1
            clear hx1 hy1 hiN1 hjN1
            go_wp2_with fail
            go_quiet (first | (go_at_call 31; refine Calls.quiet_of (hc1 _)))
            have Sw2 : Hid (SW w0 blk off dj (wr.drewN nq)) := SJ.out.drewN nq
            clear l1a l1b hc1 SJ R1 V1 hl1
            generalize wr.drewN nq = w2 at Sw2 ⊢
            clear nq
            clear ea1 pa1 ba1 ra1 ec1 pc1 bc1 rc1
            obtain ⟨iN2, hiN2⟩ : ∃ x, x = j := ⟨_, rfl⟩
            obtain ⟨jN2, hjN2⟩ : ∃ x, x = j - 1 := ⟨_, rfl⟩
            have ea2 : ((jp : Int) + 1).toNat = iN2 := by omega
            have pa2 : (0 : Int) ≤ (jp : Int) + 1 := by omega
            have ba2 : (jp : Int) + 1 < (sz : Int) := by omega
            have ra2 : IntKind.i64.wrap ((jp : Int) + 1) = (jp : Int) + 1 := by rw [IntKind.wrap_i64]; omega
            have ec2 : ((jp : Int)).toNat = jN2 := by omega
            have pc2 : (0 : Int) ≤ (jp : Int) := by omega
            have bc2 : (jp : Int) < (sz : Int) := by omega
            have rc2 : IntKind.i64.wrap ((jp : Int)) = (jp : Int) := by rw [IntKind.wrap_i64]; omega
            obtain ⟨x2, hx2⟩ : ∃ x, x = dj[j]! := ⟨_, rfl⟩
            obtain ⟨y2, hy2⟩ : ∃ x, x = dj[j - 1]! := ⟨_, rfl⟩
            have Sw3 : Hid (SW w0 blk off (swp dj (j) (j - 1)) ((w2.setCell ⟨blk, off + iN2, none⟩ (.int .i64 y2)).setCell ⟨blk, off + jN2, none⟩ (.int .i64 x2)).drew) := by rw [hiN2, hjN2, hx2, hy2]; exact Sw2.out.swapped (j) (j - 1) (by omega) (by omega)
            have c2a := Sw2.out.c1 R2 (j) (by omega)
            have c2b := Sw2.out.c1 R2 (j - 1) (by omega)
            have f2a := Sw2.out.f1 R2 (j) (by omega)
            have f2b := Sw2.out.f1 R2 (j - 1) (by omega)
            obtain ⟨u2, c2c⟩ := Sw2.out.c2 R2 (j) (j - 1) (by omega) (by omega) (.int .i64 y2)
            rw [← hjN2, ← hiN2] at c2c
            rw [← hx2, ← hiN2] at c2a
            rw [← hy2, ← hjN2] at c2b
            rw [← hiN2] at f2a
            rw [← hjN2] at f2b
            clear Sw2 hx2 hy2 hiN2 hjN2
            go_wp2_with fail
            go_region
            clear c2a c2b c2c f2a f2b
            generalize ((w2.setCell ⟨blk, off + iN2, none⟩ (.int .i64 y2)).setCell ⟨blk, off + jN2, none⟩ (.int .i64 x2)).drew = w3 at Sw3 ⊢
            clear ea2 pa2 ba2 ra2 ec2 pc2 bc2 rc2
            go_wp2
            go_roundg (j - 1)
            case measure => omega
            case rel => exact ⟨j - 1, swp dj j (j - 1), by first | rfl | go_num | (congr 1; omega), by omega, by omega, Nat.le_refl _, HI2, Sw3⟩
          | false =>
            obtain ⟨iN1, hiN1⟩ : ∃ x, x = j := ⟨_, rfl⟩
            obtain ⟨jN1, hjN1⟩ : ∃ x, x = j - 1 := ⟨_, rfl⟩
            have ea1 : ((jp : Int) + 1).toNat = iN1 := by omega
            have pa1 : (0 : Int) ≤ (jp : Int) + 1 := by omega
            have ba1 : (jp : Int) + 1 < (sz : Int) := by omega
            have ra1 : IntKind.i64.wrap ((jp : Int) + 1) = (jp : Int) + 1 := by rw [IntKind.wrap_i64]; omega
            have ec1 : ((jp : Int)).toNat = jN1 := by omega
            have pc1 : (0 : Int) ≤ (jp : Int) := by omega
            have bc1 : (jp : Int) < (sz : Int) := by omega
            have rc1 : IntKind.i64.wrap ((jp : Int)) = (jp : Int) := by rw [IntKind.wrap_i64]; omega
            obtain ⟨x1, hx1⟩ : ∃ x, x = dj[j]! := ⟨_, rfl⟩
            obtain ⟨y1, hy1⟩ : ∃ x, x = dj[j - 1]! := ⟨_, rfl⟩
            have l1a := SJ.out.c1 R1 (j) (by omega)
            have l1b := SJ.out.c1 R1 (j - 1) (by omega)
            rw [← hx1, ← hiN1] at l1a
            rw [← hy1, ← hjN1] at l1b
            have hc1 := CMP.out dj wr (by omega) V1.out SJ.out x1 y1 (by rw [hx1]; exact (V1.out (j) (by omega))) (by rw [hy1]; exact (V1.out (j - 1) (by omega)))
            have hd1 : decide (cfL l x1 y1 < 0) = false := by rw [cfL_lt, hx1, hy1]; exact hl1
            have hv1 : ¬ cfL l x1 y1 < 0 := of_decide_eq_false hd1
            clear hx1 hy1 hiN1 hjN1
            go_wp2_with fail
            go_quiet (first | (go_at_call 31; refine Calls.quiet_of (hc1 _)))
            have Sw2 : Hid (SW w0 blk off dj (wr.drewN nq)) := SJ.out.drewN nq
            clear l1a l1b hc1 SJ R1 V1
            generalize wr.drewN nq = w2 at Sw2 ⊢
            clear nq
            clear ea1 pa1 ba1 ra1 ec1 pc1 bc1 rc1
            have HP2 := OUT.out (Or.inr hl1)
            clear hl1
            go_wp2
            go_roundg (b - (i + 1))
            case measure => omega
            case rel => exact ⟨i + 1, dj, by go_num, by omega, by omega, by omega, by omega, HP2, Sw2⟩
        · have hjaz : decide ((j : Int) > (a : Int)) = false := decide_eq_false (by omega)
          have hjaz' : ¬ (a : Int) < (j : Int) := by omega
          have HP2 := OUT.out (Or.inl (by omega))
          clear R1 R2 V1 hsj
          go_wp2_with fail
          go_quiet (fail)
          have Sw2 : Hid (SW w0 blk off dj (wr.drewN nq)) := SJ.out.drewN nq
          clear SJ
          generalize wr.drewN nq = w2 at Sw2 ⊢
          go_wp2
          go_roundg (b - (i + 1))
          case measure => omega
          case rel => exact ⟨i + 1, dj, by go_num, by omega, by omega, by omega, by omega, HP2, Sw2⟩
    · have hltz : ¬ (i : Int) < (b : Int) := by omega
      go_wp2
      go_end0
      have h := HP.out
      rw [Nat.min_eq_right (by omega)] at h
      exact ⟨rfl, dk, h.1, h.2, S1.out⟩
end Go.Proofs.Ytbpcggoplacplaa
