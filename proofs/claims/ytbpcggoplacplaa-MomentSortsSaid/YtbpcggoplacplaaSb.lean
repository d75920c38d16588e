/- The contracts of the stable sort's merge and of the stable sort itself. -/
import Derived.Test.YtbpcggoplacplaaRows
import Derived.Test.YtbpcggoplacplaaSm
import Derived.Test.YtbpcggoplacplaaSw
import Derived.Test.YtbpcggoplacplaaRo
import Derived.Test.YtbpcggoplacplaaCm
import Derived.Test.YtbpcggoplacplaaIn
import Derived.Test.YtbpcggoplacplaaS1
import Derived.Test.YtbpcggoplacplaaS2
import Derived.Test.YtbpcggoplacplaaS3
import Derived.Test.YtbpcggoplacplaaLv
import Derived.WalkKit
import Derived.Deep.Draws
import Derived.Deep.LoopGhost
import Derived.Deep.QuietTactic
import Derived.BigQuiet
import Derived.BigRegion
import Derived.RegionTactic
import Derived.Lib.Hide
import Derived.Outline
namespace Go.Proofs.Ytbpcggoplacplaa
open Go.RowKit Go.Sort

theorem symMerge_all (w0 : World) (blk off cap B sz : Nat) (l : List Nat) (R : Had w0 blk off sz) (C : CmpOk w0 blk off B l sz) (hsz : sz < 4611686018427387904) :
    ∀ (N a m b : Nat) (za zm zb : Int) (d : Array Int) (w : World), b - a ≤ N → SW w0 blk off d w → Vals sz d → d.size = sz → za = a → zm = m → zb = b → a < m → m < b → b ≤ sz →
      SrtIn (kyL l) a m d → SrtIn (kyL l) m b d → Apart a m b d →
      Calls Try.prog 40 #[.slice (some ⟨blk, off, none⟩) sz cap, .int .i64 za, .int .i64 zm, .int .i64 zb, .func (.func 31) #[] #[.pointer (some ⟨B, 0, none⟩)]] w fun e w' =>
        e = .returned (.tuple #[]) ∧ ∃ d', PermIn a b d d' ∧ SrtIn (kyL l) a b d' ∧ SW w0 blk off d' w' := by
  intro N
  induction N with
  | zero => intro a m b za zm zb d w h0; omega
  | succ N ih =>
    intro a m b za zm zb d w h0 S V es ea em eb ham hmb hb s1 s2 hx
    by_cases c1 : m = a + 1
    · exact symMerge_first w0 blk off cap a m b B sz za zm zb l d w S R V C es ea em eb ham hmb hb hsz s1 s2 hx c1
    · by_cases c2 : b = m + 1
      · exact symMerge_last w0 blk off cap a m b B sz za zm zb l d w S R V C es ea em eb ham hmb hb hsz s1 s2 hx c1 c2
      · exact symMerge_mid w0 blk off cap a m b B sz za zm zb l d w S R V C es ea em eb ham hmb hb hsz s1 s2 hx c1 c2
          (fun a' m' b' za' zm' zb' d' w' h => ih a' m' b' za' zm' zb' d' w' (by omega))
theorem symMerge_any (w0 : World) (blk off cap a m b B sz : Nat) (za zm zb : Int) (l : List Nat) (d : Array Int) (w : World) (S : SW w0 blk off d w) (R : Had w0 blk off sz) (V : Vals sz d) (C : CmpOk w0 blk off B l sz) (es : d.size = sz) (ea : za = a) (em : zm = m) (eb : zb = b)
    (ham : a < m) (hmb : m < b) (hb : b ≤ sz) (hsz : sz < 4611686018427387904) (s1 : SrtIn (kyL l) a m d) (s2 : SrtIn (kyL l) m b d) (hx : Apart a m b d) :
    Calls Try.prog 40 #[.slice (some ⟨blk, off, none⟩) sz cap, .int .i64 za, .int .i64 zm, .int .i64 zb, .func (.func 31) #[] #[.pointer (some ⟨B, 0, none⟩)]] w fun e w' =>
      e = .returned (.tuple #[]) ∧ ∃ d', PermIn a b d d' ∧ SrtIn (kyL l) a b d' ∧ SW w0 blk off d' w' :=
  symMerge_all w0 blk off cap B sz l R C hsz (b - a) a m b za zm zb d w (Nat.le_refl _) S V es ea em eb ham hmb hb s1 s2 hx

set_option maxHeartbeats 8000000 in
set_option maxRecDepth 100000 in
theorem stable_any (w0 : World) (blk off cap B sz : Nat) (l : List Nat) (d : Array Int) (w : World) (S : SW w0 blk off d w) (R : Had w0 blk off sz) (V : Vals sz d) (C : CmpOk w0 blk off B l sz) (es : d.size = sz)
    (hsz : sz ≤ 1000000) (hx : ∀ p q, p < q → q < sz → d[p]! < d[q]!) :
    Calls Try.prog 36 #[.slice (some ⟨blk, off, none⟩) sz cap, .int .i64 sz, .func (.func 31) #[] #[.pointer (some ⟨B, 0, none⟩)]] w fun e w' =>
      e = .returned (.tuple #[]) ∧ ∃ d', PermIn 0 sz d d' ∧ SrtIn (kyL l) 0 sz d' ∧ SW w0 blk off d' w' := by
  have S0 := Lib.hid S
  have RR := Lib.hid R
  have VV := Lib.hid V
  have CMP := Lib.hid C
  have ES := Lib.hid es
  have I0 : Hid (Ins20 (kyL l) sz 0 d d) := Ins20.start hx
  have INC0 := Lib.hid hx
  clear S R V C es hx
  go_enter Try.func36, Try.ntmps36
  go_wp2
  go_loopg [7, 8] sz (fun gg va vb wr => ∃ (t : Nat) (dk : Array Int), va = .int .i64 ((t : Int) * 20) ∧ vb = .int .i64 ((t : Int) * 20 + 20) ∧ t * 20 ≤ sz ∧ sz - t * 20 ≤ gg ∧ Hid (Ins20 (kyL l) sz t d dk) ∧ Hid (SW w0 blk off dk wr))
  case atStart => exact ⟨0, d, rfl, rfl, by omega, by omega, I0, S0⟩
  case round =>
    clear S0 I0
    obtain ⟨t, dk, rfl, rfl, hts, hgg, HI, S1⟩ := hrel
    have ESk : Hid (dk.size = sz) := HI.out.perm.1.trans ES.out
    have VK : Hid (Vals sz dk) := VV.out.perm (b := sz) (by have := ES.out; omega) HI.out.perm
    have INC : Hid (∀ p q, t * 20 ≤ p → p < q → q < sz → dk[p]! < dk[q]!) := fun p q hp hpq hq => by
      rw [HI.out.same p hp, HI.out.same q (by omega)]; exact INC0.out p q hpq hq
    by_cases hlt : t * 20 + 20 ≤ sz
    · have hz : (t : Int) * 20 + 20 ≤ (sz : Int) := by omega
      go_wp2_with (first
        | (go_at_call 39; refine (insertion_any w0 blk off cap (t * 20) (t * 20 + 20) B sz _ _ l dk wr S1.out RR.out VK.out CMP.out ESk.out (by omega) (by omega) (by omega) hlt (by omega) (fun p q hp hpq hq => INC.out p q hp hpq (by omega))).mono ?_; rintro ee w2 ⟨rfl, d2, hp2, hs2, hw2⟩))
      have HI2 : Hid (Ins20 (kyL l) sz (t + 1) d d2) := HI.out.next ES.out.symm hlt hp2 hs2
      have HW2 := Lib.hid hw2
      clear hp2 hs2 hw2
      go_wp2
      go_roundg (sz - (t + 1) * 20)
      case measure => omega
      case rel => exact ⟨t + 1, d2, by congr 1 <;> omega, by congr 1 <;> omega, by omega, by omega, HI2, HW2⟩
    · have hz : ¬ (t : Int) * 20 + 20 ≤ (sz : Int) := by omega
      go_wp2_with (first
        | (go_at_call 39; refine (insertion_any w0 blk off cap (t * 20) sz B sz _ _ l dk wr S1.out RR.out VK.out CMP.out ESk.out (by omega) rfl hts (Nat.le_refl _) (by omega) INC.out).mono ?_; rintro ee w2 ⟨rfl, d2, hp2, hs2, hw2⟩))
      have LV : Hid (Level (kyL l) sz 20 d d2) := HI.out.stop ES.out.symm (by omega) hts hp2 hs2
      have HW2 := Lib.hid hw2
      clear hp2 hs2 hw2 HI S1 ESk VK INC
      go_wp2_with fail
      go_loopg [6, 7, 8, 9] sz (fun gg vs va vb vm wr2 => ∃ (s : Nat) (dk : Array Int), vs = .int .i64 s ∧ 0 < s ∧ s ≤ 2000000 ∧ sz - s ≤ gg ∧ Hid (Level (kyL l) sz s d dk) ∧ Hid (SW w0 blk off dk wr2))
      case atStart => exact ⟨20, d2, rfl, by omega, by omega, by omega, LV, HW2⟩
      case round =>
        clear LV HW2
        obtain ⟨s, dq, rfl, hs0, hsm, hgs, LV, S2⟩ := hrel
        by_cases hsz2 : s < sz
        · have hzz : (s : Int) < (sz : Int) := by omega
          go_wp2_with fail
          go_loopg [7, 8] sz (fun gg va vb wr3 => ∃ (u : Nat) (dk : Array Int) (x : Nat), va = .int .i64 x ∧ vb = .int .i64 ((x : Int) + 2 * (s : Int)) ∧ x ≤ sz ∧ sz - x ≤ gg ∧ Hid (u * (2 * s) = x) ∧ Hid (Pass (kyL l) sz s u d dk) ∧ Hid (SW w0 blk off dk wr3))
          case atStart => exact ⟨0, dq, 0, rfl, by congr 1 <;> omega, by omega, by omega, (show Hid _ from Nat.zero_mul _), (show Hid _ from Pass.start LV.out), S2⟩
          case round =>
            clear S2 LV
            obtain ⟨u, dp, x, rfl, rfl, hxs, hgx, HX, HP, S3⟩ := hrel
            have ESk : Hid (dp.size = sz) := HP.out.perm.1.trans ES.out
            have VK : Hid (Vals sz dp) := VV.out.perm (b := sz) (by have := ES.out; omega) HP.out.perm
            by_cases hb : x + 2 * s ≤ sz
            · have hbz : (x : Int) + 2 * (s : Int) ≤ (sz : Int) := by omega
              have M1 := Lib.hid (HP.out.left (by rw [HX.out]; omega))
              have M2 := Lib.hid (HP.out.right (by rw [HX.out]; omega))
              have M3 := Lib.hid (HP.out.mid (b := x + 2 * s) hb)
              rw [HX.out] at M1 M2 M3
              go_wp2_with (first
                | (go_at_call 40; refine (symMerge_any w0 blk off cap x (x + s) (x + 2 * s) B sz _ _ _ l dp wr S3.out RR.out VK.out CMP.out ESk.out (by omega) (by omega) (by omega) (by omega) (by omega) hb (by omega) M1.out M2.out M3.out).mono ?_; rintro ee w2 ⟨rfl, d2, hp2, hs2, hw2⟩))
              have HP2 : Hid (Pass (kyL l) sz s (u + 1) d d2) := HP.out.next ES.out.symm (by rw [HX.out]; exact hb) (by rw [HX.out]; exact hp2) (by rw [HX.out]; exact hs2)
              have HX2 : Hid ((u + 1) * (2 * s) = x + 2 * s) := by show _ = _; rw [Nat.succ_mul, HX.out]
              have HW2 := Lib.hid hw2
              clear hp2 hs2 hw2 M1 M2 M3
              go_wp2
              go_roundg (sz - (x + 2 * s))
              case measure => omega
              case rel => exact ⟨u + 1, d2, x + 2 * s, by congr 1 <;> omega, by congr 1 <;> omega, by omega, by omega, HX2, HP2, HW2⟩
            · have hbz : ¬ (x : Int) + 2 * (s : Int) ≤ (sz : Int) := by omega
              by_cases hm : x + s < sz
              · have hmz : (x : Int) + (s : Int) < (sz : Int) := by omega
                have M1 := Lib.hid (HP.out.left (by rw [HX.out]; omega))
                have M2 := Lib.hid (HP.out.right' (by rw [HX.out]; omega))
                have M3 := Lib.hid (HP.out.mid (b := sz) (Nat.le_refl _))
                rw [HX.out] at M1 M2 M3
                go_wp2_with (first
                  | (go_at_call 40; refine (symMerge_any w0 blk off cap x (x + s) sz B sz _ _ _ l dp wr S3.out RR.out VK.out CMP.out ESk.out rfl (by omega) rfl (by omega) (by omega) (Nat.le_refl _) (by omega) M1.out M2.out M3.out).mono ?_; rintro ee w2 ⟨rfl, d2, hp2, hs2, hw2⟩))
                have LV2 : Hid (Level (kyL l) sz (2 * s) d d2) := HP.out.stop ES.out.symm (by rw [HX.out]; omega) (by rw [HX.out]; exact hxs) (by rw [HX.out]; exact hp2) (by rw [HX.out]; exact hs2)
                have HW2 := Lib.hid hw2
                clear hp2 hs2 hw2 M1 M2 M3
                go_wp2
                go_roundg (sz - 2 * s)
                case measure => omega
                case rel => exact ⟨2 * s, d2, by congr 1 <;> omega, by omega, by omega, by omega, LV2, HW2⟩
              · have hmz : ¬ (x : Int) + (s : Int) < (sz : Int) := by omega
                have LV2 : Hid (Level (kyL l) sz (2 * s) d dp) := HP.out.stop ES.out.symm (by rw [HX.out]; omega) (by rw [HX.out]; exact hxs) (permIn_refl _ _ _) (HP.out.left' (by rw [HX.out]; omega))
                go_wp2
                go_roundg (sz - 2 * s)
                case measure => omega
                case rel => exact ⟨2 * s, dp, by congr 1 <;> omega, by omega, by omega, by omega, LV2, S3⟩
        · have hzz : ¬ (s : Int) < (sz : Int) := by omega
          go_wp2_with fail
          first | go_end0 | refine bodyPost_ret (results_none rfl _ _ _) rfl ?_
          exact ⟨rfl, dq, LV.out.perm, LV.out.end (by omega), S2.out⟩
end Go.Proofs.Ytbpcggoplacplaa
