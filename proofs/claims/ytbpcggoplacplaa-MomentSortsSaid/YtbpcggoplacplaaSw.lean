/- The worlds that the stable sort passes through; the contract of its exchange of two ranges. -/
import Derived.Test.YtbpcggoplacplaaRows
import Derived.Test.YtbpcggoplacplaaSm
import Derived.Sort.Row
import Derived.WalkKit
import Derived.Deep.Draws
import Derived.Deep.LoopGhost
import Derived.Deep.QuietTactic
import Derived.BigQuiet
import Derived.BigRegion
import Derived.RegionTactic
import Derived.Lib.Hide
import Derived.Outline
import Derived.Below
namespace Go.Proofs.Ytbpcggoplacplaa
open Go.RowKit Go.Sort

/-- The row at blk holds d; all else is as in w0, but for draws. -/
def SW (w0 : World) (blk off : Nat) (d : Array Int) (W : World) : Prop := ∃ n, W = (putRow (Value.int .i64) w0 blk off d).drewN n
/-- What was there at first, of this size. -/
def Had (w0 : World) (blk off : Nat) (sz : Nat) : Prop := ∃ d0 : Array Int, d0.size = sz ∧ Holds (Value.int .i64) w0 blk off d0
section
variable {w0 W : World} {blk off : Nat} {d : Array Int}
theorem SW.start (h : Holds (Value.int .i64) w0 blk off d) : SW w0 blk off d w0 := ⟨0, (putRow_self _ _ _ _ _ h).symm⟩
theorem SW.drewN (h : SW w0 blk off d W) (q : Nat) : SW w0 blk off d (W.drewN q) := by
  obtain ⟨n, rfl⟩ := h
  exact ⟨n + q, by rw [World.drewN_drewN]⟩
theorem SW.drew (h : SW w0 blk off d W) : SW w0 blk off d W.drew := h.drewN 1
theorem SW.c1 (h : SW w0 blk off d W) (R : Had w0 blk off d.size) (i : Nat) (hi : i < d.size) : W.cell? ⟨blk, off + i, none⟩ = some (.int .i64 d[i]!) := by
  obtain ⟨n, rfl⟩ := h
  obtain ⟨d0, hs, h0⟩ := R
  exact cell?_putRow _ w0 blk off d0 d h0 (by omega) i hi
theorem SW.f1 (h : SW w0 blk off d W) (R : Had w0 blk off d.size) (i : Nat) (hi : i < d.size) : W.frozen? ⟨blk, off + i, none⟩ = false := by
  obtain ⟨n, rfl⟩ := h
  obtain ⟨d0, hs, h0⟩ := R
  exact (holds_putRow _ w0 blk off d0 d h0 (by omega) i hi).2
theorem SW.c2 (h : SW w0 blk off d W) (R : Had w0 blk off d.size) (i j : Nat) (hi : i < d.size) (hj : j < d.size) (v : Value) :
    ∃ u, (W.setCell ⟨blk, off + i, none⟩ v).cell? ⟨blk, off + j, none⟩ = some u := by
  by_cases e : i = j
  · subst e; exact ⟨v, World.cell?_setCell_same _ _ _ (h.c1 R i hi)⟩
  · exact ⟨_, (World.cell?_setCell_other _ _ _ _ (by intro e'; simp only [Addr.mk.injEq] at e'; omega)).trans (h.c1 R j hj)⟩
theorem SW.swapped (h : SW w0 blk off d W) (i j : Nat) (hi : i < d.size) (hj : j < d.size) :
    SW w0 blk off (swp d i j) ((W.setCell ⟨blk, off + i, none⟩ (.int .i64 d[j]!)).setCell ⟨blk, off + j, none⟩ (.int .i64 d[i]!)).drew := by
  obtain ⟨n, rfl⟩ := h
  refine ⟨n + 1, ?_⟩
  rw [← putRow_swp _ w0 blk off d i j hi hj]
  rfl
theorem SW.other (h : SW w0 blk off d W) (a : Addr) (ha : a.block ≠ blk) : W.cell? a = w0.cell? a := by
  obtain ⟨n, rfl⟩ := h
  exact cell?_putRow_other _ _ _ _ _ _ (.inl ha)
end

set_option maxHeartbeats 1000000 in
set_option maxRecDepth 100000 in
theorem swapRange_any (w0 : World) (blk off cap p q n g : Nat) (cb : Array Value) (d : Array Int) (w : World) (S : SW w0 blk off d w) (R : Had w0 blk off d.size) (hpq : p + n ≤ q) (hq : q + n ≤ d.size) (hsz : d.size < 4611686018427387904) :
    Calls Try.prog 47 #[.slice (some ⟨blk, off, none⟩) d.size cap, .int .i64 p, .int .i64 q, .int .i64 n, .func (.func g) #[] cb] w fun e w' =>
      e = .returned (.tuple #[]) ∧ ∃ d', SwpR p q n d d' ∧ SW w0 blk off d' w' := by
  have S0 := Lib.hid S
  have RR := Lib.hid R
  clear S R
  go_enter Try.func47, Try.ntmps47
  go_wp2
  go_loopg [10] n (fun gg vi wr => ∃ (i : Nat) (dk : Array Int), vi = .int .i64 i ∧ i + gg = n ∧ Hid (SwpR p q i d dk) ∧ Hid (SW w0 blk off dk wr))
  case atStart => exact ⟨0, d, rfl, by omega, SwpR.zero p q d, S0.out⟩
  case round =>
    clear S0
    obtain ⟨i, dk, rfl, hi, HR, S1⟩ := hrel
    have hsk : dk.size = d.size := HR.out.size
    by_cases hlt : i < n
    · have R' : Had w0 blk off dk.size := by rw [hsk]; exact RR.out
      have HR2 := Lib.hid (HR.out.step (by omega) (by omega))
      obtain ⟨iN, hiN⟩ : ∃ x, x = p + i := ⟨_, rfl⟩
      obtain ⟨jN, hjN⟩ : ∃ x, x = q + i := ⟨_, rfl⟩
      have ea : ((p : Int) + (i : Int)).toNat = iN := by omega
      have pa : (0 : Int) ≤ (p : Int) + (i : Int) := by omega
      have ba : (p : Int) + (i : Int) < (d.size : Int) := by omega
      have ra : IntKind.i64.wrap ((p : Int) + (i : Int)) = (p : Int) + (i : Int) := by rw [IntKind.wrap_i64]; omega
      have ec : ((q : Int) + (i : Int)).toNat = jN := by omega
      have pc : (0 : Int) ≤ (q : Int) + (i : Int) := by omega
      have bc : (q : Int) + (i : Int) < (d.size : Int) := by omega
      have rc : IntKind.i64.wrap ((q : Int) + (i : Int)) = (q : Int) + (i : Int) := by rw [IntKind.wrap_i64]; omega
      obtain ⟨x, hx⟩ : ∃ x, x = dk[p + i]! := ⟨_, rfl⟩
      obtain ⟨y, hy⟩ : ∃ x, x = dk[q + i]! := ⟨_, rfl⟩
      have S3 : Hid (SW w0 blk off (swp dk (p + i) (q + i)) ((wr.setCell ⟨blk, off + iN, none⟩ (.int .i64 y)).setCell ⟨blk, off + jN, none⟩ (.int .i64 x)).drew) := by
        rw [hiN, hjN, hx, hy]; exact S1.out.swapped (p + i) (q + i) (by omega) (by omega)
      have c1a := S1.out.c1 R' (p + i) (by omega)
      have c1b := S1.out.c1 R' (q + i) (by omega)
      have f1a := S1.out.f1 R' (p + i) (by omega)
      have f1b := S1.out.f1 R' (q + i) (by omega)
      obtain ⟨u, c1c⟩ := S1.out.c2 R' (p + i) (q + i) (by omega) (by omega) (.int .i64 y)
      rw [← hjN, ← hiN] at c1c
      rw [← hx, ← hiN] at c1a
      rw [← hy, ← hjN] at c1b
      rw [← hiN] at f1a
      rw [← hjN] at f1b
      clear S1 hx hy hiN hjN hsk R'
      go_wp2_with fail
      go_region
      clear c1a c1b c1c f1a f1b
      generalize ((wr.setCell ⟨blk, off + iN, none⟩ (.int .i64 y)).setCell ⟨blk, off + jN, none⟩ (.int .i64 x)).drew = w3 at S3 ⊢
      clear ea ec
      go_wp2
      go_roundg (n - (i + 1))
      case measure => omega
      case rel => exact ⟨i + 1, _, by go_num, by omega, HR2, S3⟩
    · go_wp2
      go_end0
      have : i = n := by omega
      subst this
      exact ⟨rfl, dk, HR.out, S1.out⟩
theorem swapRange_z (w0 : World) (blk off cap p q n g sz : Nat) (zp zq zn : Int) (cb : Array Value) (d : Array Int) (w : World) (S : SW w0 blk off d w) (R : Had w0 blk off sz) (es : d.size = sz) (ep : zp = p) (eq : zq = q) (en : zn = n)
    (hpq : p + n ≤ q) (hq : q + n ≤ sz) (hsz : sz < 4611686018427387904) :
    Calls Try.prog 47 #[.slice (some ⟨blk, off, none⟩) sz cap, .int .i64 zp, .int .i64 zq, .int .i64 zn, .func (.func g) #[] cb] w fun e w' =>
      e = .returned (.tuple #[]) ∧ ∃ d', SwpR p q n d d' ∧ SW w0 blk off d' w' := by
  subst es ep eq en
  exact swapRange_any w0 blk off cap p q n g cb d w S R hpq hq hsz

end Go.Proofs.Ytbpcggoplacplaa
