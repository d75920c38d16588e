/- Package guess: Counter, target, went, count. -/
import Derived.Test.YtdcmpmmbmjaaiaaDoorGb
import Derived.Deep.QuietTactic
import Derived.BigQuiet
import Derived.Deep.RegionWith
set_option maxRecDepth 100000
namespace Go.Proofs.YtdcmpmmbmjaaiaaDoor
open Go.RowKit

theorem counter_nil (pc : Int) (w : World) : Calls Tryd.prog 10 #[.pointer none, .int .u64 pc] w fun e w' => e = .returned (.int .i64 0) ∧ w = w' := by
  go_enter Tryd.func10, Tryd.ntmps10
  go_wp2
  go_ret
  exact ⟨rfl, rfl⟩
theorem counter_c {s : Gst} {g : Nat} {w : World} (h : GAt s g w) (pc : Int) (h0 : 0 ≤ pc) (h1 : pc ≤ 18446744073709551615) : Calls Tryd.prog 10 #[.pointer (some ⟨g, 0, none⟩), .int .u64 pc] w fun e w' => e = .returned (.int .i64 (s.c (numG pc))) ∧ ∃ n, w' = w.drewN n := by
  have KN := number_q pc h0 h1
  have hk := numG_lt pc
  have hc := h.cellC hk
  generalize numG pc = k at *
  clear h0 h1 h
  go_enter Tryd.func10, Tryd.ntmps10
  go_wp2_with (fail)
  go_quiet (first | (go_at_call 18; refine Calls.quiet_of_same (KN _)))
  go_wp2
  go_ret
  exact ⟨rfl, _, rfl⟩
theorem GAt.set {s : Gst} {g : Nat} {w : World} (h : GAt s g w) {k : Nat} (hk : k < 16) (v : Int) : GAt ⟨s.t, s.b, updK s.c k v⟩ g (w.setCell ⟨g, 32 + k, none⟩ (.int .i64 v)) := by
  have := Blk.set h (32 + k) (.int .i64 v)
  rw [gCells_setC s v hk] at this
  exact this
set_option maxHeartbeats 2000000 in
theorem count_c {s : Gst} {g : Nat} {w : World} (h : GAt s g w) (ok : GOk s) (pc : Int) (h0 : 0 ≤ pc) (h1 : pc ≤ 18446744073709551615) (up : Bool) : Calls Tryd.prog 17 #[.pointer (some ⟨g, 0, none⟩), .int .u64 pc, .bool up] w fun e w' => e = .returned (.tuple #[]) ∧ GAt (countG s pc up) g w' ∧ Fr [g] w w' := by
  have KN := number_q pc h0 h1
  unfold countG
  have hk := numG_lt pc
  generalize numG pc = k at *
  have hc := h.cellC hk
  have hfr := Blk.free h (32 + k)
  obtain ⟨c0, c1⟩ := ok.c k
  have HE : ∀ (n : Nat) (v : Int), cntK up (s.c k) = v → GAt ⟨s.t, s.b, updK s.c k (cntK up (s.c k))⟩ g ((w.drewN n).setCell ⟨g, 32 + k, none⟩ (.int .i64 v)) ∧ Fr [g] w ((w.drewN n).setCell ⟨g, 32 + k, none⟩ (.int .i64 v)) := fun n v e => by
    have hb := below_drewN' (Below.refl w.heap.size w) n
    exact ⟨by rw [e]; exact (h.on hb).set hk v, ((Fr.refl [g] w).on hb).setCell (.inl (by simp)) _⟩
  have HE := Lib.hid HE
  clear h ok h0 h1
  generalize s.c k = c at *
  go_enter Tryd.func17, Tryd.ntmps17
  go_wp2_with (fail)
  go_quiet (first | (go_at_call 18; refine Calls.quiet_of_same (KN _)))
  cases up with
  | true =>
    by_cases hlt : c < 3
    · have hcv : Hid (cntK true c = c + 1) := by show _ = _; unfold cntK; simp [hlt]
      go_wp2
      go_end0
      exact ⟨rfl, HE.out _ _ hcv.out⟩
    · have hcv : Hid (cntK true c = 3) := by show _ = _; unfold cntK; simp [hlt]; omega
      obtain rfl : c = 3 := by omega
      go_wp2
      go_end0
      exact ⟨rfl, HE.out _ _ hcv.out⟩
  | false =>
    by_cases hlt : 0 < c
    · have hcv : Hid (cntK false c = c - 1) := by show _ = _; unfold cntK; simp [hlt]
      go_wp2
      go_end0
      exact ⟨rfl, HE.out _ _ hcv.out⟩
    · have hcv : Hid (cntK false c = 0) := by show _ = _; unfold cntK; simp [hlt]; omega
      obtain rfl : c = 0 := by omega
      go_wp2
      go_end0
      exact ⟨rfl, HE.out _ _ hcv.out⟩
end Go.Proofs.YtdcmpmmbmjaaiaaDoor
