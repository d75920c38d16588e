/- The buffer: Fits, Find, Overlaps, Empty, Elder, Barrier. -/
import Derived.Test.YtcddgcchpmjdiaaVd
set_option maxRecDepth 100000
set_option linter.unusedVariables false
namespace Go.Proofs.Ytcddgcchpmjdiaa
open Go.RowKit

def findB (s : Bst) (q : Int) : Int × Int × Bool := match seekN (hasAt q) s.es with
  | none => (0, 0, false)
  | some y => (byteAt y.2.data (q - y.2.addr).toNat, y.2.id, true)
def ovB (s : Bst) (a z : Int) : Bool := (seekN (ovAt a z) s.es).isSome
theorem fits_c {s : Bst} {p : Bpl} {w : World} (h : BufAt s p w) (hok : BsOk s) (x : Wr) (hb : x.addr ≤ 9223372036854775807) :
    Calls Try.prog 9 #[.pointer (some ⟨p.g, 0, none⟩), .agg #[.int .i64 x.id, .int .i64 x.addr, .int .i64 x.size, .int .u64 x.data]] w fun e w' => e = .returned (.bool (placeN s x).2) ∧ BW w w' := by
  have h1 : BW w (w.alloc (.cells (wrCells x) 34)) := BW.new (Below.refl _ _) _
  have HP := Lib.hid (fun X (hX : BW w X) => place_c (h.on hX) hok x hb)
  clear hb
  generalize placeN s x = r at *
  obtain ⟨i, a, z, d⟩ := x
  dsimp only at *
  go_enter Try.func9, Try.ntmps9
  go_wp2_with (go_at_call 30; refine (HP.out _ h1).mono ?_; rintro e w2 ⟨rfl, hb2⟩)
  go_ret
  exact ⟨rfl, h1.on hb2⟩
theorem fits_nil (x : Wr) (w : World) :
    Calls Try.prog 9 #[.pointer none, .agg #[.int .i64 x.id, .int .i64 x.addr, .int .i64 x.size, .int .u64 x.data]] w fun e w' => e = .returned (.bool false) ∧ BW w w' := by
  have h1 : BW w (w.alloc (.cells (wrCells x) 34)) := BW.new (Below.refl _ _) _
  have HP := Lib.hid (fun X => place_nil x X)
  obtain ⟨i, a, z, d⟩ := x
  dsimp only at *
  go_enter Try.func9, Try.ntmps9
  go_wp2_with (go_at_call 30; refine (HP.out _).mono ?_; rintro e w2 ⟨rfl, hb2⟩)
  go_ret
  exact ⟨rfl, h1.on hb2⟩
theorem over_c {s : Bst} {p : Bpl} {w : World} (h : BufAt s p w) (hok : BsOk s) (a z : Int) :
    Calls Try.prog 19 #[.pointer (some ⟨p.g, 0, none⟩), .int .i64 a, .int .i64 z] w fun e w' => e = .returned (.bool (ovB s a z)) ∧ BW w w' := by
  have h1 : BW w ((w.alloc (.cells #[.int .i64 a] 3)).alloc (.cells #[.int .i64 z] 3)) := BW.new (BW.new (Below.refl _ _) _) _
  have k1 : ((w.alloc (.cells #[.int .i64 a] 3)).alloc (.cells #[.int .i64 z] 3)).cell? ⟨w.heap.size, 0, none⟩ = some (.int .i64 a) := ((Blk.new #[.int .i64 a] 3 w).alloc (.cells #[.int .i64 z] 3)).cell 0
  have k2 : ((w.alloc (.cells #[.int .i64 a] 3)).alloc (.cells #[.int .i64 z] 3)).cell? ⟨w.heap.size + 1, 0, none⟩ = some (.int .i64 z) := by
    have := (Blk.new #[.int .i64 z] 3 (w.alloc (.cells #[.int .i64 a] 3))).cell 0
    rw [World.size_alloc] at this
    exact this
  have HP := Lib.hid (seekO_c (h.on h1) hok k1 k2)
  clear k1 k2
  unfold ovB
  cases hq : seekN (ovAt a z) s.es with
  | none =>
    rw [hq] at HP
    clear hq
    go_enter Try.func19, Try.ntmps19
    go_wp2_with (go_at_call 39; refine HP.out.mono ?_; unfold seekV w4 wr0; rintro e w3 ⟨rfl, hb3⟩)
    go_ret
    exact ⟨rfl, BW.new (h1.on hb3) _⟩
  | some q =>
    obtain ⟨k, y⟩ := q
    rw [hq] at HP
    clear hq
    obtain ⟨yi, ya, yz, yd⟩ := y
    go_enter Try.func19, Try.ntmps19
    go_wp2_with (go_at_call 39; refine HP.out.mono ?_; unfold seekV w4; rintro e w3 ⟨rfl, hb3⟩)
    go_ret
    exact ⟨rfl, BW.new (h1.on hb3) _⟩
theorem over_nil (a z : Int) (w : World) :
    Calls Try.prog 19 #[.pointer none, .int .i64 a, .int .i64 z] w fun e w' => e = .returned (.bool false) ∧ BW w w' := by
  have h1 : BW w ((w.alloc (.cells #[.int .i64 a] 3)).alloc (.cells #[.int .i64 z] 3)) := BW.new (BW.new (Below.refl _ _) _) _
  have HP := Lib.hid (fun d0 d1 X => seekO_nil d0 d1 X)
  go_enter Try.func19, Try.ntmps19
  go_wp2_with (go_at_call 39; refine (HP.out _ _ _).mono ?_; unfold seekV w4 wr0; rintro e w3 ⟨rfl, hb3⟩)
  go_ret
  exact ⟨rfl, BW.new (h1.on hb3) _⟩
theorem empty_c {s : Bst} {p : Bpl} {w : World} (h : BufAt s p w) (hok : BsOk s) : Calls Try.prog 24 #[.pointer (some ⟨p.g, 0, none⟩)] w fun e w' => e = .returned (.bool (decide (s.es.length = 0))) ∧ w = w' := by
  obtain ⟨A, cap, hve, _⟩ := h.reads
  have c0 := h.head.cell 0
  rw [hve] at c0
  have HA := Lib.hid (all_g (g := p.g) (A := A) (n := s.es.length) (cap := cap) (w := w) c0)
  have hl := hok.len
  have HR := Lib.hid (show ((s.es.length : Int) == 0) = decide (s.es.length = 0) from by rw [Bool.eq_iff_iff]; simp)
  clear c0
  generalize s.es.length = n at *
  go_enter Try.func24, Try.ntmps24
  go_wp2_with (go_at_call 35; refine HA.out.mono ?_; rintro e w3 ⟨rfl, rfl⟩)
  go_ret
  exact ⟨by rw [← HR.out]; simp, rfl⟩
theorem empty_nil (w : World) : Calls Try.prog 24 #[.pointer none] w fun e w' => e = .returned (.bool true) ∧ w = w' := by
  have HA := Lib.hid (all_nil w)
  go_enter Try.func24, Try.ntmps24
  go_wp2_with (go_at_call 35; refine HA.out.mono ?_; rintro e w3 ⟨rfl, rfl⟩)
  go_ret
  exact ⟨rfl, rfl⟩
end Go.Proofs.Ytcddgcchpmjdiaa
