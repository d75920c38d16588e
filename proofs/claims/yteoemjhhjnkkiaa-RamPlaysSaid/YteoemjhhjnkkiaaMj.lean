/- Layer 12: what every right memory answers (alive); that no memory has nothing (RamNone). -/
import Derived.Test.YteoemjhhjnkkiaaMi
set_option maxRecDepth 100000
set_option linter.unusedVariables false
namespace Go.Proofs.Yteoemjhhjnkkiaa
open Go.RowKit

theorem BW.fr {W w w' : World} {F : List Nat} (h : BW W w) (k : Fr F w w') (hF : ∀ i ∈ F, W.heap.size ≤ i) : BW W w' := Below.trans h (k.below hF (Below.size h))
theorem BW.fr1 {W w w' : World} {p : Pla} (h : BW W w) (k : Fr [p.g] w w') (hF : ∀ i ∈ p.foot, W.heap.size ≤ i) : BW W w' := h.fr k (fun i hi => by
  have e : i = p.g := by simpa using hi
  rw [e]
  exact hF _ (foot_mem p).1)
theorem store_c {s : Mst} {p : Pla} {w : World} (h : RamAt s p w) (hn : s.b0.length ≤ 1024) (hl : s.l.length ≤ 1000) (t i a z d : Int) (ha : a ≤ 9223372036854775807) (hd0 : 0 ≤ d) (hd1 : d < 2 ^ 64) :
    Calls Try.prog 10 #[.pointer (some ⟨p.g, 0, none⟩), .int .i64 t, .agg #[.int .i64 i, .int .i64 a, .int .i64 z, .int .u64 d]] w (RetSto w s p t ⟨i, a, z, d⟩) := by
  cases hok : stoOk s.n t ⟨i, a, z, d⟩ with
  | false => exact store_no h hn t i a z d ha hok
  | true =>
    have hok' := hok
    unfold stoOk at hok'
    simp only [Bool.and_eq_true, decide_eq_true_eq] at hok'
    have hmo := mayP_out hok'.1
    obtain ⟨A, rfl⟩ : ∃ k : Nat, a = (k : Int) := ⟨a.toNat, by have := hmo.2.1; omega⟩
    obtain ⟨Z, rfl⟩ : ∃ k : Nat, z = (k : Int) := ⟨z.toNat, by have := hmo.1; omega⟩
    exact store_yes h hn hl t i d A Z hd0 hd1 hok
/-! ### alive -/
def a0M : Mst := newM (List.replicate 16 0)
def a1M : Mst := resM a0M 1 4 4
def a2M : Mst := stoM a1M 0 ⟨7, 4, 2, 66051⟩
theorem alive_new (w : World) : Calls Try.prog 8 #[.slice (some ⟨w.heap.size, 0, none⟩) 16 16] (w.alloc (.cells (cellsB (List.replicate 16 0)).toArray 5)) fun e w' => ∃ p : Pla, e = .returned (.pointer (some ⟨p.g, 0, none⟩)) ∧ RamAt a0M p w' ∧ (∀ k ∈ p.foot, w.heap.size ≤ k) ∧ BW w w' := by
  have h := new_some ⟨w.heap.size, 0, none⟩ 16 (List.replicate 16 0) (w.alloc (.cells (cellsB (List.replicate 16 0)).toArray 5)) (by simp) (by omega) (.inr ⟨w.heap.size, 0, rfl, by simp, fun i v hv => by
    rw [Nat.zero_add, (Blk.new _ _ w).cell i]
    simpa using hv⟩)
  refine h.mono fun e w' hh => ?_
  obtain ⟨p, h1, h2, h3, h4⟩ := hh
  refine ⟨p, h1, h2, fun k hk => ?_, (BW.new (Below.refl _ _) _).on h4⟩
  have := h3 k hk
  simp at this
  omega
theorem alive_res {p : Pla} {w : World} (h : RamAt a0M p w) : Calls Try.prog 12 #[.pointer (some ⟨p.g, 0, none⟩), .int .i64 1, .int .i64 4, .int .i64 4] w fun e w' => e = .returned (.bool true) ∧ RamAt a1M p w' ∧ Fr [p.g] w w' := by
  have h1 := reserve_c h (by decide) 1 4 4 (by omega)
  rw [show (mayP a0M.n 4 4 && isHt 1) = true by decide] at h1
  exact h1
theorem alive_sto {p : Pla} {w : World} (h : RamAt a1M p w) : Calls Try.prog 10 #[.pointer (some ⟨p.g, 0, none⟩), .int .i64 0, .agg #[.int .i64 7, .int .i64 4, .int .i64 2, .int .u64 66051]] w fun e w' => e = .returned (.bool true) ∧ ∃ p', RamAt a2M p' w' ∧ p'.g = p.g ∧ (∀ k ∈ p'.foot, k ∈ p.foot ∨ w.heap.size ≤ k) ∧ Fr p.foot w w' := by
  have h1 := store_c h (by decide) (by decide) 0 7 4 2 66051 (by omega) (by omega) (by omega)
  have e : stoOk a1M.n 0 ⟨7, 4, 2, 66051⟩ = true := by decide
  refine h1.mono fun en w' hh => ?_
  obtain ⟨h2, h3⟩ := hh
  rw [e] at h2
  exact ⟨h2, h3⟩
theorem alive_load {p : Pla} {w : World} (h : RamAt a2M p w) : Calls Try.prog 16 #[.pointer (some ⟨p.g, 0, none⟩), .int .i64 4, .int .i64 4] w fun e w' => ∃ A c, e = .returned (.tuple #[.int .u64 515, .slice A 4 c, .bool true]) ∧ Rd w' w'.heap.size A (cellsI [7, 7, -1, -1]) ∧ BW w w' := by
  have h1 := load_yes h (by decide) (by unfold Byts; decide) 4 4 (by decide)
  have e1 : ofB (bytesP a2M 4 4) = 515 := by decide +kernel
  have e2 : tagsP a2M 4 4 = [7, 7, -1, -1] := by decide +kernel
  refine h1.mono fun en w' hh => ?_
  obtain ⟨v, h2, h3, h4⟩ := hh
  rw [e1] at h2
  rw [e2] at h3
  obtain ⟨A, c, rfl, -⟩ := own_parts h3
  exact ⟨A, c, h2, Rd.of_row h3, h4⟩
theorem alive_held {p : Pla} {w : World} (h : RamAt a2M p w) : Calls Try.prog 20 #[.pointer (some ⟨p.g, 0, none⟩), .int .i64 1, .int .i64 4, .int .i64 4] w fun e w' => e = .returned (.bool false) ∧ BW w w' := by
  have h1 := held_c h (by decide) 1 4 4 (by omega)
  rw [show helM a2M 1 4 4 = false by decide +kernel] at h1
  exact h1
theorem alive_log {p : Pla} {w : World} (h : RamAt a2M p w) : Calls Try.prog 25 #[.pointer (some ⟨p.g, 0, none⟩)] w fun e w' => (∃ A c, e = .returned (.slice A 1 c)) ∧ BW w w' := by
  have h1 := log_c h (by decide)
  have e : a2M.l.length = 1 := by decide
  refine h1.mono fun en w' hh => ?_
  obtain ⟨v, h2, h3, h4⟩ := hh
  obtain ⟨A, c, rfl, -⟩ := own_parts h3
  rw [e] at h2
  exact ⟨⟨A, c, h2⟩, h4⟩
theorem alive_same {A : Option Addr} {c : Nat} {w : World} (h : Rd w w.heap.size A (cellsI [7, 7, -1, -1])) :
    Calls Try.prog 19 #[.slice A 4 c, .slice (some ⟨w.heap.size, 0, none⟩) 4 4] (w.alloc (.cells #[.int .i64 7, .int .i64 7, .int .i64 (-1), .int .i64 (-1)] 3)) fun e w' => e = .returned (.bool true) ∧ BW w w' := by
  have k : BW w (w.alloc (.cells #[.int .i64 7, .int .i64 7, .int .i64 (-1), .int .i64 (-1)] 3)) := BW.new (Below.refl _ _) _
  have h1 := sameInts_at A (some ⟨w.heap.size, 0, none⟩) c 4 [7, 7, -1, -1] [7, 7, -1, -1] 4 (w.alloc (.cells #[.int .i64 7, .int .i64 7, .int .i64 (-1), .int .i64 (-1)] 3)) rfl rfl (by omega) ((h.below k).mono (Below.size k)) (.inr ⟨w.heap.size, 0, rfl, by simp, fun i v hv => by
    rw [Nat.zero_add, (Blk.new _ _ w).cell i]
    simpa [cellsI] using hv⟩)
  refine h1.mono fun e w' hh => ⟨?_, k.on hh.2⟩
  rw [hh.1]
  rfl
set_option maxHeartbeats 4000000 in
theorem alive12_any (w : World) : Calls Try.prog 7 #[] w fun e w' => e = .returned (.bool true) ∧ BW w w' := by
  have HN := Lib.hid (alive_new w)
  have hmk : ∀ w, (Instr.makeSlice 22 (.int .i64 16) (.int .i64 16)).run Try.prog w = .ok (.slice (some ⟨w.heap.size, 0, none⟩) 16 16) (w.alloc (.cells (cellsB (List.replicate 16 0)).toArray 5)) := fun _ => by kernel_rfl
  go_enter Try.func7, Try.ntmps7
  go_wp2_with (first
    | (go_at_call 8; refine HN.out.mono ?_; rintro e w1 ⟨p, rfl, hr, hf, hb⟩; have HR0 := Lib.hid hr; have HF := Lib.hid hf; have HB1 := Lib.hid hb; clear hr hf hb)
    | (go_at_call 12; refine (alive_res HR0.out).mono ?_; rintro e w2 ⟨rfl, hr, hk⟩; have HR1 := Lib.hid hr; have HB2 := Lib.hid (HB1.out.fr1 hk HF.out); clear hr hk HR0 HB1)
    | (go_at_call 10; refine (alive_sto HR1.out).mono ?_; rintro e w3 ⟨rfl, p2, hr, hg, hf, hk⟩; have HR2 := Lib.hid hr; have HB3 := Lib.hid (HB2.out.fr hk HF.out); clear hr hk hf HR1 HB2)
    | (go_at_call 16; rw [← hg]; refine (alive_load HR2.out).mono ?_; rintro e w4 ⟨A1, c1, rfl, hrd, hb⟩; have HR3 := Lib.hid (HR2.out.on hb); have HB4 := Lib.hid (HB3.out.on hb); have HRD := Lib.hid hrd; clear hrd hb HR2 HB3)
    | (go_at_call 19; refine (alive_same HRD.out).mono ?_; rintro e w5 ⟨rfl, hb⟩; have HR4 := Lib.hid (HR3.out.on hb); have HB5 := Lib.hid (HB4.out.on hb); clear hb HR3 HB4 HRD)
    | (go_at_call 20; rw [← hg]; refine (alive_held HR4.out).mono ?_; rintro e w6 ⟨rfl, hb⟩; have HR5 := Lib.hid (HR4.out.on hb); have HB6 := Lib.hid (HB5.out.on hb); clear hb HR4 HB5)
    | (go_at_call 25; rw [← hg]; refine (alive_log HR5.out).mono ?_; rintro e w7 ⟨⟨A2, c2, rfl⟩, hb⟩; have HB7 := Lib.hid (HB6.out.on hb); clear hb HR5 HB6))
  go_ret
  exact ⟨rfl, HB7.out⟩
end Go.Proofs.Yteoemjhhjnkkiaa
