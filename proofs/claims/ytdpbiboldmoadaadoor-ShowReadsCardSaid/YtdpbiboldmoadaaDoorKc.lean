/- The program's named, and strings.Cut at a blank. -/
import Derived.Test.YtdpbiboldmoadaaDoorKy
set_option maxRecDepth 100000
namespace Go.Proofs.YtdpbiboldmoadaaDoor
open Go.RowKit

theorem idx_name (S : List UInt8) : (Lib.indexByte S 32 = -1 ∧ nameT S = S) ∨ ∃ k : Nat, Lib.indexByte S 32 = (k : Int) ∧ k < S.length ∧ nameT S = S.take k := by
  unfold nameT
  induction S with
  | nil => exact .inl ⟨rfl, rfl⟩
  | cons a t ih =>
    by_cases h : a = 32
    · subst h
      refine .inr ⟨0, rfl, by simp, ?_⟩
      rw [List.takeWhile_cons_of_neg (by decide)]
      rfl
    · have hb : (a == 32) = false := by simpa using h
      have hn : no32 a = true := by unfold no32; simpa using h
      rw [List.takeWhile_cons_of_pos hn, Lib.indexByte, hb]
      rcases ih with ⟨e1, e2⟩ | ⟨k, e1, e2, e3⟩
      · rw [e1, e2]; exact .inl ⟨rfl, rfl⟩
      · refine .inr ⟨k + 1, ?_, by simp; omega, by rw [e3]; rfl⟩
        rw [e1]
        have : ((k : Int) == -1) = false := by rw [beq_eq_false_iff_ne]; omega
        rw [if_neg (by decide), this, if_neg (by decide)]
        omega
theorem extract_take (S : List UInt8) (k : Nat) : (bs S).extract 0 k = bs (S.take k) := by
  apply ByteArray.ext
  rw [ByteArray.data_extract]
  apply Array.ext'
  rw [Array.toList_extract, List.extract_eq_take_drop]
  simp [bs]
theorem extract_drop (S : List UInt8) (k : Nat) : (bs S).extract k (bs S).size = bs (S.drop k) := by
  apply ByteArray.ext
  rw [ByteArray.data_extract]
  apply Array.ext'
  rw [Array.toList_extract, List.extract_eq_take_drop]
  show List.take ((bs S).size - k) (S.drop k) = S.drop k
  rw [List.take_of_length_le (by rw [List.length_drop]; exact Nat.le_refl _)]
set_option maxHeartbeats 1000000 in
theorem cutlite_c (S : List UInt8) (hl : S.length ≤ 100000) (w : World) : Calls Tryd.prog 48 #[tx S, .string ⟨#[32]⟩] w fun e w' => ∃ r b, e = .returned (.tuple #[tx (nameT S), .string r, .bool b]) ∧ Below w.heap.size w w' := by
  have HK : ∀ w, Calls Tryd.prog 61 #[.string (bs S), .string ⟨#[32]⟩] w fun e w' => e = .returned (.int .i64 (Lib.indexByte S 32)) ∧ w' = w := fun w => Tryd.stringslite_Index_one (bs S) 32 w
  have hI := idx_name S
  have hs : (bs S).size = S.length := rfl
  have HB : Below w.heap.size w w := Below.refl _ _
  generalize nameT S = N at *
  unfold tx
  rcases hI with ⟨e1, rfl⟩ | ⟨k, e1, hk, e3⟩
  · rw [e1] at HK
    go_enter Tryd.func48, Tryd.ntmps48
    go_wp2_with (first
      | (go_at_call 61; refine (HK _).mono ?_; rintro e w' ⟨rfl, rfl⟩))
    go_ret3
    exact ⟨_, _, rfl, HB⟩
  · rw [e1] at HK
    have hx := extract_take S k
    rw [← e3] at hx
    obtain ⟨q, hq⟩ : ∃ q, bs S = q := ⟨_, rfl⟩
    rw [hq] at HK hx hs ⊢
    have hk1 : (k : Int) ≤ q.size := by omega
    have hk2 : (k : Int) + 1 ≤ q.size := by omega
    have hw : IntKind.i64.wrap ((k : Int) + 1) = (k : Int) + 1 := by rw [IntKind.wrap_i64]; omega
    have hw2 : wrap64 ((k : Int) + 1) = (k : Int) + 1 := wrap64_of ⟨by omega, by omega⟩
    have hn0 : (0 : Int) ≤ (k : Int) + 1 := by omega
    have hnn : ((k : Int) + 1).toNat = k + 1 := by omega
    clear e1 e3
    go_enter Tryd.func48, Tryd.ntmps48
    go_upto_region 3 with (first
      | (go_at_call 61; refine (HK _).mono ?_; rintro e w' ⟨rfl, rfl⟩))
    go_quiet (fail)
    have HB2 : Below w'.heap.size w' (w'.drewN nq) := drewN_below nq
    generalize w'.drewN nq = w3 at *
    go_wp2
    go_ret3
    exact ⟨_, _, rfl, HB2⟩
theorem strcut_c (S : List UInt8) (hl : S.length ≤ 100000) (w : World) : Calls Tryd.prog 32 #[tx S, .string ⟨#[32]⟩] w fun e w' => ∃ r b, e = .returned (.tuple #[tx (nameT S), .string r, .bool b]) ∧ Below w.heap.size w w' := by
  have HK := cutlite_c S hl w
  unfold tx at *
  generalize nameT S = N at *
  go_enter Tryd.func32, Tryd.ntmps32
  go_wp2_with (first
    | (go_at_call 48; refine HK.mono ?_; rintro e w' ⟨r, b, rfl, hb⟩; have HB := Lib.hid hb; clear hb))
  go_ret3
  exact ⟨_, _, rfl, HB.out⟩

/-! ### named -/
theorem Jn.put {P : Program} {W w : World} {i : Ins} {g : Nat} (h : Jn W i g w) (k : Ins) : ∃ w', (storeCells ⟨g, 0, none⟩ (insCells k).toList 0).run P w = .ok () w' ∧ Jn W k g w' := by
  obtain ⟨w', h1, h2, h3⟩ := h.2.1.store (P := P) (insCells k).toList rfl (ins_one k)
  exact ⟨w', h1, Below.stored h.1 h3 h.2.2 (Below.size h.1), h2, h.2.2⟩
theorem base_sets (op : Int) (aq rl : Bool) : baseR op aq rl = if op = 51 then ⟨op, 0, 0, 0, 0, aq, rl, 3, 3⟩ else ⟨op, 0, 0, 0, 0, aq, rl, 0, 0⟩ := by
  unfold baseR
  by_cases h : op = 51
  · rw [if_pos h, if_pos h]
  · rw [if_neg h, if_neg h]
set_option maxHeartbeats 1000000 in
theorem withSets_c (op : Int) (aq rl : Bool) (w : World) : Calls Tryd.prog 51 #[insV ⟨op, 0, 0, 0, 0, aq, rl, 0, 0⟩] w fun e w' => e = .returned (insV (baseR op aq rl)) ∧ BW w w' := by
  have HV := Lib.hid (base_sets op aq rl)
  have a1 : (w.alloc (.cells (insCells ⟨op, 0, 0, 0, 0, aq, rl, 0, 0⟩) 23)).heap.size = w.heap.size + 1 := by simp
  have j1 := (jn_new ⟨op, 0, 0, 0, 0, aq, rl, 0, 0⟩ w)
  have b2 := Blk.new (insCells noIns) 23 (w.alloc (.cells (insCells ⟨op, 0, 0, 0, 0, aq, rl, 0, 0⟩) 23))
  rw [a1] at b2
  have j2 : Jn w ⟨op, 0, 0, 0, 0, aq, rl, 0, 0⟩ w.heap.size ((w.alloc (.cells (insCells ⟨op, 0, 0, 0, 0, aq, rl, 0, 0⟩) 23)).alloc (.cells (insCells noIns) 23)) := ⟨j1.1.new _, j1.2.1.alloc _, j1.2.2⟩
  have j3 : Jn w noIns (w.heap.size + 1) ((w.alloc (.cells (insCells ⟨op, 0, 0, 0, 0, aq, rl, 0, 0⟩) 23)).alloc (.cells (insCells noIns) 23)) := ⟨j2.1, b2, by omega⟩
  clear j1 b2 a1
  unfold insV insCells noIns at *
  simp only at *
  by_cases h51 : op = 51
  · subst h51
    rw [if_pos rfl] at HV
    go_enter Tryd.func51, Tryd.ntmps51
    go_upto_region 1 with (fail)
    generalize ((w.alloc (.cells _ 23)).alloc (.cells _ 23)) = w1 at *
    obtain ⟨g2, hg2⟩ : ∃ g, w.heap.size + 1 = g := ⟨_, rfl⟩
    rw [hg2] at j3 ⊢
    obtain ⟨g1, hg1⟩ : ∃ g, w.heap.size = g := ⟨_, rfl⟩
    have j2' : Jn w ⟨51, 0, 0, 0, 0, aq, rl, 0, 0⟩ g1 w1 := by rw [← hg1]; exact j2
    have hne : g2 ≠ g1 := by omega
    rw [hg1]
    clear hg1 hg2 j2
    obtain ⟨c0, c1, c2, c3, c4, c5, c6, c7, c8⟩ := j2'.cells
    simp only at c0 c1 c2 c3 c4 c5 c6 c7 c8
    have f7 := j2'.2.1.free 7
    have f8 := (j2'.s7 3).2.1.free 8
    have k2 := (j2'.s7 3).s8 3
    have k3 : Jn w noIns g2 ((w1.setCell ⟨g1, 7, none⟩ (.int .i64 3)).setCell ⟨g1, 8, none⟩ (.int .i64 3)) := ⟨k2.1, (j3.2.1.other (a := ⟨g1, 7, none⟩) hne _).other (a := ⟨g1, 8, none⟩) hne _, j3.2.2⟩
    simp only at k2
    go_upto_region 3 with (fail)
    generalize ((w1.setCell ⟨g1, 7, none⟩ (.int .i64 3)).setCell ⟨g1, 8, none⟩ (.int .i64 3)) = w2 at *
    clear c0 c1 c2 c3 c4 c5 c6 c7 c8 f7 f8 j2' j3
    obtain ⟨w3, hs, k4⟩ := k3.put (P := Tryd.prog) ⟨51, 0, 0, 0, 0, aq, rl, 3, 3⟩
    have HA := k2.2.1
    rw [← HV.out] at hs k4 HA
    have hb9 := k4.2.1
    go_wp2_with (with_reducible refine load_blk (o := ⟨some 8, _, _, _, _, _⟩) rfl 23 (.tmp 1) rfl HA rfl Tryd.underlying23 rfl (by kernel_rfl) ?_)
    exact bodyPost_ret (results_blk1 rfl rfl hb9 Tryd.underlying23 rfl (by kernel_rfl)) rfl ⟨rfl, k4.1⟩
  · rw [if_neg h51] at HV
    have hb51 : (op == 51) = false := by simpa using h51
    go_enter Tryd.func51, Tryd.ntmps51
    go_upto_region 1 with (fail)
    generalize ((w.alloc (.cells _ 23)).alloc (.cells _ 23)) = w1 at *
    obtain ⟨g2, hg2⟩ : ∃ g, w.heap.size + 1 = g := ⟨_, rfl⟩
    rw [hg2] at j3 ⊢
    obtain ⟨g1, hg1⟩ : ∃ g, w.heap.size = g := ⟨_, rfl⟩
    have j2' : Jn w ⟨op, 0, 0, 0, 0, aq, rl, 0, 0⟩ g1 w1 := by rw [← hg1]; exact j2
    rw [hg1]
    clear hg1 hg2 j2 h51
    have c0 : w1.cell? ⟨g1, 0, none⟩ = some (.int .i64 op) := j2'.2.1.cell 0
    obtain ⟨w3, hs, k4⟩ := j3.put (P := Tryd.prog) ⟨op, 0, 0, 0, 0, aq, rl, 0, 0⟩
    have HA := j2'.2.1
    rw [← HV.out] at hs k4 HA
    have hb9 := k4.2.1
    go_wp2_with (with_reducible refine load_blk (o := ⟨some 8, _, _, _, _, _⟩) rfl 23 (.tmp 1) rfl HA rfl Tryd.underlying23 rfl (by kernel_rfl) ?_)
    exact bodyPost_ret (results_blk1 rfl rfl hb9 Tryd.underlying23 rfl (by kernel_rfl)) rfl ⟨rfl, k4.1⟩
end Go.Proofs.YtdpbiboldmoadaaDoor
