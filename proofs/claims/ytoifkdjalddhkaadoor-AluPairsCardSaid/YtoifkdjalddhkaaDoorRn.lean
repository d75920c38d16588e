/- The document's Taken, Next and Address. -/
import Derived.Test.YtoifkdjalddhkaaDoorRows
import Derived.Test.YtoifkdjalddhkaaDoorRv
import Derived.Test.YtoifkdjalddhkaaDoorBr
import Derived.Test.YtoifkdjalddhkaaDoorSy
import Derived.Test.YtoifkdjalddhkaaDoorJn
import Derived.WalkKit
import Derived.WalkLawsBesides
import Derived.Deep.QuietTactic
import Derived.BigQuiet
import Derived.WalkSmall
import Derived.WalkSpells
import Derived.Lib.Hide
import Derived.Below
namespace Go.Proofs.YtoifkdjalddhkaaDoor
open Go.RowKit

theorem nm_unlike : ∀ j k : Fin 75, nmL.getD j.val [] = nmL.getD k.val [] → j = k := by decide +kernel
theorem nm_some : ∀ k : Fin 75, nmL.getD k.val [] ≠ [] := by decide +kernel
/-- The name of another operation is another one. -/
theorem nm_ne {op : Int} {l : List UInt8} (k : Nat) (hk : k < 75) (hl : nmL.getD k [] = l) (h : op ≠ (k : Int) + 1) : nmO op ≠ l := by
  subst hl
  unfold nmO
  split
  · intro e
    have := nm_unlike ⟨op.toNat - 1, by omega⟩ ⟨k, hk⟩ e
    have : op.toNat - 1 = k := by injection this
    omega
  · exact fun e => nm_some ⟨k, hk⟩ e.symm
theorem tl_ne {op : Int} {l : List UInt8} (h : nmO op ≠ l) : ((bs (nmO op)).toList == l) = false := by rw [bs_list]; simpa using h

def takV (op a b : Int) : Bool := if op = 5 then a == b else if op = 6 then a != b else if op = 7 then lowB a b else if op = 8 then !lowB a b else if op = 9 then decide (a < b) else if op = 10 then !decide (a < b) else false
section
variable (i : Ins) (a b : Int) (ha : U64 a) (hb : U64 b) (ho : I64 i.op) (w : World)
include ha hb ho
theorem taken_in (h : 5 ≤ i.op ∧ i.op ≤ 10) : Calls Tryd.prog 12 #[insV i, .int .u64 a, .int .u64 b] w fun e w' => e = .returned (.bool (takV i.op a b)) ∧ Below w.heap.size w w' := by
  have HJ : Jn w i w.heap.size (w.alloc (.cells (insCells i) 23)) := ⟨BW.new (Below.refl _ _) _, Blk.new _ _ _, Nat.le_refl _⟩
  have KN := fun i' x (h : Jn w i' w.heap.size x) => (rname_any i.op ho.1 ho.2 x).mono fun e w' (hh : _ ∧ _) => And.intro hh.1 (h.on hh.2)
  have KL := fun x => rlow_c a b ha hb x
  have hc : i.op = 5 ∨ i.op = 6 ∨ i.op = 7 ∨ i.op = 8 ∨ i.op = 9 ∨ i.op = 10 := by omega
  clear h ho ha hb
  obtain ⟨op, rd, rs1, rs2, imm, aq, rl, pred, succ⟩ := i
  unfold insV
  simp only at hc KN ⊢
  unfold insCells at HJ
  simp only at HJ
  have hf : (op = 5 ∧ NF 5 3 ⟨#[98, 101, 113]⟩ 2 113) ∨ (op = 6 ∧ NF 6 3 ⟨#[98, 110, 101]⟩ 2 101) ∨ (op = 7 ∧ NF 7 3 ⟨#[98, 108, 116]⟩ 2 116) ∨ (op = 8 ∧ NF 8 3 ⟨#[98, 103, 101]⟩ 2 101) ∨ (op = 9 ∧ NF 9 3 ⟨#[98, 108, 116, 117]⟩ 3 117) ∨ (op = 10 ∧ NF 10 3 ⟨#[98, 103, 101, 117]⟩ 3 117) := by
    rcases hc with rfl | rfl | rfl | rfl | rfl | rfl
    · exact .inl ⟨rfl, nf_5⟩
    · exact .inr (.inl ⟨rfl, nf_6⟩)
    · exact .inr (.inr (.inl ⟨rfl, nf_7⟩))
    · exact .inr (.inr (.inr (.inl ⟨rfl, nf_8⟩)))
    · exact .inr (.inr (.inr (.inr (.inl ⟨rfl, nf_9⟩))))
    · exact .inr (.inr (.inr (.inr (.inr ⟨rfl, nf_10⟩))))
  clear hc
  rcases hf with ⟨rfl, _, hn, _⟩ | ⟨rfl, _, hn, _⟩ | ⟨rfl, _, hn, _⟩ | ⟨rfl, _, hn, _⟩ | ⟨rfl, _, hn, _⟩ | ⟨rfl, _, hn, _⟩
  all_goals
    rw [hn] at KN
    clear hn
    go_enter Tryd.func12, Tryd.ntmps12
    go_wp2_with (first
      | (go_at_call 27; refine (KN _ _ HJ).mono ?_; rintro e w2 ⟨rfl, HJ⟩)
      | (go_at_call 29; refine (KL _).mono ?_; rintro e w' ⟨rfl, rfl⟩))
    go_ret
    exact ⟨ret_bool (by simp [takV]), HJ.1⟩
omit ha hb in
theorem taken_out (h : ¬ (5 ≤ i.op ∧ i.op ≤ 10)) : Calls Tryd.prog 12 #[insV i, .int .u64 a, .int .u64 b] w fun e w' => e = .returned (.bool (takV i.op a b)) ∧ Below w.heap.size w w' := by
  have HJ : Jn w i w.heap.size (w.alloc (.cells (insCells i) 23)) := ⟨BW.new (Below.refl _ _) _, Blk.new _ _ _, Nat.le_refl _⟩
  have KN := fun i' x (h : Jn w i' w.heap.size x) => (rname_any i.op ho.1 ho.2 x).mono fun e w' (hh : _ ∧ _) => And.intro hh.1 (h.on hh.2)
  have HV : Hid (takV i.op a b = false) := by
    show _ = _
    unfold takV
    rw [if_neg (by omega), if_neg (by omega), if_neg (by omega), if_neg (by omega), if_neg (by omega), if_neg (by omega)]
  have q1 := tl_ne (nm_ne (op := i.op) (l := [98, 101, 113]) 4 (by decide) rfl (by omega))
  have q2 := tl_ne (nm_ne (op := i.op) (l := [98, 110, 101]) 5 (by decide) rfl (by omega))
  have q3 := tl_ne (nm_ne (op := i.op) (l := [98, 108, 116]) 6 (by decide) rfl (by omega))
  have q4 := tl_ne (nm_ne (op := i.op) (l := [98, 103, 101]) 7 (by decide) rfl (by omega))
  have q5 := tl_ne (nm_ne (op := i.op) (l := [98, 108, 116, 117]) 8 (by decide) rfl (by omega))
  have q6 := tl_ne (nm_ne (op := i.op) (l := [98, 103, 101, 117]) 9 (by decide) rfl (by omega))
  clear h ho
  obtain ⟨op, rd, rs1, rs2, imm, aq, rl, pred, succ⟩ := i
  unfold insV
  simp only at KN HV q1 q2 q3 q4 q5 q6 ⊢
  unfold insCells at HJ
  simp only at HJ
  unfold tx at KN
  generalize bs (nmO op) = q at *
  go_enter Tryd.func12, Tryd.ntmps12
  go_wp2_with (first
    | (go_at_call 27; refine (KN _ _ HJ).mono ?_; rintro e w2 ⟨rfl, HJ⟩))
  go_ret
  exact ⟨ret_bool HV.out.symm, HJ.1⟩
theorem rtaken_any : Calls Tryd.prog 12 #[insV i, .int .u64 a, .int .u64 b] w fun e w' => e = .returned (.bool (takV i.op a b)) ∧ Below w.heap.size w w' := by
  by_cases h : 5 ≤ i.op ∧ i.op ≤ 10
  · exact taken_in i a b ha hb ho w h
  · exact taken_out i a b ho w h
end

def nxtV (op imm pc a b : Int) : Int := if op = 3 ∨ takV op a b = true then u64 (pc + IntKind.u64.wrap imm) else if op = 4 then u64 (a + IntKind.u64.wrap imm) - u64 (a + IntKind.u64.wrap imm) % 2 else u64 (pc + 4)
theorem w_even {X : Int} (h : U64 X) : IntKind.u64.wrap (X - X.tmod 2) = X - X % 2 := by
  unfold U64 at h
  rw [Int.tmod_eq_emod_of_nonneg h.1, IntKind.wrap_u64]
  omega
theorem w_even' (x : Int) : IntKind.u64.wrap (IntKind.u64.wrap x - (IntKind.u64.wrap x).tmod 2) = u64 x - u64 x % 2 := by
  rw [w_even (w_U x), w_imm]
section
variable (i : Ins) (pc a b : Int) (ha : U64 a) (hb : U64 b) (ho : I64 i.op) (w : World)
include ha hb ho
theorem rnext_any : Calls Tryd.prog 14 #[insV i, .int .u64 pc, .int .u64 a, .int .u64 b] w fun e w' => e = .returned (.int .u64 (nxtV i.op i.imm pc a b)) ∧ Below w.heap.size w w' := by
  have HJ : Jn w i w.heap.size (w.alloc (.cells (insCells i) 23)) := ⟨BW.new (Below.refl _ _) _, Blk.new _ _ _, Nat.le_refl _⟩
  have KN := fun i' x (h : Jn w i' w.heap.size x) => (rname_any i.op ho.1 ho.2 x).mono fun e w' (hh : _ ∧ _) => And.intro hh.1 (h.on hh.2)
  have KT := fun i' x (h : Jn w i' w.heap.size x) => (rtaken_any i a b ha hb ho x).mono fun e w' (hh : _ ∧ _) => And.intro hh.1 (h.on hh.2)
  have hv : nxtV i.op i.imm pc a b = if i.op = 3 ∨ takV i.op a b = true then u64 (pc + IntKind.u64.wrap i.imm) else if i.op = 4 then u64 (a + IntKind.u64.wrap i.imm) - u64 (a + IntKind.u64.wrap i.imm) % 2 else u64 (pc + 4) := rfl
  have hq1 := fun h => tl_ne (nm_ne (op := i.op) (l := [106, 97, 108]) 2 (by decide) rfl h)
  have hq2 := fun h => tl_ne (nm_ne (op := i.op) (l := [106, 97, 108, 114]) 3 (by decide) rfl h)
  have h34 : (i.op = 3 ∧ NF 3 2 ⟨#[106, 97, 108]⟩ 2 108) ∨ (i.op = 4 ∧ NF 4 2 ⟨#[106, 97, 108, 114]⟩ 3 114) ∨ (i.op ≠ 3 ∧ i.op ≠ 4) := by
    by_cases h3 : i.op = 3
    · exact .inl ⟨h3, nf_3⟩
    by_cases h4 : i.op = 4
    · exact .inr (.inl ⟨h4, nf_4⟩)
    · exact .inr (.inr ⟨h3, h4⟩)
  have ht4 : i.op = 4 → takV i.op a b = false := fun h => by rw [h]; rfl
  clear ho ha hb
  obtain ⟨op, rd, rs1, rs2, imm, aq, rl, pred, succ⟩ := i
  unfold insV at KT ⊢
  simp only at KN KT hv hq1 hq2 h34 ht4 ⊢
  unfold insCells at HJ
  simp only at HJ
  obtain ⟨c0, c1, c2, c3, c4, c5, c6, c7, c8⟩ := HJ.cells
  simp only at c0 c1 c2 c3 c4 c5 c6 c7 c8
  rcases h34 with ⟨rfl, _, hn, _⟩ | ⟨rfl, _, hn, _⟩ | ⟨h3, h4⟩
  · rw [if_pos (.inl rfl)] at hv
    have HV := Lib.hid hv
    rw [hn] at KN
    clear hn hv hq1 hq2 ht4 KT
    go_enter Tryd.func14, Tryd.ntmps14
    go_wp2_with (first
      | (go_at_call 27; refine (KN _ _ HJ).mono ?_; rintro e w2 ⟨rfl, HJ⟩; obtain ⟨c0, c1, c2, c3, c4, c5, c6, c7, c8⟩ := HJ.cells))
    go_ret
    exact ⟨ret_int (by rw [HV.out]; exact w_imm _), HJ.1⟩
  · have ht := ht4 rfl
    rw [ht] at KT hv
    rw [if_neg (by simp), if_pos rfl] at hv
    have HV := Lib.hid hv
    rw [hn] at KN
    clear hn hv hq1 hq2 ht4 ht
    go_enter Tryd.func14, Tryd.ntmps14
    go_wp2_with (first
      | (go_at_call 27; refine (KN _ _ HJ).mono ?_; rintro e w2 ⟨rfl, HJ⟩; obtain ⟨c0, c1, c2, c3, c4, c5, c6, c7, c8⟩ := HJ.cells; have HB := HJ.2.1; simp only [insCells] at HB)
      | (with_reducible refine load_blk (o := ⟨some 17, _, _, _, _, _⟩) rfl 23 (.tmp 4) rfl HB rfl Tryd.underlying23 rfl (by kernel_rfl) ?_)
      | (go_at_call 12; refine (KT _ _ HJ).mono ?_; rintro e w3 ⟨rfl, HJ⟩; obtain ⟨c0, c1, c2, c3, c4, c5, c6, c7, c8⟩ := HJ.cells))
    go_ret
    exact ⟨ret_int (by rw [HV.out]; exact w_even' _), HJ.1⟩
  · have q1 := hq1 (by omega)
    have q2 := hq2 (by omega)
    clear hq1 hq2 ht4
    unfold tx at KN
    generalize bs (nmO op) = q at *
    cases ht : takV op a b
    · rw [ht] at KT hv
      rw [if_neg (by simp [h3]), if_neg h4] at hv
      have HV := Lib.hid hv
      clear hv ht h3 h4
      go_enter Tryd.func14, Tryd.ntmps14
      go_wp2_with (first
        | (go_at_call 27; refine (KN _ _ HJ).mono ?_; rintro e w2 ⟨rfl, HJ⟩; obtain ⟨c0, c1, c2, c3, c4, c5, c6, c7, c8⟩ := HJ.cells; have HB := HJ.2.1; simp only [insCells] at HB)
        | (with_reducible refine load_blk (o := ⟨some 17, _, _, _, _, _⟩) rfl 23 (.tmp 4) rfl HB rfl Tryd.underlying23 rfl (by kernel_rfl) ?_)
        | (go_at_call 12; refine (KT _ _ HJ).mono ?_; rintro e w3 ⟨rfl, HJ⟩; obtain ⟨c0, c1, c2, c3, c4, c5, c6, c7, c8⟩ := HJ.cells))
      go_ret
      exact ⟨ret_int (by rw [HV.out]; exact w_imm _), HJ.1⟩
    · rw [ht] at KT hv
      rw [if_pos (.inr rfl)] at hv
      have HV := Lib.hid hv
      clear hv ht h3 h4
      go_enter Tryd.func14, Tryd.ntmps14
      go_wp2_with (first
        | (go_at_call 27; refine (KN _ _ HJ).mono ?_; rintro e w2 ⟨rfl, HJ⟩; obtain ⟨c0, c1, c2, c3, c4, c5, c6, c7, c8⟩ := HJ.cells; have HB := HJ.2.1; simp only [insCells] at HB)
        | (with_reducible refine load_blk (o := ⟨some 17, _, _, _, _, _⟩) rfl 23 (.tmp 4) rfl HB rfl Tryd.underlying23 rfl (by kernel_rfl) ?_)
        | (go_at_call 12; refine (KT _ _ HJ).mono ?_; rintro e w3 ⟨rfl, HJ⟩; obtain ⟨c0, c1, c2, c3, c4, c5, c6, c7, c8⟩ := HJ.cells))
      go_ret
      exact ⟨ret_int (by rw [HV.out]; exact w_imm _), HJ.1⟩
end

def adrV (op imm a : Int) : Int := if srt op = 4 ∨ srt op = 5 then u64 (a + IntKind.u64.wrap imm) else if 10 ≤ srt op then a else 0
theorem raddress_any (i : Ins) (a : Int) (ho : I64 i.op) (w : World) : Calls Tryd.prog 16 #[insV i, .int .u64 a] w fun e w' => e = .returned (.int .u64 (adrV i.op i.imm a)) ∧ Below w.heap.size w w' := by
  have HJ : Jn w i w.heap.size (w.alloc (.cells (insCells i) 23)) := ⟨BW.new (Below.refl _ _) _, Blk.new _ _ _, Nat.le_refl _⟩
  have KS := fun i' x (h : Jn w i' w.heap.size x) => (rsort_any i.op ho.1 ho.2 x).mono fun e w' (hh : _ ∧ _) => And.intro hh.1 (h.on hh.2)
  have hv : adrV i.op i.imm a = if srt i.op = 4 ∨ srt i.op = 5 then u64 (a + IntKind.u64.wrap i.imm) else if 10 ≤ srt i.op then a else 0 := rfl
  clear ho
  obtain ⟨op, rd, rs1, rs2, imm, aq, rl, pred, succ⟩ := i
  unfold insV
  simp only at KS hv ⊢
  unfold insCells at HJ
  simp only at HJ
  obtain ⟨c0, c1, c2, c3, c4, c5, c6, c7, c8⟩ := HJ.cells
  simp only at c0 c1 c2 c3 c4 c5 c6 c7 c8
  generalize adrV op imm a = r at *
  generalize srt op = k at *
  have hc : k = 4 ∨ k = 5 ∨ (k ≠ 4 ∧ k ≠ 5 ∧ 10 ≤ k) ∨ (k ≠ 4 ∧ k ≠ 5 ∧ k < 10) := by omega
  rcases hc with rfl | rfl | ⟨h4, h5, hk⟩ | ⟨h4, h5, hk⟩
  · rw [if_pos (.inl rfl)] at hv
    have HV := Lib.hid hv
    clear hv
    go_enter Tryd.func16, Tryd.ntmps16
    go_wp2_with (first
      | (go_at_call 26; refine (KS _ _ HJ).mono ?_; rintro e w2 ⟨rfl, HJ⟩; obtain ⟨c0, c1, c2, c3, c4, c5, c6, c7, c8⟩ := HJ.cells))
    go_ret
    exact ⟨ret_int (by rw [HV.out]; exact w_imm _), HJ.1⟩
  · rw [if_pos (.inr rfl)] at hv
    have HV := Lib.hid hv
    clear hv
    go_enter Tryd.func16, Tryd.ntmps16
    go_wp2_with (first
      | (go_at_call 26; refine (KS _ _ HJ).mono ?_; rintro e w2 ⟨rfl, HJ⟩; obtain ⟨c0, c1, c2, c3, c4, c5, c6, c7, c8⟩ := HJ.cells))
    go_ret
    exact ⟨ret_int (by rw [HV.out]; exact w_imm _), HJ.1⟩
  · rw [if_neg (by omega), if_pos hk] at hv
    have HV := Lib.hid hv
    have b4 : (k == 4) = false := by simpa using h4
    have b5 : (k == 5) = false := by simpa using h5
    clear hv h4 h5
    go_enter Tryd.func16, Tryd.ntmps16
    go_wp2_with (first
      | (go_at_call 26; refine (KS _ _ HJ).mono ?_; rintro e w2 ⟨rfl, HJ⟩; obtain ⟨c0, c1, c2, c3, c4, c5, c6, c7, c8⟩ := HJ.cells))
    go_ret
    exact ⟨ret_int HV.out.symm, HJ.1⟩
  · rw [if_neg (by omega), if_neg (by omega)] at hv
    have HV := Lib.hid hv
    have b4 : (k == 4) = false := by simpa using h4
    have b5 : (k == 5) = false := by simpa using h5
    clear hv h4 h5
    go_enter Tryd.func16, Tryd.ntmps16
    go_wp2_with (first
      | (go_at_call 26; refine (KS _ _ HJ).mono ?_; rintro e w2 ⟨rfl, HJ⟩; obtain ⟨c0, c1, c2, c3, c4, c5, c6, c7, c8⟩ := HJ.cells))
    go_ret
    exact ⟨ret_int HV.out.symm, HJ.1⟩
end Go.Proofs.YtoifkdjalddhkaaDoor
