/- The program's small functions of package decode, over the tables that the code lays. None of them writes or makes memory. -/
import Derived.Test.YtbnacdhhacafkaaDoorRows
import Derived.Test.YtbnacdhhacafkaaDoorOpc
import Derived.Test.YtbnacdhhacafkaaDoorWd
import Derived.Test.YtbnacdhhacafkaaDoorLt
import Derived.Test.YtbnacdhhacafkaaDoorCq
import Derived.Test.YtbnacdhhacafkaaDoorFa
import Derived.WalkKit
import Derived.WalkLawsBesides
import Derived.Deep.QuietTactic
import Derived.BigQuiet
import Derived.WalkSmall
import Derived.WalkSpells
import Derived.Lib.Hide
import Derived.Below
import Derived.Deep.Cut
import Derived.Test.YtbnacdhhacafkaaDoorFd4
import Derived.Test.YtbnacdhhacafkaaDoorCd
import Derived.Test.YtbnacdhhacafkaaDoorFd
import Derived.LoopTactic
import Derived.Outline
namespace Go.Proofs.YtbnacdhhacafkaaDoor
open Go.RowKit

/-- Numbers of a table that lies at block g. -/
def TabI (g : Nat) (l : List Int) (w : World) : Prop := ∀ i, i < l.length → w.cell? ⟨g, i, none⟩ = some (.int .i64 (l.getD i 0))
def TabU (g : Nat) (l : List Int) (w : World) : Prop := ∀ i, i < l.length → w.cell? ⟨g, i, none⟩ = some (.int .u32 (l.getD i 0))
theorem TabI.below {g : Nat} {l : List Int} {W w : World} (h : TabI g l W) (hb : Below W.heap.size W w) : TabI g l w := fun i hi => by
  have hz := World.block_lt_of_cell? W _ (h i hi)
  rw [hb.cell (p := ⟨g, i, none⟩) hz]; exact h i hi
theorem TabU.below {g : Nat} {l : List Int} {W w : World} (h : TabU g l W) (hb : Below W.heap.size W w) : TabU g l w := fun i hi => by
  have hz := World.block_lt_of_cell? W _ (h i hi)
  rw [hb.cell (p := ⟨g, i, none⟩) hz]; exact h i hi
def soL : List Int := [0, 0, 0, 99, 3, 35, 19, 51, 15, 115, 47, 47, 47]
/-- The tables, as the code lays them. -/
structure Tab6 (w : World) : Prop where
  jalrs : TabI 2 jalrL w
  branches : TabI 3 branchL w
  loads : TabI 4 loadL w
  stores : TabI 5 storeL w
  fences : TabI 16 fenceL w
  numbers : TabI 10 numL w
  shifts : TabI 11 shiL w
  otherShifts : TabI 12 oshiL w
  numbersWord : TabI 13 numwL w
  shiftsWord : TabI 14 shiwL w
  otherShiftsWord : TabI 15 oshiwL w
  pairs : TabI 6 pairL w
  otherPairs : TabI 7 opairL w
  pairsWord : TabI 8 pairwL w
  otherPairsWord : TabI 9 opairwL w
  atomicsWord : TabI 17 atwL w
  atomicsDouble : TabI 18 atdL w
  sorts : TabU 0 soL w
  lasts : TabL w
  lay : Tab w
theorem Tab6.below {W w : World} (h : Tab6 W) (hb : Below W.heap.size W w) : Tab6 w :=
  ⟨h.jalrs.below hb, h.branches.below hb, h.loads.below hb, h.stores.below hb, h.fences.below hb, h.numbers.below hb, h.shifts.below hb, h.otherShifts.below hb, h.numbersWord.below hb, h.shiftsWord.below hb, h.otherShiftsWord.below hb, h.pairs.below hb, h.otherPairs.below hb, h.pairsWord.below hb, h.otherPairsWord.below hb, h.atomicsWord.below hb, h.atomicsDouble.below hb, h.sorts.below hb, h.lasts.below hb, h.lay.below hb (World.block_lt_of_cell? W _ (h.lay 0 (by decide)))⟩

theorem fo_range (v hi lo : Int) (_hv : U32 v) : 0 ≤ fieldOf v hi lo ∧ fieldOf v hi lo < 4294967296 := by
  unfold fieldOf
  split
  · unfold fld
    have h1 := two_pow_pos (hi.toNat + 1 - lo.toNat)
    have h2 : (2 : Int) ^ (hi.toNat + 1 - lo.toNat) ≤ 2 ^ 32 := two_pow_le (by omega)
    have h3 := Int.emod_nonneg (v / 2 ^ lo.toNat) (Int.ne_of_gt h1)
    have h4 := Int.emod_lt_of_pos (v / 2 ^ lo.toNat) h1
    exact ⟨h3, by omega⟩
  · omega
section
variable (v : Int)
theorem fo_op : fieldOf v 6 0 = v % 128 := by rw [fieldOf_yes (by decide)]; unfold fld; simp
theorem fo_rd : fieldOf v 11 7 = v / 128 % 32 := by rw [fieldOf_yes (by decide)]; unfold fld; simp
theorem fo_f3 : fieldOf v 14 12 = v / 4096 % 8 := by rw [fieldOf_yes (by decide)]; unfold fld; simp
theorem fo_r1 : fieldOf v 19 15 = v / 32768 % 32 := by rw [fieldOf_yes (by decide)]; unfold fld; simp
theorem fo_r2 : fieldOf v 24 20 = v / 1048576 % 32 := by rw [fieldOf_yes (by decide)]; unfold fld; simp
theorem fo_s6 : fieldOf v 25 20 = v / 1048576 % 64 := by rw [fieldOf_yes (by decide)]; unfold fld; simp
theorem fo_aq : fieldOf v 26 26 = v / 67108864 % 2 := by rw [fieldOf_yes (by decide)]; unfold fld; simp
theorem fo_rl : fieldOf v 25 25 = v / 33554432 % 2 := by rw [fieldOf_yes (by decide)]; unfold fld; simp
theorem fo_pr : fieldOf v 27 24 = v / 16777216 % 16 := by rw [fieldOf_yes (by decide)]; unfold fld; simp
theorem fo_su : fieldOf v 23 20 = v / 1048576 % 16 := by rw [fieldOf_yes (by decide)]; unfold fld; simp
theorem fo_up : fieldOf v 31 20 = v / 1048576 % 4096 := by rw [fieldOf_yes (by decide)]; unfold fld; simp
theorem fo_f7 : fieldOf v 31 25 = v / 33554432 % 128 := by rw [fieldOf_yes (by decide)]; unfold fld; simp
theorem fo_f5 : fieldOf v 31 27 = v / 134217728 % 32 := by rw [fieldOf_yes (by decide)]; unfold fld; simp
end
theorem part_c (v hi lo : Int) (hv : U32 v) (w : World) :
    Calls Tryd.prog 25 #[.int .u32 v, .int .i64 hi, .int .i64 lo] w fun e w' => e = .returned (.int .i64 (fieldOf v hi lo)) ∧ w = w' := by
  have HF := fun w => field_any v hi lo hv.1 hv.2 w
  have HR := Lib.hid (fo_range v hi lo hv)
  generalize fieldOf v hi lo = x at *
  clear hv
  go_enter Tryd.func25, Tryd.ntmps25
  go_wp2_with (go_at_call 46; refine (HF _).mono ?_; rintro e w' ⟨rfl, rfl⟩)
  go_ret
  exact ⟨ret_int (by have := HR.out; first | rfl | (rw [wrap64_eq, IntKind.wrap_i64]; omega)), rfl⟩
theorem opcode_c0 (v : Int) (hv : U32 v) (w : World) :
    Calls Tryd.prog 27 #[.int .u32 v] w fun e w' => e = .returned (.int .u32 (v % 128)) ∧ w = w' := by
  have HF := fun w => field_any v 6 0 hv.1 hv.2 w
  rw [fo_op] at HF
  generalize v % 128 = x at *
  go_enter Tryd.func27, Tryd.ntmps27
  go_wp2_with (go_at_call 46; refine (HF _).mono ?_; rintro e w' ⟨rfl, rfl⟩)
  go_ret
  exact ⟨rfl, rfl⟩
theorem third_c (v : Int) (hv : U32 v) (w : World) :
    Calls Tryd.prog 38 #[.int .u32 v] w fun e w' => e = .returned (.int .i64 (v / 4096 % 8)) ∧ w = w' := by
  have HF := fun w => part_c v 14 12 hv w
  rw [fo_f3] at HF
  generalize v / 4096 % 8 = x at *
  go_enter Tryd.func38, Tryd.ntmps38
  go_wp2_with (go_at_call 25; refine (HF _).mono ?_; rintro e w' ⟨rfl, rfl⟩)
  go_ret
  exact ⟨rfl, rfl⟩
theorem seventh_c (v : Int) (hv : U32 v) (w : World) :
    Calls Tryd.prog 42 #[.int .u32 v] w fun e w' => e = .returned (.int .i64 (v / 33554432)) ∧ w = w' := by
  have HF := fun w => part_c v 31 25 hv w
  rw [fo_f7, show v / 33554432 % 128 = v / 33554432 by have := hv.1; have := hv.2; omega] at HF
  generalize v / 33554432 = x at *
  go_enter Tryd.func42, Tryd.ntmps42
  go_wp2_with (go_at_call 25; refine (HF _).mono ?_; rintro e w' ⟨rfl, rfl⟩)
  go_ret
  exact ⟨rfl, rfl⟩
/-- The plain operation or the other one, by f7. -/
def eitV (f a b : Int) : Int := if f = 0 then a else if f = 32 then b else 0
theorem either_c (f a b : Int) (w : World) :
    Calls Tryd.prog 41 #[.int .i64 f, .int .i64 a, .int .i64 b] w fun e w' => e = .returned (.int .i64 (eitV f a b)) ∧ w = w' := by
  by_cases h0 : f = 0
  · subst h0
    go_enter Tryd.func41, Tryd.ntmps41
    go_wp2
    go_ret
    exact ⟨rfl, rfl⟩
  · by_cases h1 : f = 32
    · subst h1
      go_enter Tryd.func41, Tryd.ntmps41
      go_wp2
      go_ret
      exact ⟨rfl, rfl⟩
    · have HV : Hid (eitV f a b = 0) := by show _ = _; unfold eitV; rw [if_neg h0, if_neg h1]
      have b0 : (f == 0) = false := by simpa using h0
      have b1 : (f == 32) = false := by simpa using h1
      clear h0 h1
      go_enter Tryd.func41, Tryd.ntmps41
      go_wp2
      go_ret
      exact ⟨ret_int HV.out.symm, rfl⟩
theorem eit_cases {x f a b : Int} (h0 : f = 0 → x = a) (h1 : f = 32 → x = b) (h2 : f ≠ 0 → f ≠ 32 → x = 0) : x = eitV f a b := by
  unfold eitV
  by_cases e0 : f = 0
  · rw [if_pos e0]; exact h0 e0
  · rw [if_neg e0]
    by_cases e1 : f = 32
    · rw [if_pos e1]; exact h1 e1
    · rw [if_neg e1]; exact h2 e0 e1
theorem l8_nat (l : List Int) (f : Nat) : l8 l (f : Int) = l.getD f 0 := rfl
theorem opW_pair {v : Int} {f : Nat} (ho : v % 128 = 51) (h3 : v / 4096 % 8 = (f : Int)) (_hf : f < 8) : opW v = eitV (v / 33554432) (pairL.getD f 0) (opairL.getD f 0) :=
  eit_cases (fun h => opW_pair0 ho h3 (by omega) h) (fun h => opW_pair32 ho h3 (by omega) h) (fun h h' => opW_pairx ho rfl h h')
theorem opW_pairw {v : Int} {f : Nat} (ho : v % 128 = 59) (h3 : v / 4096 % 8 = (f : Int)) (_hf : f < 8) : opW v = eitV (v / 33554432) (pairwL.getD f 0) (opairwL.getD f 0) :=
  eit_cases (fun h => opW_pairw0 ho h3 (by omega) h) (fun h => opW_pairw32 ho h3 (by omega) h) (fun h h' => opW_pairwx ho rfl h h')
theorem opW_shi {v : Int} {f : Nat} (ho : v % 128 = 19) (h3 : v / 4096 % 8 = (f : Int)) (_hf : f < 8) (hn : numL.getD f 0 = 0) : opW v = eitV (v / 33554432 / 2 * 2) (shiL.getD f 0) (oshiL.getD f 0) :=
  eit_cases (fun h => opW_shi0 ho h3 (by omega) hn (by omega)) (fun h => opW_shi16 ho h3 (by omega) hn (by omega)) (fun h h' => opW_shix ho h3 (by omega) hn rfl (by omega) (by omega))
theorem opW_shiw {v : Int} {f : Nat} (ho : v % 128 = 27) (h3 : v / 4096 % 8 = (f : Int)) (_hf : f < 8) (hn : numwL.getD f 0 = 0) : opW v = eitV (v / 33554432) (shiwL.getD f 0) (oshiwL.getD f 0) :=
  eit_cases (fun h => opW_shiw0 ho h3 (by omega) hn h) (fun h => opW_shiw32 ho h3 (by omega) hn h) (fun h h' => opW_shiwx ho h3 (by omega) hn rfl h h')
theorem andn1 (s : Int) (h : 0 ≤ s ∧ s < 128) : bits .andNot .i64 s 1 = s / 2 * 2 := by
  obtain ⟨n, rfl⟩ := Int.eq_ofNat_of_zero_le h.1
  have : ∀ n : Fin 128, bits .andNot .i64 (n.val : Int) 1 = (n.val : Int) / 2 * 2 := by decide +kernel
  exact this ⟨n, by omega⟩
theorem f3_nat (v : Int) : ∃ f : Nat, v / 4096 % 8 = (f : Int) ∧ f < 8 := ⟨(v / 4096 % 8).toNat, by omega, by omega⟩

theorem drewN_below {w : World} (n : Nat) : Below w.heap.size w (w.drewN n) := ⟨rfl, rfl, rfl, Nat.le_refl _, fun _ _ => rfl⟩
theorem number_c (v : Int) (hv : U32 v) (ho : v % 128 = 19) (w : World) (T : Tab6 w) :
    Calls Tryd.prog 39 #[.int .u32 v] w fun e w' => e = .returned (.int .i64 (opW v)) ∧ Below w.heap.size w w' := by
  obtain ⟨f, h3, hf⟩ := f3_nat v
  have HT := fun w => third_c v hv w
  have H7 := fun w => seventh_c v hv w
  rw [h3] at HT
  have c1 := T.numbers f hf
  have c2 := T.shifts f hf
  have c3 := T.otherShifts f hf
  have hlt : (f : Int) < 8 := by omega
  by_cases h0 : numL.getD f 0 = 0
  · have HV := Lib.hid (opW_shi ho h3 hf h0)
    have HA := andn1 (v / 33554432) (by have := hv.1; have := hv.2; omega)
    have HE := fun a b w => either_c (v / 33554432 / 2 * 2) a b w
    rw [h0] at c1
    generalize v / 33554432 / 2 * 2 = s2 at *
    generalize v / 33554432 = s at *
    generalize shiL.getD f 0 = a at *
    generalize oshiL.getD f 0 = b at *
    generalize opW v = r at *
    clear h0 ho h3 hv T
    go_enter Tryd.func39, Tryd.ntmps39
    go_wp2_with (first
      | (go_at_call 38; refine (HT _).mono ?_; rintro e w' ⟨rfl, rfl⟩))
    go_quiet (first
      | (go_at_call 42; refine Calls.quiet_of_same ((H7 _).mono (fun _ _ ⟨he, hw⟩ => ⟨he, hw.symm⟩)))
      | (go_at_call 41; refine Calls.quiet_of_same ((HE _ _ _).mono (fun _ _ ⟨he, hw⟩ => ⟨he, hw.symm⟩))))
    go_wp2
    go_ret
    exact ⟨ret_int HV.out.symm, drewN_below _⟩
  · have HV := Lib.hid (opW_num ho h3 (by omega) h0)
    rw [l8_nat] at HV
    have hb : (numL.getD f 0 != 0) = true := by simpa using h0
    generalize numL.getD f 0 = a at *
    generalize opW v = r at *
    clear h0 ho h3 hv T c2 c3
    go_enter Tryd.func39, Tryd.ntmps39
    go_wp2_with (first
      | (go_at_call 38; refine (HT _).mono ?_; rintro e w' ⟨rfl, rfl⟩))
    go_ret
    exact ⟨ret_int HV.out.symm, Below.refl _ _⟩
end Go.Proofs.YtbnacdhhacafkaaDoor
/- The program's operation of a word: by opcodes, over the tables that the code lays. -/
namespace Go.Proofs.YtbnacdhhacafkaaDoor
open Go.RowKit

theorem numw_c (v : Int) (hv : U32 v) (ho : v % 128 = 27) (w : World) (T : Tab6 w) :
    Calls Tryd.prog 40 #[.int .u32 v] w fun e w' => e = .returned (.int .i64 (opW v)) ∧ Below w.heap.size w w' := by
  obtain ⟨f, h3, hf⟩ := f3_nat v
  have HT := fun w => third_c v hv w
  have H7 := fun w => seventh_c v hv w
  rw [h3] at HT
  have c1 := T.numbersWord f hf
  have c2 := T.shiftsWord f hf
  have c3 := T.otherShiftsWord f hf
  have hlt : (f : Int) < 8 := by omega
  by_cases h0 : numwL.getD f 0 = 0
  · have HV := Lib.hid (opW_shiw ho h3 hf h0)
    have HE := fun a b w => either_c (v / 33554432) a b w
    rw [h0] at c1
    generalize v / 33554432 = s at *
    generalize shiwL.getD f 0 = a at *
    generalize oshiwL.getD f 0 = b at *
    generalize opW v = r at *
    clear h0 ho h3 hv T
    go_enter Tryd.func40, Tryd.ntmps40
    go_wp2_with (first
      | (go_at_call 38; refine (HT _).mono ?_; rintro e w' ⟨rfl, rfl⟩))
    go_quiet (first
      | (go_at_call 42; refine Calls.quiet_of_same ((H7 _).mono (fun _ _ ⟨he, hw⟩ => ⟨he, hw.symm⟩)))
      | (go_at_call 41; refine Calls.quiet_of_same ((HE _ _ _).mono (fun _ _ ⟨he, hw⟩ => ⟨he, hw.symm⟩))))
    go_wp2
    go_ret
    exact ⟨ret_int HV.out.symm, drewN_below _⟩
  · have HV := Lib.hid (opW_numw ho h3 (by omega) h0)
    rw [l8_nat] at HV
    have hb : (numwL.getD f 0 != 0) = true := by simpa using h0
    generalize numwL.getD f 0 = a at *
    generalize opW v = r at *
    clear h0 ho h3 hv T c2 c3
    go_enter Tryd.func40, Tryd.ntmps40
    go_wp2_with (first
      | (go_at_call 38; refine (HT _).mono ?_; rintro e w' ⟨rfl, rfl⟩))
    go_ret
    exact ⟨ret_int HV.out.symm, Below.refl _ _⟩

theorem halt_c (v : Int) (ho : v % 128 = 115) (w : World) :
    Calls Tryd.prog 44 #[.int .u32 v] w fun e w' => e = .returned (.int .i64 (opW v)) ∧ w = w' := by
  by_cases h1 : v = 115
  · subst h1
    rw [opW_call]
    clear ho
    go_enter Tryd.func44, Tryd.ntmps44
    go_wp2
    go_ret
    exact ⟨rfl, rfl⟩
  · by_cases h2 : v = 1048691
    · subst h2
      rw [opW_brk]
      clear ho h1
      go_enter Tryd.func44, Tryd.ntmps44
      go_wp2
      go_ret
      exact ⟨rfl, rfl⟩
    · have HV := Lib.hid (opW_halt ho h1 h2)
      have b1 : (v == 115) = false := by simpa using h1
      have b2 : (v == 1048691) = false := by simpa using h2
      clear h1 h2 ho
      go_enter Tryd.func44, Tryd.ntmps44
      go_wp2
      go_ret
      exact ⟨ret_int HV.out.symm, rfl⟩

theorem fen_50 : ∀ f : Fin 8, (fenceL.getD f.val 0 = 50 ∧ f.val = 0) ∨ (fenceL.getD f.val 0 = 0 ∧ f.val ≠ 0) := by decide
theorem fence_c (v : Int) (hv : U32 v) (ho : v % 128 = 15) (w : World) (T : Tab6 w) :
    Calls Tryd.prog 43 #[.int .u32 v] w fun e w' => e = .returned (.int .i64 (opW v)) ∧ w = w' := by
  obtain ⟨f, h3, hf⟩ := f3_nat v
  have HT := fun w => third_c v hv w
  have HP := fun w => part_c v 31 20 hv w
  rw [fo_up, show v / 1048576 % 4096 = v / 1048576 by have := hv.1; have := hv.2; omega] at HP
  rw [h3] at HT
  have c1 := T.fences f hf
  have hlt : (f : Int) < 8 := by omega
  rcases fen_50 ⟨f, hf⟩ with ⟨e, e0⟩ | ⟨e, e0⟩
  · simp only at e e0
    rw [e] at c1
    by_cases h7 : v / 1048576 = 2099
    · have HV := Lib.hid (opW_tso ho (by omega) h7)
      rw [h7] at HP
      clear e e0 h7 ho h3 hv T
      go_enter Tryd.func43, Tryd.ntmps43
      go_wp2_with (first
        | (go_at_call 38; refine (HT _).mono ?_; rintro e w' ⟨rfl, rfl⟩)
        | (go_at_call 25; refine (HP _).mono ?_; rintro e w' ⟨rfl, rfl⟩))
      go_ret
      exact ⟨ret_int HV.out.symm, rfl⟩
    · have HV := Lib.hid (opW_fen ho h3 (by omega) (.inl h7))
      rw [l8_nat, e] at HV
      have b7 : (v / 1048576 == 2099) = false := by simpa using h7
      generalize v / 1048576 = x at *
      clear e e0 h7 ho h3 hv T
      go_enter Tryd.func43, Tryd.ntmps43
      go_wp2_with (first
        | (go_at_call 38; refine (HT _).mono ?_; rintro e w' ⟨rfl, rfl⟩)
        | (go_at_call 25; refine (HP _).mono ?_; rintro e w' ⟨rfl, rfl⟩))
      go_ret
      exact ⟨ret_int HV.out.symm, rfl⟩
  · simp only at e e0
    rw [e] at c1
    have HV := Lib.hid (opW_fen ho h3 (by omega) (.inr (by omega)))
    rw [l8_nat, e] at HV
    clear e e0 ho h3 hv T
    go_enter Tryd.func43, Tryd.ntmps43
    go_wp2_with (first
      | (go_at_call 38; refine (HT _).mono ?_; rintro e w' ⟨rfl, rfl⟩)
      | (go_at_call 25; refine (HP _).mono ?_; rintro e w' ⟨rfl, rfl⟩))
    go_ret
    exact ⟨ret_int HV.out.symm, rfl⟩

theorem at_sort : ∀ f : Fin 32, (f.val ≠ 2 → srt (atwL.getD f.val 0) ≠ 10 ∧ srt (atdL.getD f.val 0) ≠ 10) ∧ (-9223372036854775808 ≤ atwL.getD f.val 0 ∧ atwL.getD f.val 0 ≤ 9223372036854775807) ∧ (-9223372036854775808 ≤ atdL.getD f.val 0 ∧ atdL.getD f.val 0 ≤ 9223372036854775807) := by decide
theorem atomic_w (v : Int) (hv : U32 v) (ho : v % 128 = 47) (h3 : v / 4096 % 8 = 2) (w : World) (T : Tab6 w) :
    Calls Tryd.prog 45 #[.int .u32 v] w fun e w' => e = .returned (.int .i64 (opW v)) ∧ w = w' := by
  have HT := fun w => third_c v hv w
  rw [h3] at HT
  have H5 := fun w => part_c v 31 27 hv w
  have H2 := fun w => part_c v 24 20 hv w
  rw [fo_f5, show v / 134217728 % 32 = v / 134217728 by have := hv.1; have := hv.2; omega] at H5
  rw [fo_r2] at H2
  obtain ⟨f, h5, hf⟩ : ∃ f : Nat, v / 134217728 = (f : Int) ∧ f < 32 := ⟨(v / 134217728).toNat, by have := hv.1; omega, by have := hv.2; omega⟩
  rw [h5] at H5
  have c1 := T.atomicsWord f hf
  have hlt : (f : Int) < 32 := by omega
  have hs := at_sort ⟨f, hf⟩
  simp only at hs
  by_cases h2 : f = 2
  · subst h2
    have HS := sort_c 54 ⟨by decide, by decide⟩ w T.lasts
    rw [show srt 54 = 10 by decide] at HS
    rw [show atwL.getD 2 0 = 54 by decide] at c1
    by_cases hr : v / 1048576 % 32 = 0
    · have HV := Lib.hid ((opW_lr ho h5 hr).1 h3)
      rw [hr] at H2
      clear hr hs ho h3 hv T h5
      go_enter Tryd.func45, Tryd.ntmps45
      go_wp2_with (first
        | (go_at_call 38; refine (HT _).mono ?_; rintro e w' ⟨rfl, rfl⟩)
        | (go_at_call 25; ((with_reducible refine (H5 _).mono ?_); rintro e w' ⟨rfl, rfl⟩))
        | (go_at_call 25; ((with_reducible refine (H2 _).mono ?_); rintro e w' ⟨rfl, rfl⟩))
        | (go_at_call 20; refine HS.mono ?_; rintro e w' ⟨rfl, rfl⟩))
      go_ret
      exact ⟨ret_int HV.out.symm, rfl⟩
    · have HV := Lib.hid (opW_lrx ho h5 hr)
      have br : (v / 1048576 % 32 != 0) = true := by simpa using hr
      generalize v / 1048576 % 32 = r2 at *
      clear hr hs ho h3 hv T h5
      go_enter Tryd.func45, Tryd.ntmps45
      go_wp2_with (first
        | (go_at_call 38; refine (HT _).mono ?_; rintro e w' ⟨rfl, rfl⟩)
        | (go_at_call 25; ((with_reducible refine (H5 _).mono ?_); rintro e w' ⟨rfl, rfl⟩))
        | (go_at_call 25; ((with_reducible refine (H2 _).mono ?_); rintro e w' ⟨rfl, rfl⟩))
        | (go_at_call 20; refine HS.mono ?_; rintro e w' ⟨rfl, rfl⟩))
      go_ret
      exact ⟨ret_int HV.out.symm, rfl⟩
  · have HV := Lib.hid (opW_atw ho h3 h5 (by omega) (by omega))
    rw [l8_nat] at HV
    have HS := sort_c (atwL.getD f 0) ⟨by exact hs.2.1.1, by exact hs.2.1.2⟩ w T.lasts
    have bs : (srt (atwL.getD f 0) == 10) = false := by simpa using (hs.1 h2).1
    generalize atwL.getD f 0 = a at *
    generalize srt a = k at *
    clear h2 hs ho h3 hv T h5
    go_enter Tryd.func45, Tryd.ntmps45
    go_wp2_with (first
      | (go_at_call 38; refine (HT _).mono ?_; rintro e w' ⟨rfl, rfl⟩)
      | (go_at_call 25; ((with_reducible refine (H5 _).mono ?_); rintro e w' ⟨rfl, rfl⟩))
      | (go_at_call 20; refine HS.mono ?_; rintro e w' ⟨rfl, rfl⟩))
    go_ret
    exact ⟨ret_int HV.out.symm, rfl⟩
theorem atomic_d (v : Int) (hv : U32 v) (ho : v % 128 = 47) (h3 : v / 4096 % 8 = 3) (w : World) (T : Tab6 w) :
    Calls Tryd.prog 45 #[.int .u32 v] w fun e w' => e = .returned (.int .i64 (opW v)) ∧ w = w' := by
  have HT := fun w => third_c v hv w
  rw [h3] at HT
  have H5 := fun w => part_c v 31 27 hv w
  have H2 := fun w => part_c v 24 20 hv w
  rw [fo_f5, show v / 134217728 % 32 = v / 134217728 by have := hv.1; have := hv.2; omega] at H5
  rw [fo_r2] at H2
  obtain ⟨f, h5, hf⟩ : ∃ f : Nat, v / 134217728 = (f : Int) ∧ f < 32 := ⟨(v / 134217728).toNat, by have := hv.1; omega, by have := hv.2; omega⟩
  rw [h5] at H5
  have c1 := T.atomicsDouble f hf
  have hlt : (f : Int) < 32 := by omega
  have hs := at_sort ⟨f, hf⟩
  simp only at hs
  by_cases h2 : f = 2
  · subst h2
    have HS := sort_c 55 ⟨by decide, by decide⟩ w T.lasts
    rw [show srt 55 = 10 by decide] at HS
    rw [show atdL.getD 2 0 = 55 by decide] at c1
    by_cases hr : v / 1048576 % 32 = 0
    · have HV := Lib.hid ((opW_lr ho h5 hr).2 h3)
      rw [hr] at H2
      clear hr hs ho h3 hv T h5
      go_enter Tryd.func45, Tryd.ntmps45
      go_wp2_with (first
        | (go_at_call 38; refine (HT _).mono ?_; rintro e w' ⟨rfl, rfl⟩)
        | (go_at_call 25; ((with_reducible refine (H5 _).mono ?_); rintro e w' ⟨rfl, rfl⟩))
        | (go_at_call 25; ((with_reducible refine (H2 _).mono ?_); rintro e w' ⟨rfl, rfl⟩))
        | (go_at_call 20; refine HS.mono ?_; rintro e w' ⟨rfl, rfl⟩))
      go_ret
      exact ⟨ret_int HV.out.symm, rfl⟩
    · have HV := Lib.hid (opW_lrx ho h5 hr)
      have br : (v / 1048576 % 32 != 0) = true := by simpa using hr
      generalize v / 1048576 % 32 = r2 at *
      clear hr hs ho h3 hv T h5
      go_enter Tryd.func45, Tryd.ntmps45
      go_wp2_with (first
        | (go_at_call 38; refine (HT _).mono ?_; rintro e w' ⟨rfl, rfl⟩)
        | (go_at_call 25; ((with_reducible refine (H5 _).mono ?_); rintro e w' ⟨rfl, rfl⟩))
        | (go_at_call 25; ((with_reducible refine (H2 _).mono ?_); rintro e w' ⟨rfl, rfl⟩))
        | (go_at_call 20; refine HS.mono ?_; rintro e w' ⟨rfl, rfl⟩))
      go_ret
      exact ⟨ret_int HV.out.symm, rfl⟩
  · have HV := Lib.hid (opW_atd ho h3 h5 (by omega) (by omega))
    rw [l8_nat] at HV
    have HS := sort_c (atdL.getD f 0) ⟨by exact hs.2.2.1, by exact hs.2.2.2⟩ w T.lasts
    have bs : (srt (atdL.getD f 0) == 10) = false := by simpa using (hs.1 h2).2
    generalize atdL.getD f 0 = a at *
    generalize srt a = k at *
    clear h2 hs ho h3 hv T h5
    go_enter Tryd.func45, Tryd.ntmps45
    go_wp2_with (first
      | (go_at_call 38; refine (HT _).mono ?_; rintro e w' ⟨rfl, rfl⟩)
      | (go_at_call 25; ((with_reducible refine (H5 _).mono ?_); rintro e w' ⟨rfl, rfl⟩))
      | (go_at_call 20; refine HS.mono ?_; rintro e w' ⟨rfl, rfl⟩))
    go_ret
    exact ⟨ret_int HV.out.symm, rfl⟩
theorem atomic_c (v : Int) (hv : U32 v) (ho : v % 128 = 47) (w : World) (T : Tab6 w) :
    Calls Tryd.prog 45 #[.int .u32 v] w fun e w' => e = .returned (.int .i64 (opW v)) ∧ w = w' := by
  by_cases h2 : v / 4096 % 8 = 2
  · exact atomic_w v hv ho h2 w T
  by_cases h3 : v / 4096 % 8 = 3
  · exact atomic_d v hv ho h3 w T
  have HV := Lib.hid (opW_atx ho rfl (f3_lt v) h2 h3)
  have HT := fun w => third_c v hv w
  have H5 := fun w => part_c v 31 27 hv w
  have HS := sort_c 0 ⟨by decide, by decide⟩ w T.lasts
  rw [show srt 0 = 0 by decide] at HS
  have b2 : (v / 4096 % 8 == 2) = false := by simpa using h2
  have b3 : (v / 4096 % 8 == 3) = false := by simpa using h3
  generalize v / 4096 % 8 = f at *
  generalize fieldOf v 31 27 = x at *
  clear h2 h3 ho hv T
  go_enter Tryd.func45, Tryd.ntmps45
  go_wp2_with (first
    | (go_at_call 38; refine (HT _).mono ?_; rintro e w' ⟨rfl, rfl⟩)
    | (go_at_call 25; refine (H5 _).mono ?_; rintro e w' ⟨rfl, rfl⟩)
    | (go_at_call 20; refine HS.mono ?_; rintro e w' ⟨rfl, rfl⟩))
  go_ret
  exact ⟨ret_int HV.out.symm, rfl⟩
end Go.Proofs.YtbnacdhhacafkaaDoor
/- The program's operation, Opcode, format and immediate, over the tables that the code lays. -/
namespace Go.Proofs.YtbnacdhhacafkaaDoor
open Go.RowKit

theorem operation_c (v : Int) (hv : U32 v) (w : World) (T : Tab6 w) :
    Calls Tryd.prog 24 #[.int .u32 v] w fun e w' => e = .returned (.int .i64 (opW v)) ∧ Below w.heap.size w w' := by
  obtain ⟨f, h3, hf⟩ := f3_nat v
  have HT := fun w => third_c v hv w
  rw [h3] at HT
  have H7 := fun w => seventh_c v hv w
  have HO := fun w => opcode_c0 v hv w
  have hlt : (f : Int) < 8 := by omega
  by_cases q55 : v % 128 = 55
  · have HV := Lib.hid (opW_up.1 q55)
    rw [q55] at HO
    generalize opW v = r at *
    clear h3 hv T H7 q55
    go_enter Tryd.func24, Tryd.ntmps24
    go_wp2_with (first
      | (go_at_call 38; refine (HT _).mono ?_; rintro e w' ⟨rfl, rfl⟩)
      | (go_at_call 27; refine (HO _).mono ?_; rintro e w' ⟨rfl, rfl⟩))
    go_ret
    exact ⟨ret_int HV.out.symm, Below.refl _ _⟩
  by_cases q23 : v % 128 = 23
  · have HV := Lib.hid (opW_up.2.1 q23)
    rw [q23] at HO
    generalize opW v = r at *
    clear h3 hv T H7 q23
    go_enter Tryd.func24, Tryd.ntmps24
    go_wp2_with (first
      | (go_at_call 38; refine (HT _).mono ?_; rintro e w' ⟨rfl, rfl⟩)
      | (go_at_call 27; refine (HO _).mono ?_; rintro e w' ⟨rfl, rfl⟩))
    go_ret
    exact ⟨ret_int HV.out.symm, Below.refl _ _⟩
  by_cases q111 : v % 128 = 111
  · have HV := Lib.hid (opW_up.2.2 q111)
    rw [q111] at HO
    generalize opW v = r at *
    clear h3 hv T H7 q111
    go_enter Tryd.func24, Tryd.ntmps24
    go_wp2_with (first
      | (go_at_call 38; refine (HT _).mono ?_; rintro e w' ⟨rfl, rfl⟩)
      | (go_at_call 27; refine (HO _).mono ?_; rintro e w' ⟨rfl, rfl⟩))
    go_ret
    exact ⟨ret_int HV.out.symm, Below.refl _ _⟩
  by_cases q103 : v % 128 = 103
  · have HV := Lib.hid (opW_jalr q103 h3 (by omega))
    rw [l8_nat] at HV
    rw [q103] at HO
    have c1 := T.jalrs f hf
    generalize jalrL.getD f 0 = a at *
    generalize opW v = r at *
    clear h3 hv T H7 q103
    go_enter Tryd.func24, Tryd.ntmps24
    go_wp2_with (first
      | (go_at_call 38; refine (HT _).mono ?_; rintro e w' ⟨rfl, rfl⟩)
      | (go_at_call 27; refine (HO _).mono ?_; rintro e w' ⟨rfl, rfl⟩))
    go_ret
    exact ⟨ret_int HV.out.symm, Below.refl _ _⟩
  by_cases q99 : v % 128 = 99
  · have HV := Lib.hid (opW_branch q99 h3 (by omega))
    rw [l8_nat] at HV
    rw [q99] at HO
    have c1 := T.branches f hf
    generalize branchL.getD f 0 = a at *
    generalize opW v = r at *
    clear h3 hv T H7 q99
    go_enter Tryd.func24, Tryd.ntmps24
    go_wp2_with (first
      | (go_at_call 38; refine (HT _).mono ?_; rintro e w' ⟨rfl, rfl⟩)
      | (go_at_call 27; refine (HO _).mono ?_; rintro e w' ⟨rfl, rfl⟩))
    go_ret
    exact ⟨ret_int HV.out.symm, Below.refl _ _⟩
  by_cases q3 : v % 128 = 3
  · have HV := Lib.hid (opW_load q3 h3 (by omega))
    rw [l8_nat] at HV
    rw [q3] at HO
    have c1 := T.loads f hf
    generalize loadL.getD f 0 = a at *
    generalize opW v = r at *
    clear h3 hv T H7 q3
    go_enter Tryd.func24, Tryd.ntmps24
    go_wp2_with (first
      | (go_at_call 38; refine (HT _).mono ?_; rintro e w' ⟨rfl, rfl⟩)
      | (go_at_call 27; refine (HO _).mono ?_; rintro e w' ⟨rfl, rfl⟩))
    go_ret
    exact ⟨ret_int HV.out.symm, Below.refl _ _⟩
  by_cases q35 : v % 128 = 35
  · have HV := Lib.hid (opW_store q35 h3 (by omega))
    rw [l8_nat] at HV
    rw [q35] at HO
    have c1 := T.stores f hf
    generalize storeL.getD f 0 = a at *
    generalize opW v = r at *
    clear h3 hv T H7 q35
    go_enter Tryd.func24, Tryd.ntmps24
    go_wp2_with (first
      | (go_at_call 38; refine (HT _).mono ?_; rintro e w' ⟨rfl, rfl⟩)
      | (go_at_call 27; refine (HO _).mono ?_; rintro e w' ⟨rfl, rfl⟩))
    go_ret
    exact ⟨ret_int HV.out.symm, Below.refl _ _⟩
  by_cases q19 : v % 128 = 19
  · have HN := number_c v hv q19 w T
    rw [q19] at HO
    generalize opW v = r at *
    clear h3 hv T H7 q19
    go_enter Tryd.func24, Tryd.ntmps24
    go_wp2_with (first
      | (go_at_call 38; refine (HT _).mono ?_; rintro e w' ⟨rfl, rfl⟩)
      | (go_at_call 27; refine (HO _).mono ?_; rintro e w' ⟨rfl, rfl⟩)
      | (go_at_call 39; refine HN.mono ?_; rintro e w' ⟨rfl, hb⟩))
    go_ret
    exact ⟨rfl, hb⟩
  by_cases q27 : v % 128 = 27
  · have HN := numw_c v hv q27 w T
    rw [q27] at HO
    generalize opW v = r at *
    clear h3 hv T H7 q27
    go_enter Tryd.func24, Tryd.ntmps24
    go_wp2_with (first
      | (go_at_call 38; refine (HT _).mono ?_; rintro e w' ⟨rfl, rfl⟩)
      | (go_at_call 27; refine (HO _).mono ?_; rintro e w' ⟨rfl, rfl⟩)
      | (go_at_call 40; refine HN.mono ?_; rintro e w' ⟨rfl, hb⟩))
    go_ret
    exact ⟨rfl, hb⟩
  by_cases q15 : v % 128 = 15
  · have HN := fence_c v hv q15 w T
    rw [q15] at HO
    generalize opW v = r at *
    clear h3 hv T H7 q15
    go_enter Tryd.func24, Tryd.ntmps24
    go_wp2_with (first
      | (go_at_call 38; refine (HT _).mono ?_; rintro e w' ⟨rfl, rfl⟩)
      | (go_at_call 27; refine (HO _).mono ?_; rintro e w' ⟨rfl, rfl⟩)
      | (go_at_call 43; refine HN.mono ?_; rintro e w' ⟨rfl, rfl⟩))
    go_ret
    exact ⟨rfl, Below.refl _ _⟩
  by_cases q115 : v % 128 = 115
  · have HN := halt_c v q115 w
    rw [q115] at HO
    generalize opW v = r at *
    clear h3 hv T H7 q115
    go_enter Tryd.func24, Tryd.ntmps24
    go_wp2_with (first
      | (go_at_call 38; refine (HT _).mono ?_; rintro e w' ⟨rfl, rfl⟩)
      | (go_at_call 27; refine (HO _).mono ?_; rintro e w' ⟨rfl, rfl⟩)
      | (go_at_call 44; refine HN.mono ?_; rintro e w' ⟨rfl, rfl⟩))
    go_ret
    exact ⟨rfl, Below.refl _ _⟩
  by_cases q47 : v % 128 = 47
  · have HN := atomic_c v hv q47 w T
    rw [q47] at HO
    generalize opW v = r at *
    clear h3 hv T H7 q47
    go_enter Tryd.func24, Tryd.ntmps24
    go_wp2_with (first
      | (go_at_call 38; refine (HT _).mono ?_; rintro e w' ⟨rfl, rfl⟩)
      | (go_at_call 27; refine (HO _).mono ?_; rintro e w' ⟨rfl, rfl⟩)
      | (go_at_call 45; refine HN.mono ?_; rintro e w' ⟨rfl, rfl⟩))
    go_ret
    exact ⟨rfl, Below.refl _ _⟩
  by_cases q51 : v % 128 = 51
  · have HV := Lib.hid (opW_pair q51 h3 hf)
    have HE := fun a b w => either_c (v / 33554432) a b w
    rw [q51] at HO
    have c1 := T.pairs f hf
    have c2 := T.otherPairs f hf
    generalize v / 33554432 = s at *
    generalize pairL.getD f 0 = a at *
    generalize opairL.getD f 0 = b at *
    generalize opW v = r at *
    clear h3 hv T q51
    go_enter Tryd.func24, Tryd.ntmps24
    go_wp2_with (first
      | (go_at_call 38; refine (HT _).mono ?_; rintro e w' ⟨rfl, rfl⟩)
      | (go_at_call 27; refine (HO _).mono ?_; rintro e w' ⟨rfl, rfl⟩))
    go_quiet (first
      | (go_at_call 42; refine Calls.quiet_of_same ((H7 _).mono (fun _ _ ⟨he, hw⟩ => ⟨he, hw.symm⟩)))
      | (go_at_call 41; refine Calls.quiet_of_same ((HE _ _ _).mono (fun _ _ ⟨he, hw⟩ => ⟨he, hw.symm⟩))))
    go_wp2
    go_ret
    exact ⟨ret_int HV.out.symm, drewN_below _⟩
  by_cases q59 : v % 128 = 59
  · have HV := Lib.hid (opW_pairw q59 h3 hf)
    have HE := fun a b w => either_c (v / 33554432) a b w
    rw [q59] at HO
    have c1 := T.pairsWord f hf
    have c2 := T.otherPairsWord f hf
    generalize v / 33554432 = s at *
    generalize pairwL.getD f 0 = a at *
    generalize opairwL.getD f 0 = b at *
    generalize opW v = r at *
    clear h3 hv T q59
    go_enter Tryd.func24, Tryd.ntmps24
    go_wp2_with (first
      | (go_at_call 38; refine (HT _).mono ?_; rintro e w' ⟨rfl, rfl⟩)
      | (go_at_call 27; refine (HO _).mono ?_; rintro e w' ⟨rfl, rfl⟩))
    go_quiet (first
      | (go_at_call 42; refine Calls.quiet_of_same ((H7 _).mono (fun _ _ ⟨he, hw⟩ => ⟨he, hw.symm⟩)))
      | (go_at_call 41; refine Calls.quiet_of_same ((HE _ _ _).mono (fun _ _ ⟨he, hw⟩ => ⟨he, hw.symm⟩))))
    go_wp2
    go_ret
    exact ⟨ret_int HV.out.symm, drewN_below _⟩
  have HV := Lib.hid (opW_noc (v := v) (by simp only [ocs, List.mem_cons, List.not_mem_nil, or_false]; omega))
  have b55 : (v % 128 == 55) = false := by simpa using q55
  have b23 : (v % 128 == 23) = false := by simpa using q23
  have b111 : (v % 128 == 111) = false := by simpa using q111
  have b103 : (v % 128 == 103) = false := by simpa using q103
  have b99 : (v % 128 == 99) = false := by simpa using q99
  have b3 : (v % 128 == 3) = false := by simpa using q3
  have b35 : (v % 128 == 35) = false := by simpa using q35
  have b19 : (v % 128 == 19) = false := by simpa using q19
  have b27 : (v % 128 == 27) = false := by simpa using q27
  have b15 : (v % 128 == 15) = false := by simpa using q15
  have b115 : (v % 128 == 115) = false := by simpa using q115
  have b47 : (v % 128 == 47) = false := by simpa using q47
  have b51 : (v % 128 == 51) = false := by simpa using q51
  have b59 : (v % 128 == 59) = false := by simpa using q59
  generalize v % 128 = q at *
  clear h3 hv T H7 q55 q23 q111 q103 q99 q3 q35 q19 q27 q15 q115 q47 q51 q59
  go_enter Tryd.func24, Tryd.ntmps24
  go_wp2_with (first
    | (go_at_call 38; refine (HT _).mono ?_; rintro e w' ⟨rfl, rfl⟩)
    | (go_at_call 27; refine (HO _).mono ?_; rintro e w' ⟨rfl, rfl⟩))
  go_ret
  exact ⟨ret_int HV.out.symm, Below.refl _ _⟩

/-- The format of an opcode's immediates. -/
def frm (q : Int) : Int := if q = 55 ∨ q = 23 then 4 else if q = 111 then 5 else if q = 103 ∨ q = 3 ∨ q = 19 ∨ q = 27 then 1 else if q = 99 then 3 else if q = 35 then 2 else 0
theorem format_c (q : Int) (w : World) :
    Calls Tryd.prog 48 #[.int .u32 q] w fun e w' => e = .returned (.int .i64 (frm q)) ∧ w = w' := by
  have hc : (q = 55 ∨ q = 23 ∨ q = 111 ∨ q = 103 ∨ q = 3 ∨ q = 19 ∨ q = 27 ∨ q = 99 ∨ q = 35) ∨ (q ≠ 55 ∧ q ≠ 23 ∧ q ≠ 111 ∧ q ≠ 103 ∧ q ≠ 3 ∧ q ≠ 19 ∧ q ≠ 27 ∧ q ≠ 99 ∧ q ≠ 35) := by omega
  rcases hc with hc | ⟨n1, n2, n3, n4, n5, n6, n7, n8, n9⟩
  · rcases hc with rfl | rfl | rfl | rfl | rfl | rfl | rfl | rfl | rfl
    all_goals
      go_enter Tryd.func48, Tryd.ntmps48
      go_wp2
      go_ret
      exact ⟨rfl, rfl⟩
  · have HV : Hid (frm q = 0) := by show _ = _; unfold frm; simp [n1, n2, n3, n4, n5, n6, n7, n8, n9]
    have b1 : (q == 55) = false := by simpa using n1
    have b2 : (q == 23) = false := by simpa using n2
    have b3 : (q == 111) = false := by simpa using n3
    have b4 : (q == 103) = false := by simpa using n4
    have b5 : (q == 3) = false := by simpa using n5
    have b6 : (q == 19) = false := by simpa using n6
    have b7 : (q == 27) = false := by simpa using n7
    have b8 : (q == 99) = false := by simpa using n8
    have b9 : (q == 35) = false := by simpa using n9
    clear n1 n2 n3 n4 n5 n6 n7 n8 n9
    go_enter Tryd.func48, Tryd.ntmps48
    go_wp2
    go_ret
    exact ⟨ret_int HV.out.symm, rfl⟩
theorem frm_fm : ∀ k : Fin 75, shV ((k.val : Int) + 1) = 0 → frm (ocV ((k.val : Int) + 1)) = fmV ((k.val : Int) + 1) := by decide
theorem sh_six : ∀ k : Fin 75, (shV ((k.val : Int) + 1) = 6 ∧ ((k.val : Int) + 1 = 28 ∨ (k.val : Int) + 1 = 29 ∨ (k.val : Int) + 1 = 30)) ∨ (shV ((k.val : Int) + 1) = 5 ∧ ((k.val : Int) + 1 = 32 ∨ (k.val : Int) + 1 = 33 ∨ (k.val : Int) + 1 = 34)) ∨
    (shV ((k.val : Int) + 1) = 0 ∧ (k.val : Int) + 1 ≠ 28 ∧ (k.val : Int) + 1 ≠ 29 ∧ (k.val : Int) + 1 ≠ 30 ∧ (k.val : Int) + 1 ≠ 32 ∧ (k.val : Int) + 1 ≠ 33 ∧ (k.val : Int) + 1 ≠ 34) := by decide
def immV (v op : Int) : Int := if 0 < fmV op then getK (fmV op) v 32 else if shV op = 6 then v / 1048576 % 64 else if shV op = 5 then v / 1048576 % 32 else 0
theorem fm_range : ∀ k : Fin 75, 0 ≤ fmV ((k.val : Int) + 1) ∧ (shV ((k.val : Int) + 1) ≠ 0 → fmV ((k.val : Int) + 1) = 0) := by decide
theorem getK_zero (v : Int) : getK 0 v 32 = 0 := getK_no (by omega) v
theorem imm_c (op v : Int) (hv : U32 v) (h1 : 1 ≤ op ∧ op ≤ 75) (ho : v % 128 = ocV op) (w : World) (T : Tab6 w) :
    Calls Tryd.prog 26 #[.int .i64 op, .int .u32 v] w fun e w' => e = .returned (.int .i64 (immV v op)) ∧ Below w.heap.size w w' := by
  obtain ⟨k, hk⟩ : ∃ k : Fin 75, op = (k.val : Int) + 1 := ⟨⟨op.toNat - 1, by omega⟩, by show op = ((op.toNat - 1 : Nat) : Int) + 1; omega⟩
  have hs := sh_six k
  have hf := fm_range k
  have hq := frm_fm k
  rw [← hk] at hs hf hq
  rcases hs with ⟨hs, hc⟩ | ⟨hs, hc⟩ | ⟨hs, n1, n2, n3, n4, n5, n6⟩
  · have HP := fun w => part_c v 25 20 hv w
    rw [fo_s6] at HP
    have HV : Hid (immV v op = v / 1048576 % 64) := by show _ = _; unfold immV; rw [if_neg (by have := hf.2 (by omega); omega), if_pos hs]
    have HR : Hid (0 ≤ v / 1048576 % 64 ∧ v / 1048576 % 64 < 64) := by show _ ∧ _; omega
    generalize immV v op = r at *
    generalize v / 1048576 % 64 = x at *
    clear hs hf hq hk h1 ho T hv
    rcases hc with rfl | rfl | rfl
    all_goals
      go_enter Tryd.func26, Tryd.ntmps26
      go_wp2_with (first
        | (go_at_call 25; refine (HP _).mono ?_; rintro e w' ⟨rfl, rfl⟩))
      go_ret
      exact ⟨ret_int HV.out.symm, Below.refl _ _⟩
  · have HP := fun w => part_c v 24 20 hv w
    rw [fo_r2] at HP
    have HV : Hid (immV v op = v / 1048576 % 32) := by show _ = _; unfold immV; rw [if_neg (by have := hf.2 (by omega); omega), if_neg (by omega), if_pos hs]
    generalize immV v op = r at *
    generalize v / 1048576 % 32 = x at *
    clear hs hf hq hk h1 ho T hv
    rcases hc with rfl | rfl | rfl
    all_goals
      go_enter Tryd.func26, Tryd.ntmps26
      go_wp2_with (first
        | (go_at_call 25; refine (HP _).mono ?_; rintro e w' ⟨rfl, rfl⟩))
      go_ret
      exact ⟨ret_int HV.out.symm, Below.refl _ _⟩
  · have HV : Hid (immV v op = getK (fmV op) v 32) := by
      show _ = _
      unfold immV
      by_cases hz : 0 < fmV op
      · rw [if_pos hz]
      · rw [if_neg hz, if_neg (by omega), if_neg (by omega), show fmV op = 0 by omega, getK_zero]
    have HO := fun w => opcode_c0 v hv w
    have HF := fun w => format_c (v % 128) w
    rw [ho] at HO HF
    rw [hq hs] at HF
    have HG := get_c (fmV op) v hv.1 hv.2 w T.lay
    have b1 : (op == 28) = false := by simpa using n1
    have b2 : (op == 29) = false := by simpa using n2
    have b3 : (op == 30) = false := by simpa using n3
    have b4 : (op == 32) = false := by simpa using n4
    have b5 : (op == 33) = false := by simpa using n5
    have b6 : (op == 34) = false := by simpa using n6
    generalize immV v op = r at *
    generalize getK (fmV op) v 32 = x at *
    generalize fmV op = g at *
    generalize ocV op = q at *
    clear hs hf hq hk h1 ho T n1 n2 n3 n4 n5 n6 hv
    go_enter Tryd.func26, Tryd.ntmps26
    go_wp2_with (first
      | (go_at_call 27; refine (HO _).mono ?_; rintro e w' ⟨rfl, rfl⟩)
      | (go_at_call 48; refine (HF _).mono ?_; rintro e w' ⟨rfl, rfl⟩)
      | (go_at_call 47; refine HG.mono ?_; rintro e w' ⟨rfl, hb⟩))
    go_ret
    exact ⟨ret_int HV.out.symm, hb⟩

theorem oc_cases : ∀ k : Fin 75, ((k.val : Int) + 1 = 1 ∨ (k.val : Int) + 1 = 2 ∨ (k.val : Int) + 1 = 3 ∨ (k.val : Int) + 1 = 4 ∨ (k.val : Int) + 1 = 31 ∨ (k.val : Int) + 1 = 32 ∨ (k.val : Int) + 1 = 33 ∨ (k.val : Int) + 1 = 34 ∨ (k.val : Int) + 1 = 45 ∨ (k.val : Int) + 1 = 46 ∨ (k.val : Int) + 1 = 47 ∨ (k.val : Int) + 1 = 48 ∨ (k.val : Int) + 1 = 49) ∨ soL.getD (srt ((k.val : Int) + 1)).toNat 0 = ocV ((k.val : Int) + 1) := by decide
theorem opcode_c (op : Int) (ho : I64 op) (w : World) (T : Tab6 w) :
    Calls Tryd.prog 10 #[.int .i64 op] w fun e w' => e = .returned (.int .u32 (ocV op)) ∧ w = w' := by
  have hc : (op = 1 ∨ op = 2 ∨ op = 3 ∨ op = 4 ∨ op = 31 ∨ op = 32 ∨ op = 33 ∨ op = 34 ∨ op = 45 ∨ op = 46 ∨ op = 47 ∨ op = 48 ∨ op = 49) ∨ ((op ≠ 1 ∧ op ≠ 2 ∧ op ≠ 3 ∧ op ≠ 4 ∧ op ≠ 31 ∧ op ≠ 32 ∧ op ≠ 33 ∧ op ≠ 34 ∧ op ≠ 45 ∧ op ≠ 46 ∧ op ≠ 47 ∧ op ≠ 48 ∧ op ≠ 49) ∧ soL.getD (srt op).toNat 0 = ocV op) := by
    by_cases hr : 1 ≤ op ∧ op ≤ 75
    · have := oc_cases ⟨op.toNat - 1, by omega⟩
      simp only [show ((op.toNat - 1 : Nat) : Int) + 1 = op by omega] at this
      rcases this with h | h
      · exact .inl h
      · by_cases hn : (op = 1 ∨ op = 2 ∨ op = 3 ∨ op = 4 ∨ op = 31 ∨ op = 32 ∨ op = 33 ∨ op = 34 ∨ op = 45 ∨ op = 46 ∨ op = 47 ∨ op = 48 ∨ op = 49)
        · exact .inl hn
        · exact .inr ⟨by omega, h⟩
    · refine .inr ⟨by omega, ?_⟩
      rw [show srt op = 0 by have := srt_spec op; omega]
      unfold ocV tabI
      rw [if_neg hr]
      rfl
  rcases hc with hc | ⟨⟨n1, n2, n3, n4, n5, n6, n7, n8, n9, n10, n11, n12, n13⟩, he⟩
  · rcases hc with rfl | rfl | rfl | rfl | rfl | rfl | rfl | rfl | rfl | rfl | rfl | rfl | rfl
    all_goals
      clear T ho
      go_enter Tryd.func10, Tryd.ntmps10
      go_wp2
      go_ret
      exact ⟨ret_int (by decide), rfl⟩
  · have HS := sort_c op ho w T.lasts
    have hk := srt_range op
    obtain ⟨s, hs⟩ : ∃ s : Nat, srt op = (s : Int) := ⟨(srt op).toNat, by omega⟩
    rw [hs] at HS he hk
    rw [Int.toNat_natCast] at he
    have c1 := T.sorts s (by show s < 13; omega)
    rw [he] at c1
    have hlt : (s : Int) < 13 := by omega
    have hltn : s < 13 := by omega
    generalize ocV op = r at *
    have b1 : (op == 1) = false := by simpa using n1
    have b2 : (op == 2) = false := by simpa using n2
    have b3 : (op == 3) = false := by simpa using n3
    have b4 : (op == 4) = false := by simpa using n4
    have b5 : (op == 31) = false := by simpa using n5
    have b6 : (op == 32) = false := by simpa using n6
    have b7 : (op == 33) = false := by simpa using n7
    have b8 : (op == 34) = false := by simpa using n8
    have b9 : (op == 45) = false := by simpa using n9
    have b10 : (op == 46) = false := by simpa using n10
    have b11 : (op == 47) = false := by simpa using n11
    have b12 : (op == 48) = false := by simpa using n12
    have b13 : (op == 49) = false := by simpa using n13
    clear n1 n2 n3 n4 n5 n6 n7 n8 n9 n10 n11 n12 n13 T ho he hs hk hltn
    go_enter Tryd.func10, Tryd.ntmps10
    go_wp2_with (first
      | (go_at_call 20; refine HS.mono ?_; rintro e w' ⟨rfl, rfl⟩))
    go_ret
    exact ⟨rfl, rfl⟩
end Go.Proofs.YtbnacdhhacafkaaDoor
/- The program's Clean, over package ops. -/
namespace Go.Proofs.YtbnacdhhacafkaaDoor
open Go.RowKit

/-- A place of x in the list, or something below 0. -/
def GotIx (l : List Int) (x : Int) (w : World) (e : Ending) (w' : World) : Prop := ∃ r : Int, e = .returned (.int .i64 r) ∧ (0 ≤ r ↔ x ∈ l) ∧ w = w'
theorem index_c (A : Option Addr) (cap : Nat) (l : List Int) (x : Int) (w : World) (hl : l.length ≤ 9223372036854775807) (hr : Rd w w.heap.size A (cellsI l)) :
    Calls Tryd.prog 37 #[.slice A l.length cap, .int .i64 x] w (GotIx l x w) := by
  go_enter Tryd.func37, Tryd.ntmps37
  go_wp2
  go_loop [8] (fun i => ∃ k : Nat, k ≤ l.length ∧ i = .int .i64 k ∧ Hid (x ∉ l.take k)) (fun i => l.length - (intOf i).toNat)
  case atStart => exact ⟨0, by omega, rfl, by show _ ∉ _; simp⟩
  case round =>
    obtain ⟨k, hk, rfl, HT⟩ := hrel
    by_cases hlt : k < l.length
    · obtain ⟨b, off, rfl, _, hc⟩ := hr.at (i := k) (by unfold cellsI; rw [List.length_map]; exact hlt)
      simp only [cellsI, List.getElem_map] at hc
      have hltI : (k : Int) < l.length := by omega
      by_cases he : x = l[k]
      · have HM : Hid (x ∈ l) := by show _ ∈ _; rw [he]; exact List.getElem_mem hlt
        have hb : (x == l[k]) = true := by simpa using he
        generalize l[k] = y at *
        clear he
        go_wp2
        go_ret
        exact ⟨k, rfl, ⟨fun _ => HM.out, fun _ => by omega⟩, rfl⟩
      · have HV : Hid (x ∉ l.take (k + 1)) := by
          show _ ∉ _
          rw [List.take_succ_eq_append_getElem hlt, List.mem_append, List.mem_singleton]
          exact fun h => h.elim HT.out he
        have hb : (x == l[k]) = false := by simpa using he
        generalize l[k] = y at *
        clear he
        go_wp2
        go_round
        case rel => exact ⟨k + 1, by omega, by go_num, HV⟩
        case measure => simp [intOf]; omega
    · have HV : Hid (x ∉ l) := by
        have := HT.out
        rw [List.take_of_length_le (by omega)] at this
        exact this
      go_wp2
      go_ret
      exact ⟨-1, rfl, ⟨fun h => absurd h (by decide), fun h => absurd h HV.out⟩, rfl⟩
theorem contains_c (A : Option Addr) (cap n : Nat) (l : List Int) (x : Int) (w : World) (hn : l.length = n) (hl : n ≤ 9223372036854775807) (hr : Rd w w.heap.size A (cellsI l)) :
    Calls Tryd.prog 23 #[.slice A n cap, .int .i64 x] w fun e w' => e = .returned (.bool (decide (x ∈ l))) ∧ w = w' := by
  subst hn
  have HI := index_c A cap l x w hl hr
  generalize l.length = n at *
  clear hr
  go_enter Tryd.func23, Tryd.ntmps23
  go_wp2_with (first
    | (go_at_call 37; refine HI.mono ?_; rintro e w' ⟨r, rfl, hm, rfl⟩; have HM := Lib.hid hm; clear hm))
  go_ret
  exact ⟨ret_bool (by rw [Bool.eq_iff_iff]; simpa using HM.out), rfl⟩

/-- What Clean asks package ops with. -/
def askI (op : Int) : Ins := ⟨op, 1, 2, 3, 0, false, false, 0, 0⟩
def askL (op : Int) : List Int := (if firB op then [2] else []) ++ (if secB op then [3] else [])
theorem ask_srcs (op : Int) : srcs (askI op) = askL op := by
  unfold srcs askI askL
  simp
theorem ask_tgt (op : Int) : tgt (askI op) = if wrB op then 1 else 0 := rfl
/-- Three instructions lie whole: the one that came, the result, what is asked. -/
def Q3 (W : World) (g1 g2 g3 : Nat) (i : Ins) (w : World) : Prop :=
  BW W w ∧ Blk (insCells i) 29 g1 w ∧ Blk (insCells noIns) 29 g2 w ∧ Blk (insCells (askI i.op)) 29 g3 w ∧ W.heap.size ≤ g1 ∧ W.heap.size ≤ g2 ∧ g1 ≠ g2 ∧ g1 ≠ g3
section
variable {W w w' : World} {i : Ins} {g1 g2 g3 : Nat}
theorem Q3.bw (h : Q3 W g1 g2 g3 i w) : BW W w := h.1
theorem Q3.on (h : Q3 W g1 g2 g3 i w) (hb : Below w.heap.size w w') : Q3 W g1 g2 g3 i w' := ⟨h.1.on hb, h.2.1.on hb, h.2.2.1.on hb, h.2.2.2.1.on hb, h.2.2.2.2⟩
theorem Q3.st (h : Q3 W g1 g2 g3 i w) (n : Nat) (v : Value) (k : Ins) (e : (insCells i).setIfInBounds n v = insCells k) (eo : k.op = i.op) : Q3 W g1 g2 g3 k (w.setCell ⟨g1, n, none⟩ v) :=
  ⟨Below.setCell h.1 h.2.2.2.2.1 v, by have := h.2.1.set n v; rw [e] at this; exact this, h.2.2.1.other (a := ⟨g1, n, none⟩) (Ne.symm h.2.2.2.2.2.2.1) v, by rw [eo]; exact h.2.2.2.1.other (a := ⟨g1, n, none⟩) (Ne.symm h.2.2.2.2.2.2.2) v, h.2.2.2.2⟩
theorem Q3.s1 (h : Q3 W g1 g2 g3 i w) (x : Int) : Q3 W g1 g2 g3 { i with rd := x } (w.setCell ⟨g1, 1, none⟩ (.int .i64 x)) := h.st 1 _ _ rfl rfl
theorem Q3.s2 (h : Q3 W g1 g2 g3 i w) (x : Int) : Q3 W g1 g2 g3 { i with rs1 := x } (w.setCell ⟨g1, 2, none⟩ (.int .i64 x)) := h.st 2 _ _ rfl rfl
theorem Q3.s3 (h : Q3 W g1 g2 g3 i w) (x : Int) : Q3 W g1 g2 g3 { i with rs2 := x } (w.setCell ⟨g1, 3, none⟩ (.int .i64 x)) := h.st 3 _ _ rfl rfl
theorem Q3.facts (h : Q3 W g1 g2 g3 i w) : w.cell? ⟨g1, 0, none⟩ = some (.int .i64 i.op) ∧ w.cell? ⟨g3, 2, none⟩ = some (.int .i64 2) ∧ w.cell? ⟨g3, 3, none⟩ = some (.int .i64 3) ∧
    w.frozen? ⟨g1, 1, none⟩ = false ∧ w.frozen? ⟨g1, 2, none⟩ = false ∧ w.frozen? ⟨g1, 3, none⟩ = false ∧ w.cell? ⟨g1, 1, none⟩ = some (.int .i64 i.rd) ∧ w.cell? ⟨g1, 2, none⟩ = some (.int .i64 i.rs1) ∧ w.cell? ⟨g1, 3, none⟩ = some (.int .i64 i.rs2) :=
  ⟨h.2.1.cell 0, h.2.2.2.1.cell 2, h.2.2.2.1.cell 3, h.2.1.free 1, h.2.1.free 2, h.2.1.free 3, h.2.1.cell 1, h.2.1.cell 2, h.2.1.cell 3⟩
theorem Q3.apart {A : Option Addr} (h : Q3 W g1 g2 g3 i w) (hw : ∀ a, A = some a → w.heap.size ≤ a.block) : Hid (∀ a, A = some a → a.block ≠ g1) := fun a ha e => by
  have h1 := hw a ha
  have h2 := h.2.1.lt
  omega
/-- A list that lies elsewhere stays, when the instruction is written. -/
theorem rd_set {A : Option Addr} {xs : List Value} {B n : Nat} {v : Value} (h : Rd w B A xs) (hd : Hid (∀ a, A = some a → a.block ≠ g1)) : Rd (w.setCell ⟨g1, n, none⟩ v) B A xs := by
  rcases h with rfl | ⟨b, off, rfl, hb, hc⟩
  · exact .inl rfl
  · refine .inr ⟨b, off, rfl, hb, fun i u hu => ?_⟩
    have hne : b ≠ g1 := hd.out _ rfl
    have h1 := Below.heap_setCell w ⟨g1, n, none⟩ v b hne
    have h2 := hc i u hu
    unfold World.cell? at h2 ⊢
    simp only at h2 ⊢
    rw [h1]
    exact h2
theorem rd_set2 {A : Option Addr} {xs : List Value} {n : Nat} {v : Value} (h : Rd w w.heap.size A xs) (hd : Hid (∀ a, A = some a → a.block ≠ g1)) : Rd (w.setCell ⟨g1, n, none⟩ v) (w.setCell ⟨g1, n, none⟩ v).heap.size A xs :=
  (rd_set h hd).mono (Below.size (Below.setCell (Below.refl 0 w) (Nat.zero_le _) v))
theorem Q3.ask (h : Q3 W g1 g2 g3 i w) : Blk #[.int .i64 i.op, .int .i64 1, .int .i64 2, .int .i64 3, .int .i64 0, .bool false, .bool false, .int .i64 0, .int .i64 0] 29 g3 w := h.2.2.2.1
/-- The whole instruction is stored into the result's block. -/
theorem Q3.out {P : Program} (h : Q3 W g1 g2 g3 i w) : ∃ w', (storeCells ⟨g2, 0, none⟩ (insCells i).toList 0).run P w = .ok () w' ∧ Blk (insCells i) 29 g2 w' ∧ BW W w' := by
  obtain ⟨w', h1, h2, h3⟩ := h.2.2.1.store (P := P) (insCells i).toList rfl (ins_one i)
  exact ⟨w', h1, h2, Below.stored h.1 h3 h.2.2.2.2.2.1 (Below.size h.1)⟩
end
end Go.Proofs.YtbnacdhhacafkaaDoor
/- The program's Clean: its walk. -/
namespace Go.Proofs.YtbnacdhhacafkaaDoor
open Go.RowKit

set_option maxHeartbeats 2000000 in
theorem clean_c (i : Ins) (ho : I64 i.op) (w : World) (T : Tab6 w) :
    Calls Tryd.prog 15 #[insV i] w fun e w' => e = .returned (insV (clnI i)) ∧ Below w.heap.size w w' := by
  have HC0 : Hid (clnI i = { i with rd := if wrB i.op then i.rd else 0, rs1 := if firB i.op then i.rs1 else 0, rs2 := if secB i.op then i.rs2 else 0 }) := rfl
  have KS := fun x (h : BW w x) => sources_n (askI i.op) ho x (T.lasts.below h)
  have KT := fun x (h : BW w x) => target_c (askI i.op) ho x (T.lasts.below h)
  rw [ask_srcs] at KS
  rw [ask_tgt] at KT
  unfold askL at KS
  unfold insV askI at KS KT
  cases h1 : wrB i.op <;> cases h2 : firB i.op <;> cases h3 : secB i.op
  all_goals
    have HC1 := HC0.out
    rw [h1, h2, h3] at HC1
    clear HC0
    rw [h2, h3] at KS
    rw [h1] at KT
    clear h1 h2 h3
    unfold insV
    obtain ⟨op, rd, rs1, rs2, imm, aq, rl, pred, succ⟩ := i
    simp only [if_true, Bool.false_eq_true, if_false, List.nil_append, List.cons_append, List.append_nil] at KS KT HC1 ⊢
  case false.false.false =>
    as_aux_lemma =>
    have HC := Lib.hid HC1
    clear HC1
    go_enter Tryd.func15, Tryd.ntmps15
    go_upto_region 2 with (fail)
    have HQ : Q3 w w.heap.size (w.heap.size + 1) (w.heap.size + 1 + 1) ⟨op, rd, rs1, rs2, imm, aq, rl, pred, succ⟩ (((w.alloc (.cells (insCells ⟨op, rd, rs1, rs2, imm, aq, rl, pred, succ⟩) 29)).alloc (.cells (insCells noIns) 29)).alloc (.cells (insCells (askI op)) 29)) := by
      have a1 : (w.alloc (.cells (insCells ⟨op, rd, rs1, rs2, imm, aq, rl, pred, succ⟩) 29)).heap.size = w.heap.size + 1 := by simp
      have a2 : ((w.alloc (.cells (insCells ⟨op, rd, rs1, rs2, imm, aq, rl, pred, succ⟩) 29)).alloc (.cells (insCells noIns) 29)).heap.size = w.heap.size + 1 + 1 := by simp
      have b2 := Blk.new (insCells noIns) 29 (w.alloc (.cells (insCells ⟨op, rd, rs1, rs2, imm, aq, rl, pred, succ⟩) 29))
      have b3 := Blk.new (insCells (askI op)) 29 ((w.alloc (.cells (insCells ⟨op, rd, rs1, rs2, imm, aq, rl, pred, succ⟩) 29)).alloc (.cells (insCells noIns) 29))
      rw [a1] at b2
      rw [a2] at b3
      exact ⟨BW.new (BW.new (BW.new (Below.refl _ _) _) _) _, ((Blk.new _ _ w).alloc _).alloc _, b2.alloc _, b3, Nat.le_refl _, by omega, by omega, by omega⟩
    unfold insCells askI noIns at HQ
    simp only at HQ
    generalize ((w.alloc (.cells _ 29)).alloc (.cells _ 29)).alloc (.cells _ 29) = w1 at *
    obtain ⟨g3, hg3⟩ : ∃ g, w.heap.size + 1 + 1 = g := ⟨_, rfl⟩
    rw [hg3] at HQ ⊢
    obtain ⟨g2, hg2⟩ : ∃ g, w.heap.size + 1 = g := ⟨_, rfl⟩
    rw [hg2] at HQ ⊢
    obtain ⟨g1, hg1⟩ : ∃ g, w.heap.size = g := ⟨_, rfl⟩
    have HQ1 : Q3 w g1 g2 g3 ⟨op, rd, rs1, rs2, imm, aq, rl, pred, succ⟩ w1 := by rw [← hg1]; exact HQ
    rw [hg1]
    clear HQ hg1 hg2 hg3
    have HA := HQ1.ask
    go_upto_region 4 with (first
      | (with_reducible refine load_blk (o := ⟨some 8, _, _, _, _, _⟩) rfl 29 (.tmp 3) rfl HA rfl Tryd.underlying29 rfl (by kernel_rfl) ?_)
      | (go_at_call 21; refine (KS _ HQ1.bw).mono ?_; rintro e w2 ⟨A, cap, rfl, hr, hb, hw⟩; have HQ2 := HQ1.on hb; have HA2 := HQ2.ask; have HW := HQ1.apart hw; clear hb hw HQ1 HA)
      | (with_reducible refine load_blk (o := ⟨some 10, _, _, _, _, _⟩) rfl 29 (.tmp 3) rfl HA2 rfl Tryd.underlying29 rfl (by kernel_rfl) ?_)
      | (go_at_call 22; refine (KT _ HQ2.bw).mono ?_; rintro e w3 ⟨rfl, hb⟩; have HQ3 := HQ2.on hb; have HR := Lib.hid ((hr.below hb).mono hb.size); clear hb hr HQ2 HA2))
    obtain ⟨c0, c2, c3, f1, f2, f3, k1, k2, k3⟩ := HQ3.facts
    simp only at c0 k1 k2 k3
    go_upto_region 5 with (fail)
    have HQ4 := HQ3.s1 0
    have HR4 := rd_set2 (n := 1) (v := .int .i64 0) HR.out HW
    simp only at HQ4
    clear c0 c2 c3 f1 f2 f3 k1 k2 k3 HQ3 HR
    generalize w3.setCell ⟨g1, 1, none⟩ (.int .i64 0) = w4 at *
    obtain ⟨c0, c2, c3, f1, f2, f3, k1, k2, k3⟩ := HQ4.facts
    simp only at c0 k1 k2 k3
    have KC := contains_c A cap 0 ([] : List Int) 2 w4 rfl (by decide) HR4
    rw [show decide ((2 : Int) ∈ ([] : List Int)) = false by decide] at KC
    have HR5 := Lib.hid HR4
    clear HR4
    go_upto_region 6 with (first
      | (go_at_call 23; refine KC.mono ?_; rintro e w5 ⟨rfl, rfl⟩))
    clear KC
    go_upto_region 7 with (fail)
    have HQ5 := HQ4.s2 0
    have HR6 := rd_set2 (n := 2) (v := .int .i64 0) HR5.out HW
    simp only at HQ5
    clear c0 c2 c3 f1 f2 f3 k1 k2 k3 HQ4 HR5
    generalize w4.setCell ⟨g1, 2, none⟩ (.int .i64 0) = w6 at *
    obtain ⟨c0, c2, c3, f1, f2, f3, k1, k2, k3⟩ := HQ5.facts
    simp only at c0 k1 k2 k3
    have KC := contains_c A cap 0 ([] : List Int) 3 w6 rfl (by decide) HR6
    rw [show decide ((3 : Int) ∈ ([] : List Int)) = false by decide] at KC
    clear HR6
    go_upto_region 8 with (first
      | (go_at_call 23; refine KC.mono ?_; rintro e w5 ⟨rfl, rfl⟩))
    clear KC
    go_upto_region 9 with (fail)
    have HQ6 := HQ5.s3 0
    simp only at HQ6
    clear c0 c2 c3 f1 f2 f3 k1 k2 k3 HQ5
    generalize w6.setCell ⟨g1, 3, none⟩ (.int .i64 0) = w8 at *
    rw [← HC.out] at HQ6
    obtain ⟨w9, hs, hb9, hbw⟩ := HQ6.out (P := Tryd.prog)
    have HJ := HQ6.2.1
    clear HQ6
    go_wp2_with (with_reducible refine load_blk (o := ⟨some 26, _, _, _, _, _⟩) rfl 29 (.tmp 1) rfl HJ rfl Tryd.underlying29 rfl (by kernel_rfl) ?_)
    exact bodyPost_ret (results_blk1 rfl rfl hb9 Tryd.underlying29 rfl (by kernel_rfl)) rfl ⟨rfl, hbw⟩
  case false.false.true =>
    as_aux_lemma =>
    have HC := Lib.hid HC1
    clear HC1
    go_enter Tryd.func15, Tryd.ntmps15
    go_upto_region 2 with (fail)
    have HQ : Q3 w w.heap.size (w.heap.size + 1) (w.heap.size + 1 + 1) ⟨op, rd, rs1, rs2, imm, aq, rl, pred, succ⟩ (((w.alloc (.cells (insCells ⟨op, rd, rs1, rs2, imm, aq, rl, pred, succ⟩) 29)).alloc (.cells (insCells noIns) 29)).alloc (.cells (insCells (askI op)) 29)) := by
      have a1 : (w.alloc (.cells (insCells ⟨op, rd, rs1, rs2, imm, aq, rl, pred, succ⟩) 29)).heap.size = w.heap.size + 1 := by simp
      have a2 : ((w.alloc (.cells (insCells ⟨op, rd, rs1, rs2, imm, aq, rl, pred, succ⟩) 29)).alloc (.cells (insCells noIns) 29)).heap.size = w.heap.size + 1 + 1 := by simp
      have b2 := Blk.new (insCells noIns) 29 (w.alloc (.cells (insCells ⟨op, rd, rs1, rs2, imm, aq, rl, pred, succ⟩) 29))
      have b3 := Blk.new (insCells (askI op)) 29 ((w.alloc (.cells (insCells ⟨op, rd, rs1, rs2, imm, aq, rl, pred, succ⟩) 29)).alloc (.cells (insCells noIns) 29))
      rw [a1] at b2
      rw [a2] at b3
      exact ⟨BW.new (BW.new (BW.new (Below.refl _ _) _) _) _, ((Blk.new _ _ w).alloc _).alloc _, b2.alloc _, b3, Nat.le_refl _, by omega, by omega, by omega⟩
    unfold insCells askI noIns at HQ
    simp only at HQ
    generalize ((w.alloc (.cells _ 29)).alloc (.cells _ 29)).alloc (.cells _ 29) = w1 at *
    obtain ⟨g3, hg3⟩ : ∃ g, w.heap.size + 1 + 1 = g := ⟨_, rfl⟩
    rw [hg3] at HQ ⊢
    obtain ⟨g2, hg2⟩ : ∃ g, w.heap.size + 1 = g := ⟨_, rfl⟩
    rw [hg2] at HQ ⊢
    obtain ⟨g1, hg1⟩ : ∃ g, w.heap.size = g := ⟨_, rfl⟩
    have HQ1 : Q3 w g1 g2 g3 ⟨op, rd, rs1, rs2, imm, aq, rl, pred, succ⟩ w1 := by rw [← hg1]; exact HQ
    rw [hg1]
    clear HQ hg1 hg2 hg3
    have HA := HQ1.ask
    go_upto_region 4 with (first
      | (with_reducible refine load_blk (o := ⟨some 8, _, _, _, _, _⟩) rfl 29 (.tmp 3) rfl HA rfl Tryd.underlying29 rfl (by kernel_rfl) ?_)
      | (go_at_call 21; refine (KS _ HQ1.bw).mono ?_; rintro e w2 ⟨A, cap, rfl, hr, hb, hw⟩; have HQ2 := HQ1.on hb; have HA2 := HQ2.ask; have HW := HQ1.apart hw; clear hb hw HQ1 HA)
      | (with_reducible refine load_blk (o := ⟨some 10, _, _, _, _, _⟩) rfl 29 (.tmp 3) rfl HA2 rfl Tryd.underlying29 rfl (by kernel_rfl) ?_)
      | (go_at_call 22; refine (KT _ HQ2.bw).mono ?_; rintro e w3 ⟨rfl, hb⟩; have HQ3 := HQ2.on hb; have HR := Lib.hid ((hr.below hb).mono hb.size); clear hb hr HQ2 HA2))
    obtain ⟨c0, c2, c3, f1, f2, f3, k1, k2, k3⟩ := HQ3.facts
    simp only at c0 k1 k2 k3
    go_upto_region 5 with (fail)
    have HQ4 := HQ3.s1 0
    have HR4 := rd_set2 (n := 1) (v := .int .i64 0) HR.out HW
    simp only at HQ4
    clear c0 c2 c3 f1 f2 f3 k1 k2 k3 HQ3 HR
    generalize w3.setCell ⟨g1, 1, none⟩ (.int .i64 0) = w4 at *
    obtain ⟨c0, c2, c3, f1, f2, f3, k1, k2, k3⟩ := HQ4.facts
    simp only at c0 k1 k2 k3
    have KC := contains_c A cap 1 ([3] : List Int) 2 w4 rfl (by decide) HR4
    rw [show decide ((2 : Int) ∈ ([3] : List Int)) = false by decide] at KC
    have HR5 := Lib.hid HR4
    clear HR4
    go_upto_region 6 with (first
      | (go_at_call 23; refine KC.mono ?_; rintro e w5 ⟨rfl, rfl⟩))
    clear KC
    go_upto_region 7 with (fail)
    have HQ5 := HQ4.s2 0
    have HR6 := rd_set2 (n := 2) (v := .int .i64 0) HR5.out HW
    simp only at HQ5
    clear c0 c2 c3 f1 f2 f3 k1 k2 k3 HQ4 HR5
    generalize w4.setCell ⟨g1, 2, none⟩ (.int .i64 0) = w6 at *
    obtain ⟨c0, c2, c3, f1, f2, f3, k1, k2, k3⟩ := HQ5.facts
    simp only at c0 k1 k2 k3
    have KC := contains_c A cap 1 ([3] : List Int) 3 w6 rfl (by decide) HR6
    rw [show decide ((3 : Int) ∈ ([3] : List Int)) = true by decide] at KC
    clear HR6
    go_upto_region 9 with (first
      | (go_at_call 23; refine KC.mono ?_; rintro e w5 ⟨rfl, rfl⟩))
    clear KC
    have HQ6 := HQ5
    clear c0 c2 c3 f1 f2 f3 k1 k2 k3 HQ5
    obtain ⟨w8, hw8⟩ : ∃ x, w6 = x := ⟨_, rfl⟩
    rw [hw8] at HQ6 ⊢
    clear hw8
    rw [← HC.out] at HQ6
    obtain ⟨w9, hs, hb9, hbw⟩ := HQ6.out (P := Tryd.prog)
    have HJ := HQ6.2.1
    clear HQ6
    go_wp2_with (with_reducible refine load_blk (o := ⟨some 26, _, _, _, _, _⟩) rfl 29 (.tmp 1) rfl HJ rfl Tryd.underlying29 rfl (by kernel_rfl) ?_)
    exact bodyPost_ret (results_blk1 rfl rfl hb9 Tryd.underlying29 rfl (by kernel_rfl)) rfl ⟨rfl, hbw⟩
  case false.true.false =>
    as_aux_lemma =>
    have HC := Lib.hid HC1
    clear HC1
    go_enter Tryd.func15, Tryd.ntmps15
    go_upto_region 2 with (fail)
    have HQ : Q3 w w.heap.size (w.heap.size + 1) (w.heap.size + 1 + 1) ⟨op, rd, rs1, rs2, imm, aq, rl, pred, succ⟩ (((w.alloc (.cells (insCells ⟨op, rd, rs1, rs2, imm, aq, rl, pred, succ⟩) 29)).alloc (.cells (insCells noIns) 29)).alloc (.cells (insCells (askI op)) 29)) := by
      have a1 : (w.alloc (.cells (insCells ⟨op, rd, rs1, rs2, imm, aq, rl, pred, succ⟩) 29)).heap.size = w.heap.size + 1 := by simp
      have a2 : ((w.alloc (.cells (insCells ⟨op, rd, rs1, rs2, imm, aq, rl, pred, succ⟩) 29)).alloc (.cells (insCells noIns) 29)).heap.size = w.heap.size + 1 + 1 := by simp
      have b2 := Blk.new (insCells noIns) 29 (w.alloc (.cells (insCells ⟨op, rd, rs1, rs2, imm, aq, rl, pred, succ⟩) 29))
      have b3 := Blk.new (insCells (askI op)) 29 ((w.alloc (.cells (insCells ⟨op, rd, rs1, rs2, imm, aq, rl, pred, succ⟩) 29)).alloc (.cells (insCells noIns) 29))
      rw [a1] at b2
      rw [a2] at b3
      exact ⟨BW.new (BW.new (BW.new (Below.refl _ _) _) _) _, ((Blk.new _ _ w).alloc _).alloc _, b2.alloc _, b3, Nat.le_refl _, by omega, by omega, by omega⟩
    unfold insCells askI noIns at HQ
    simp only at HQ
    generalize ((w.alloc (.cells _ 29)).alloc (.cells _ 29)).alloc (.cells _ 29) = w1 at *
    obtain ⟨g3, hg3⟩ : ∃ g, w.heap.size + 1 + 1 = g := ⟨_, rfl⟩
    rw [hg3] at HQ ⊢
    obtain ⟨g2, hg2⟩ : ∃ g, w.heap.size + 1 = g := ⟨_, rfl⟩
    rw [hg2] at HQ ⊢
    obtain ⟨g1, hg1⟩ : ∃ g, w.heap.size = g := ⟨_, rfl⟩
    have HQ1 : Q3 w g1 g2 g3 ⟨op, rd, rs1, rs2, imm, aq, rl, pred, succ⟩ w1 := by rw [← hg1]; exact HQ
    rw [hg1]
    clear HQ hg1 hg2 hg3
    have HA := HQ1.ask
    go_upto_region 4 with (first
      | (with_reducible refine load_blk (o := ⟨some 8, _, _, _, _, _⟩) rfl 29 (.tmp 3) rfl HA rfl Tryd.underlying29 rfl (by kernel_rfl) ?_)
      | (go_at_call 21; refine (KS _ HQ1.bw).mono ?_; rintro e w2 ⟨A, cap, rfl, hr, hb, hw⟩; have HQ2 := HQ1.on hb; have HA2 := HQ2.ask; have HW := HQ1.apart hw; clear hb hw HQ1 HA)
      | (with_reducible refine load_blk (o := ⟨some 10, _, _, _, _, _⟩) rfl 29 (.tmp 3) rfl HA2 rfl Tryd.underlying29 rfl (by kernel_rfl) ?_)
      | (go_at_call 22; refine (KT _ HQ2.bw).mono ?_; rintro e w3 ⟨rfl, hb⟩; have HQ3 := HQ2.on hb; have HR := Lib.hid ((hr.below hb).mono hb.size); clear hb hr HQ2 HA2))
    obtain ⟨c0, c2, c3, f1, f2, f3, k1, k2, k3⟩ := HQ3.facts
    simp only at c0 k1 k2 k3
    go_upto_region 5 with (fail)
    have HQ4 := HQ3.s1 0
    have HR4 := rd_set2 (n := 1) (v := .int .i64 0) HR.out HW
    simp only at HQ4
    clear c0 c2 c3 f1 f2 f3 k1 k2 k3 HQ3 HR
    generalize w3.setCell ⟨g1, 1, none⟩ (.int .i64 0) = w4 at *
    obtain ⟨c0, c2, c3, f1, f2, f3, k1, k2, k3⟩ := HQ4.facts
    simp only at c0 k1 k2 k3
    have KC := contains_c A cap 1 ([2] : List Int) 2 w4 rfl (by decide) HR4
    rw [show decide ((2 : Int) ∈ ([2] : List Int)) = true by decide] at KC
    have HR5 := Lib.hid HR4
    clear HR4
    go_upto_region 7 with (first
      | (go_at_call 23; refine KC.mono ?_; rintro e w5 ⟨rfl, rfl⟩))
    clear KC
    have HQ5 := HQ4
    have HR6 := HR5.out
    clear c0 c2 c3 f1 f2 f3 k1 k2 k3 HQ4 HR5
    obtain ⟨w6, hw6⟩ : ∃ x, w4 = x := ⟨_, rfl⟩
    rw [hw6] at HQ5 HR6 ⊢
    clear hw6
    obtain ⟨c0, c2, c3, f1, f2, f3, k1, k2, k3⟩ := HQ5.facts
    simp only at c0 k1 k2 k3
    have KC := contains_c A cap 1 ([2] : List Int) 3 w6 rfl (by decide) HR6
    rw [show decide ((3 : Int) ∈ ([2] : List Int)) = false by decide] at KC
    clear HR6
    go_upto_region 8 with (first
      | (go_at_call 23; refine KC.mono ?_; rintro e w5 ⟨rfl, rfl⟩))
    clear KC
    go_upto_region 9 with (fail)
    have HQ6 := HQ5.s3 0
    simp only at HQ6
    clear c0 c2 c3 f1 f2 f3 k1 k2 k3 HQ5
    generalize w6.setCell ⟨g1, 3, none⟩ (.int .i64 0) = w8 at *
    rw [← HC.out] at HQ6
    obtain ⟨w9, hs, hb9, hbw⟩ := HQ6.out (P := Tryd.prog)
    have HJ := HQ6.2.1
    clear HQ6
    go_wp2_with (with_reducible refine load_blk (o := ⟨some 26, _, _, _, _, _⟩) rfl 29 (.tmp 1) rfl HJ rfl Tryd.underlying29 rfl (by kernel_rfl) ?_)
    exact bodyPost_ret (results_blk1 rfl rfl hb9 Tryd.underlying29 rfl (by kernel_rfl)) rfl ⟨rfl, hbw⟩
  case false.true.true =>
    as_aux_lemma =>
    have HC := Lib.hid HC1
    clear HC1
    go_enter Tryd.func15, Tryd.ntmps15
    go_upto_region 2 with (fail)
    have HQ : Q3 w w.heap.size (w.heap.size + 1) (w.heap.size + 1 + 1) ⟨op, rd, rs1, rs2, imm, aq, rl, pred, succ⟩ (((w.alloc (.cells (insCells ⟨op, rd, rs1, rs2, imm, aq, rl, pred, succ⟩) 29)).alloc (.cells (insCells noIns) 29)).alloc (.cells (insCells (askI op)) 29)) := by
      have a1 : (w.alloc (.cells (insCells ⟨op, rd, rs1, rs2, imm, aq, rl, pred, succ⟩) 29)).heap.size = w.heap.size + 1 := by simp
      have a2 : ((w.alloc (.cells (insCells ⟨op, rd, rs1, rs2, imm, aq, rl, pred, succ⟩) 29)).alloc (.cells (insCells noIns) 29)).heap.size = w.heap.size + 1 + 1 := by simp
      have b2 := Blk.new (insCells noIns) 29 (w.alloc (.cells (insCells ⟨op, rd, rs1, rs2, imm, aq, rl, pred, succ⟩) 29))
      have b3 := Blk.new (insCells (askI op)) 29 ((w.alloc (.cells (insCells ⟨op, rd, rs1, rs2, imm, aq, rl, pred, succ⟩) 29)).alloc (.cells (insCells noIns) 29))
      rw [a1] at b2
      rw [a2] at b3
      exact ⟨BW.new (BW.new (BW.new (Below.refl _ _) _) _) _, ((Blk.new _ _ w).alloc _).alloc _, b2.alloc _, b3, Nat.le_refl _, by omega, by omega, by omega⟩
    unfold insCells askI noIns at HQ
    simp only at HQ
    generalize ((w.alloc (.cells _ 29)).alloc (.cells _ 29)).alloc (.cells _ 29) = w1 at *
    obtain ⟨g3, hg3⟩ : ∃ g, w.heap.size + 1 + 1 = g := ⟨_, rfl⟩
    rw [hg3] at HQ ⊢
    obtain ⟨g2, hg2⟩ : ∃ g, w.heap.size + 1 = g := ⟨_, rfl⟩
    rw [hg2] at HQ ⊢
    obtain ⟨g1, hg1⟩ : ∃ g, w.heap.size = g := ⟨_, rfl⟩
    have HQ1 : Q3 w g1 g2 g3 ⟨op, rd, rs1, rs2, imm, aq, rl, pred, succ⟩ w1 := by rw [← hg1]; exact HQ
    rw [hg1]
    clear HQ hg1 hg2 hg3
    have HA := HQ1.ask
    go_upto_region 4 with (first
      | (with_reducible refine load_blk (o := ⟨some 8, _, _, _, _, _⟩) rfl 29 (.tmp 3) rfl HA rfl Tryd.underlying29 rfl (by kernel_rfl) ?_)
      | (go_at_call 21; refine (KS _ HQ1.bw).mono ?_; rintro e w2 ⟨A, cap, rfl, hr, hb, hw⟩; have HQ2 := HQ1.on hb; have HA2 := HQ2.ask; have HW := HQ1.apart hw; clear hb hw HQ1 HA)
      | (with_reducible refine load_blk (o := ⟨some 10, _, _, _, _, _⟩) rfl 29 (.tmp 3) rfl HA2 rfl Tryd.underlying29 rfl (by kernel_rfl) ?_)
      | (go_at_call 22; refine (KT _ HQ2.bw).mono ?_; rintro e w3 ⟨rfl, hb⟩; have HQ3 := HQ2.on hb; have HR := Lib.hid ((hr.below hb).mono hb.size); clear hb hr HQ2 HA2))
    obtain ⟨c0, c2, c3, f1, f2, f3, k1, k2, k3⟩ := HQ3.facts
    simp only at c0 k1 k2 k3
    go_upto_region 5 with (fail)
    have HQ4 := HQ3.s1 0
    have HR4 := rd_set2 (n := 1) (v := .int .i64 0) HR.out HW
    simp only at HQ4
    clear c0 c2 c3 f1 f2 f3 k1 k2 k3 HQ3 HR
    generalize w3.setCell ⟨g1, 1, none⟩ (.int .i64 0) = w4 at *
    obtain ⟨c0, c2, c3, f1, f2, f3, k1, k2, k3⟩ := HQ4.facts
    simp only at c0 k1 k2 k3
    have KC := contains_c A cap 2 ([2, 3] : List Int) 2 w4 rfl (by decide) HR4
    rw [show decide ((2 : Int) ∈ ([2, 3] : List Int)) = true by decide] at KC
    have HR5 := Lib.hid HR4
    clear HR4
    go_upto_region 7 with (first
      | (go_at_call 23; refine KC.mono ?_; rintro e w5 ⟨rfl, rfl⟩))
    clear KC
    have HQ5 := HQ4
    have HR6 := HR5.out
    clear c0 c2 c3 f1 f2 f3 k1 k2 k3 HQ4 HR5
    obtain ⟨w6, hw6⟩ : ∃ x, w4 = x := ⟨_, rfl⟩
    rw [hw6] at HQ5 HR6 ⊢
    clear hw6
    obtain ⟨c0, c2, c3, f1, f2, f3, k1, k2, k3⟩ := HQ5.facts
    simp only at c0 k1 k2 k3
    have KC := contains_c A cap 2 ([2, 3] : List Int) 3 w6 rfl (by decide) HR6
    rw [show decide ((3 : Int) ∈ ([2, 3] : List Int)) = true by decide] at KC
    clear HR6
    go_upto_region 9 with (first
      | (go_at_call 23; refine KC.mono ?_; rintro e w5 ⟨rfl, rfl⟩))
    clear KC
    have HQ6 := HQ5
    clear c0 c2 c3 f1 f2 f3 k1 k2 k3 HQ5
    obtain ⟨w8, hw8⟩ : ∃ x, w6 = x := ⟨_, rfl⟩
    rw [hw8] at HQ6 ⊢
    clear hw8
    rw [← HC.out] at HQ6
    obtain ⟨w9, hs, hb9, hbw⟩ := HQ6.out (P := Tryd.prog)
    have HJ := HQ6.2.1
    clear HQ6
    go_wp2_with (with_reducible refine load_blk (o := ⟨some 26, _, _, _, _, _⟩) rfl 29 (.tmp 1) rfl HJ rfl Tryd.underlying29 rfl (by kernel_rfl) ?_)
    exact bodyPost_ret (results_blk1 rfl rfl hb9 Tryd.underlying29 rfl (by kernel_rfl)) rfl ⟨rfl, hbw⟩
  case true.false.false =>
    as_aux_lemma =>
    have HC := Lib.hid HC1
    clear HC1
    go_enter Tryd.func15, Tryd.ntmps15
    go_upto_region 2 with (fail)
    have HQ : Q3 w w.heap.size (w.heap.size + 1) (w.heap.size + 1 + 1) ⟨op, rd, rs1, rs2, imm, aq, rl, pred, succ⟩ (((w.alloc (.cells (insCells ⟨op, rd, rs1, rs2, imm, aq, rl, pred, succ⟩) 29)).alloc (.cells (insCells noIns) 29)).alloc (.cells (insCells (askI op)) 29)) := by
      have a1 : (w.alloc (.cells (insCells ⟨op, rd, rs1, rs2, imm, aq, rl, pred, succ⟩) 29)).heap.size = w.heap.size + 1 := by simp
      have a2 : ((w.alloc (.cells (insCells ⟨op, rd, rs1, rs2, imm, aq, rl, pred, succ⟩) 29)).alloc (.cells (insCells noIns) 29)).heap.size = w.heap.size + 1 + 1 := by simp
      have b2 := Blk.new (insCells noIns) 29 (w.alloc (.cells (insCells ⟨op, rd, rs1, rs2, imm, aq, rl, pred, succ⟩) 29))
      have b3 := Blk.new (insCells (askI op)) 29 ((w.alloc (.cells (insCells ⟨op, rd, rs1, rs2, imm, aq, rl, pred, succ⟩) 29)).alloc (.cells (insCells noIns) 29))
      rw [a1] at b2
      rw [a2] at b3
      exact ⟨BW.new (BW.new (BW.new (Below.refl _ _) _) _) _, ((Blk.new _ _ w).alloc _).alloc _, b2.alloc _, b3, Nat.le_refl _, by omega, by omega, by omega⟩
    unfold insCells askI noIns at HQ
    simp only at HQ
    generalize ((w.alloc (.cells _ 29)).alloc (.cells _ 29)).alloc (.cells _ 29) = w1 at *
    obtain ⟨g3, hg3⟩ : ∃ g, w.heap.size + 1 + 1 = g := ⟨_, rfl⟩
    rw [hg3] at HQ ⊢
    obtain ⟨g2, hg2⟩ : ∃ g, w.heap.size + 1 = g := ⟨_, rfl⟩
    rw [hg2] at HQ ⊢
    obtain ⟨g1, hg1⟩ : ∃ g, w.heap.size = g := ⟨_, rfl⟩
    have HQ1 : Q3 w g1 g2 g3 ⟨op, rd, rs1, rs2, imm, aq, rl, pred, succ⟩ w1 := by rw [← hg1]; exact HQ
    rw [hg1]
    clear HQ hg1 hg2 hg3
    have HA := HQ1.ask
    go_upto_region 5 with (first
      | (with_reducible refine load_blk (o := ⟨some 8, _, _, _, _, _⟩) rfl 29 (.tmp 3) rfl HA rfl Tryd.underlying29 rfl (by kernel_rfl) ?_)
      | (go_at_call 21; refine (KS _ HQ1.bw).mono ?_; rintro e w2 ⟨A, cap, rfl, hr, hb, hw⟩; have HQ2 := HQ1.on hb; have HA2 := HQ2.ask; have HW := HQ1.apart hw; clear hb hw HQ1 HA)
      | (with_reducible refine load_blk (o := ⟨some 10, _, _, _, _, _⟩) rfl 29 (.tmp 3) rfl HA2 rfl Tryd.underlying29 rfl (by kernel_rfl) ?_)
      | (go_at_call 22; refine (KT _ HQ2.bw).mono ?_; rintro e w3 ⟨rfl, hb⟩; have HQ3 := HQ2.on hb; have HR := Lib.hid ((hr.below hb).mono hb.size); clear hb hr HQ2 HA2))
    have HQ4 := HQ3
    have HR4 := HR.out
    clear HQ3 HR
    obtain ⟨w4, hw4⟩ : ∃ x, w3 = x := ⟨_, rfl⟩
    rw [hw4] at HQ4 HR4 ⊢
    clear hw4
    obtain ⟨c0, c2, c3, f1, f2, f3, k1, k2, k3⟩ := HQ4.facts
    simp only at c0 k1 k2 k3
    have KC := contains_c A cap 0 ([] : List Int) 2 w4 rfl (by decide) HR4
    rw [show decide ((2 : Int) ∈ ([] : List Int)) = false by decide] at KC
    have HR5 := Lib.hid HR4
    clear HR4
    go_upto_region 6 with (first
      | (go_at_call 23; refine KC.mono ?_; rintro e w5 ⟨rfl, rfl⟩))
    clear KC
    go_upto_region 7 with (fail)
    have HQ5 := HQ4.s2 0
    have HR6 := rd_set2 (n := 2) (v := .int .i64 0) HR5.out HW
    simp only at HQ5
    clear c0 c2 c3 f1 f2 f3 k1 k2 k3 HQ4 HR5
    generalize w4.setCell ⟨g1, 2, none⟩ (.int .i64 0) = w6 at *
    obtain ⟨c0, c2, c3, f1, f2, f3, k1, k2, k3⟩ := HQ5.facts
    simp only at c0 k1 k2 k3
    have KC := contains_c A cap 0 ([] : List Int) 3 w6 rfl (by decide) HR6
    rw [show decide ((3 : Int) ∈ ([] : List Int)) = false by decide] at KC
    clear HR6
    go_upto_region 8 with (first
      | (go_at_call 23; refine KC.mono ?_; rintro e w5 ⟨rfl, rfl⟩))
    clear KC
    go_upto_region 9 with (fail)
    have HQ6 := HQ5.s3 0
    simp only at HQ6
    clear c0 c2 c3 f1 f2 f3 k1 k2 k3 HQ5
    generalize w6.setCell ⟨g1, 3, none⟩ (.int .i64 0) = w8 at *
    rw [← HC.out] at HQ6
    obtain ⟨w9, hs, hb9, hbw⟩ := HQ6.out (P := Tryd.prog)
    have HJ := HQ6.2.1
    clear HQ6
    go_wp2_with (with_reducible refine load_blk (o := ⟨some 26, _, _, _, _, _⟩) rfl 29 (.tmp 1) rfl HJ rfl Tryd.underlying29 rfl (by kernel_rfl) ?_)
    exact bodyPost_ret (results_blk1 rfl rfl hb9 Tryd.underlying29 rfl (by kernel_rfl)) rfl ⟨rfl, hbw⟩
  case true.false.true =>
    as_aux_lemma =>
    have HC := Lib.hid HC1
    clear HC1
    go_enter Tryd.func15, Tryd.ntmps15
    go_upto_region 2 with (fail)
    have HQ : Q3 w w.heap.size (w.heap.size + 1) (w.heap.size + 1 + 1) ⟨op, rd, rs1, rs2, imm, aq, rl, pred, succ⟩ (((w.alloc (.cells (insCells ⟨op, rd, rs1, rs2, imm, aq, rl, pred, succ⟩) 29)).alloc (.cells (insCells noIns) 29)).alloc (.cells (insCells (askI op)) 29)) := by
      have a1 : (w.alloc (.cells (insCells ⟨op, rd, rs1, rs2, imm, aq, rl, pred, succ⟩) 29)).heap.size = w.heap.size + 1 := by simp
      have a2 : ((w.alloc (.cells (insCells ⟨op, rd, rs1, rs2, imm, aq, rl, pred, succ⟩) 29)).alloc (.cells (insCells noIns) 29)).heap.size = w.heap.size + 1 + 1 := by simp
      have b2 := Blk.new (insCells noIns) 29 (w.alloc (.cells (insCells ⟨op, rd, rs1, rs2, imm, aq, rl, pred, succ⟩) 29))
      have b3 := Blk.new (insCells (askI op)) 29 ((w.alloc (.cells (insCells ⟨op, rd, rs1, rs2, imm, aq, rl, pred, succ⟩) 29)).alloc (.cells (insCells noIns) 29))
      rw [a1] at b2
      rw [a2] at b3
      exact ⟨BW.new (BW.new (BW.new (Below.refl _ _) _) _) _, ((Blk.new _ _ w).alloc _).alloc _, b2.alloc _, b3, Nat.le_refl _, by omega, by omega, by omega⟩
    unfold insCells askI noIns at HQ
    simp only at HQ
    generalize ((w.alloc (.cells _ 29)).alloc (.cells _ 29)).alloc (.cells _ 29) = w1 at *
    obtain ⟨g3, hg3⟩ : ∃ g, w.heap.size + 1 + 1 = g := ⟨_, rfl⟩
    rw [hg3] at HQ ⊢
    obtain ⟨g2, hg2⟩ : ∃ g, w.heap.size + 1 = g := ⟨_, rfl⟩
    rw [hg2] at HQ ⊢
    obtain ⟨g1, hg1⟩ : ∃ g, w.heap.size = g := ⟨_, rfl⟩
    have HQ1 : Q3 w g1 g2 g3 ⟨op, rd, rs1, rs2, imm, aq, rl, pred, succ⟩ w1 := by rw [← hg1]; exact HQ
    rw [hg1]
    clear HQ hg1 hg2 hg3
    have HA := HQ1.ask
    go_upto_region 5 with (first
      | (with_reducible refine load_blk (o := ⟨some 8, _, _, _, _, _⟩) rfl 29 (.tmp 3) rfl HA rfl Tryd.underlying29 rfl (by kernel_rfl) ?_)
      | (go_at_call 21; refine (KS _ HQ1.bw).mono ?_; rintro e w2 ⟨A, cap, rfl, hr, hb, hw⟩; have HQ2 := HQ1.on hb; have HA2 := HQ2.ask; have HW := HQ1.apart hw; clear hb hw HQ1 HA)
      | (with_reducible refine load_blk (o := ⟨some 10, _, _, _, _, _⟩) rfl 29 (.tmp 3) rfl HA2 rfl Tryd.underlying29 rfl (by kernel_rfl) ?_)
      | (go_at_call 22; refine (KT _ HQ2.bw).mono ?_; rintro e w3 ⟨rfl, hb⟩; have HQ3 := HQ2.on hb; have HR := Lib.hid ((hr.below hb).mono hb.size); clear hb hr HQ2 HA2))
    have HQ4 := HQ3
    have HR4 := HR.out
    clear HQ3 HR
    obtain ⟨w4, hw4⟩ : ∃ x, w3 = x := ⟨_, rfl⟩
    rw [hw4] at HQ4 HR4 ⊢
    clear hw4
    obtain ⟨c0, c2, c3, f1, f2, f3, k1, k2, k3⟩ := HQ4.facts
    simp only at c0 k1 k2 k3
    have KC := contains_c A cap 1 ([3] : List Int) 2 w4 rfl (by decide) HR4
    rw [show decide ((2 : Int) ∈ ([3] : List Int)) = false by decide] at KC
    have HR5 := Lib.hid HR4
    clear HR4
    go_upto_region 6 with (first
      | (go_at_call 23; refine KC.mono ?_; rintro e w5 ⟨rfl, rfl⟩))
    clear KC
    go_upto_region 7 with (fail)
    have HQ5 := HQ4.s2 0
    have HR6 := rd_set2 (n := 2) (v := .int .i64 0) HR5.out HW
    simp only at HQ5
    clear c0 c2 c3 f1 f2 f3 k1 k2 k3 HQ4 HR5
    generalize w4.setCell ⟨g1, 2, none⟩ (.int .i64 0) = w6 at *
    obtain ⟨c0, c2, c3, f1, f2, f3, k1, k2, k3⟩ := HQ5.facts
    simp only at c0 k1 k2 k3
    have KC := contains_c A cap 1 ([3] : List Int) 3 w6 rfl (by decide) HR6
    rw [show decide ((3 : Int) ∈ ([3] : List Int)) = true by decide] at KC
    clear HR6
    go_upto_region 9 with (first
      | (go_at_call 23; refine KC.mono ?_; rintro e w5 ⟨rfl, rfl⟩))
    clear KC
    have HQ6 := HQ5
    clear c0 c2 c3 f1 f2 f3 k1 k2 k3 HQ5
    obtain ⟨w8, hw8⟩ : ∃ x, w6 = x := ⟨_, rfl⟩
    rw [hw8] at HQ6 ⊢
    clear hw8
    rw [← HC.out] at HQ6
    obtain ⟨w9, hs, hb9, hbw⟩ := HQ6.out (P := Tryd.prog)
    have HJ := HQ6.2.1
    clear HQ6
    go_wp2_with (with_reducible refine load_blk (o := ⟨some 26, _, _, _, _, _⟩) rfl 29 (.tmp 1) rfl HJ rfl Tryd.underlying29 rfl (by kernel_rfl) ?_)
    exact bodyPost_ret (results_blk1 rfl rfl hb9 Tryd.underlying29 rfl (by kernel_rfl)) rfl ⟨rfl, hbw⟩
  case true.true.false =>
    as_aux_lemma =>
    have HC := Lib.hid HC1
    clear HC1
    go_enter Tryd.func15, Tryd.ntmps15
    go_upto_region 2 with (fail)
    have HQ : Q3 w w.heap.size (w.heap.size + 1) (w.heap.size + 1 + 1) ⟨op, rd, rs1, rs2, imm, aq, rl, pred, succ⟩ (((w.alloc (.cells (insCells ⟨op, rd, rs1, rs2, imm, aq, rl, pred, succ⟩) 29)).alloc (.cells (insCells noIns) 29)).alloc (.cells (insCells (askI op)) 29)) := by
      have a1 : (w.alloc (.cells (insCells ⟨op, rd, rs1, rs2, imm, aq, rl, pred, succ⟩) 29)).heap.size = w.heap.size + 1 := by simp
      have a2 : ((w.alloc (.cells (insCells ⟨op, rd, rs1, rs2, imm, aq, rl, pred, succ⟩) 29)).alloc (.cells (insCells noIns) 29)).heap.size = w.heap.size + 1 + 1 := by simp
      have b2 := Blk.new (insCells noIns) 29 (w.alloc (.cells (insCells ⟨op, rd, rs1, rs2, imm, aq, rl, pred, succ⟩) 29))
      have b3 := Blk.new (insCells (askI op)) 29 ((w.alloc (.cells (insCells ⟨op, rd, rs1, rs2, imm, aq, rl, pred, succ⟩) 29)).alloc (.cells (insCells noIns) 29))
      rw [a1] at b2
      rw [a2] at b3
      exact ⟨BW.new (BW.new (BW.new (Below.refl _ _) _) _) _, ((Blk.new _ _ w).alloc _).alloc _, b2.alloc _, b3, Nat.le_refl _, by omega, by omega, by omega⟩
    unfold insCells askI noIns at HQ
    simp only at HQ
    generalize ((w.alloc (.cells _ 29)).alloc (.cells _ 29)).alloc (.cells _ 29) = w1 at *
    obtain ⟨g3, hg3⟩ : ∃ g, w.heap.size + 1 + 1 = g := ⟨_, rfl⟩
    rw [hg3] at HQ ⊢
    obtain ⟨g2, hg2⟩ : ∃ g, w.heap.size + 1 = g := ⟨_, rfl⟩
    rw [hg2] at HQ ⊢
    obtain ⟨g1, hg1⟩ : ∃ g, w.heap.size = g := ⟨_, rfl⟩
    have HQ1 : Q3 w g1 g2 g3 ⟨op, rd, rs1, rs2, imm, aq, rl, pred, succ⟩ w1 := by rw [← hg1]; exact HQ
    rw [hg1]
    clear HQ hg1 hg2 hg3
    have HA := HQ1.ask
    go_upto_region 5 with (first
      | (with_reducible refine load_blk (o := ⟨some 8, _, _, _, _, _⟩) rfl 29 (.tmp 3) rfl HA rfl Tryd.underlying29 rfl (by kernel_rfl) ?_)
      | (go_at_call 21; refine (KS _ HQ1.bw).mono ?_; rintro e w2 ⟨A, cap, rfl, hr, hb, hw⟩; have HQ2 := HQ1.on hb; have HA2 := HQ2.ask; have HW := HQ1.apart hw; clear hb hw HQ1 HA)
      | (with_reducible refine load_blk (o := ⟨some 10, _, _, _, _, _⟩) rfl 29 (.tmp 3) rfl HA2 rfl Tryd.underlying29 rfl (by kernel_rfl) ?_)
      | (go_at_call 22; refine (KT _ HQ2.bw).mono ?_; rintro e w3 ⟨rfl, hb⟩; have HQ3 := HQ2.on hb; have HR := Lib.hid ((hr.below hb).mono hb.size); clear hb hr HQ2 HA2))
    have HQ4 := HQ3
    have HR4 := HR.out
    clear HQ3 HR
    obtain ⟨w4, hw4⟩ : ∃ x, w3 = x := ⟨_, rfl⟩
    rw [hw4] at HQ4 HR4 ⊢
    clear hw4
    obtain ⟨c0, c2, c3, f1, f2, f3, k1, k2, k3⟩ := HQ4.facts
    simp only at c0 k1 k2 k3
    have KC := contains_c A cap 1 ([2] : List Int) 2 w4 rfl (by decide) HR4
    rw [show decide ((2 : Int) ∈ ([2] : List Int)) = true by decide] at KC
    have HR5 := Lib.hid HR4
    clear HR4
    go_upto_region 7 with (first
      | (go_at_call 23; refine KC.mono ?_; rintro e w5 ⟨rfl, rfl⟩))
    clear KC
    have HQ5 := HQ4
    have HR6 := HR5.out
    clear c0 c2 c3 f1 f2 f3 k1 k2 k3 HQ4 HR5
    obtain ⟨w6, hw6⟩ : ∃ x, w4 = x := ⟨_, rfl⟩
    rw [hw6] at HQ5 HR6 ⊢
    clear hw6
    obtain ⟨c0, c2, c3, f1, f2, f3, k1, k2, k3⟩ := HQ5.facts
    simp only at c0 k1 k2 k3
    have KC := contains_c A cap 1 ([2] : List Int) 3 w6 rfl (by decide) HR6
    rw [show decide ((3 : Int) ∈ ([2] : List Int)) = false by decide] at KC
    clear HR6
    go_upto_region 8 with (first
      | (go_at_call 23; refine KC.mono ?_; rintro e w5 ⟨rfl, rfl⟩))
    clear KC
    go_upto_region 9 with (fail)
    have HQ6 := HQ5.s3 0
    simp only at HQ6
    clear c0 c2 c3 f1 f2 f3 k1 k2 k3 HQ5
    generalize w6.setCell ⟨g1, 3, none⟩ (.int .i64 0) = w8 at *
    rw [← HC.out] at HQ6
    obtain ⟨w9, hs, hb9, hbw⟩ := HQ6.out (P := Tryd.prog)
    have HJ := HQ6.2.1
    clear HQ6
    go_wp2_with (with_reducible refine load_blk (o := ⟨some 26, _, _, _, _, _⟩) rfl 29 (.tmp 1) rfl HJ rfl Tryd.underlying29 rfl (by kernel_rfl) ?_)
    exact bodyPost_ret (results_blk1 rfl rfl hb9 Tryd.underlying29 rfl (by kernel_rfl)) rfl ⟨rfl, hbw⟩
  case true.true.true =>
    as_aux_lemma =>
    have HC := Lib.hid HC1
    clear HC1
    go_enter Tryd.func15, Tryd.ntmps15
    go_upto_region 2 with (fail)
    have HQ : Q3 w w.heap.size (w.heap.size + 1) (w.heap.size + 1 + 1) ⟨op, rd, rs1, rs2, imm, aq, rl, pred, succ⟩ (((w.alloc (.cells (insCells ⟨op, rd, rs1, rs2, imm, aq, rl, pred, succ⟩) 29)).alloc (.cells (insCells noIns) 29)).alloc (.cells (insCells (askI op)) 29)) := by
      have a1 : (w.alloc (.cells (insCells ⟨op, rd, rs1, rs2, imm, aq, rl, pred, succ⟩) 29)).heap.size = w.heap.size + 1 := by simp
      have a2 : ((w.alloc (.cells (insCells ⟨op, rd, rs1, rs2, imm, aq, rl, pred, succ⟩) 29)).alloc (.cells (insCells noIns) 29)).heap.size = w.heap.size + 1 + 1 := by simp
      have b2 := Blk.new (insCells noIns) 29 (w.alloc (.cells (insCells ⟨op, rd, rs1, rs2, imm, aq, rl, pred, succ⟩) 29))
      have b3 := Blk.new (insCells (askI op)) 29 ((w.alloc (.cells (insCells ⟨op, rd, rs1, rs2, imm, aq, rl, pred, succ⟩) 29)).alloc (.cells (insCells noIns) 29))
      rw [a1] at b2
      rw [a2] at b3
      exact ⟨BW.new (BW.new (BW.new (Below.refl _ _) _) _) _, ((Blk.new _ _ w).alloc _).alloc _, b2.alloc _, b3, Nat.le_refl _, by omega, by omega, by omega⟩
    unfold insCells askI noIns at HQ
    simp only at HQ
    generalize ((w.alloc (.cells _ 29)).alloc (.cells _ 29)).alloc (.cells _ 29) = w1 at *
    obtain ⟨g3, hg3⟩ : ∃ g, w.heap.size + 1 + 1 = g := ⟨_, rfl⟩
    rw [hg3] at HQ ⊢
    obtain ⟨g2, hg2⟩ : ∃ g, w.heap.size + 1 = g := ⟨_, rfl⟩
    rw [hg2] at HQ ⊢
    obtain ⟨g1, hg1⟩ : ∃ g, w.heap.size = g := ⟨_, rfl⟩
    have HQ1 : Q3 w g1 g2 g3 ⟨op, rd, rs1, rs2, imm, aq, rl, pred, succ⟩ w1 := by rw [← hg1]; exact HQ
    rw [hg1]
    clear HQ hg1 hg2 hg3
    have HA := HQ1.ask
    go_upto_region 5 with (first
      | (with_reducible refine load_blk (o := ⟨some 8, _, _, _, _, _⟩) rfl 29 (.tmp 3) rfl HA rfl Tryd.underlying29 rfl (by kernel_rfl) ?_)
      | (go_at_call 21; refine (KS _ HQ1.bw).mono ?_; rintro e w2 ⟨A, cap, rfl, hr, hb, hw⟩; have HQ2 := HQ1.on hb; have HA2 := HQ2.ask; have HW := HQ1.apart hw; clear hb hw HQ1 HA)
      | (with_reducible refine load_blk (o := ⟨some 10, _, _, _, _, _⟩) rfl 29 (.tmp 3) rfl HA2 rfl Tryd.underlying29 rfl (by kernel_rfl) ?_)
      | (go_at_call 22; refine (KT _ HQ2.bw).mono ?_; rintro e w3 ⟨rfl, hb⟩; have HQ3 := HQ2.on hb; have HR := Lib.hid ((hr.below hb).mono hb.size); clear hb hr HQ2 HA2))
    have HQ4 := HQ3
    have HR4 := HR.out
    clear HQ3 HR
    obtain ⟨w4, hw4⟩ : ∃ x, w3 = x := ⟨_, rfl⟩
    rw [hw4] at HQ4 HR4 ⊢
    clear hw4
    obtain ⟨c0, c2, c3, f1, f2, f3, k1, k2, k3⟩ := HQ4.facts
    simp only at c0 k1 k2 k3
    have KC := contains_c A cap 2 ([2, 3] : List Int) 2 w4 rfl (by decide) HR4
    rw [show decide ((2 : Int) ∈ ([2, 3] : List Int)) = true by decide] at KC
    have HR5 := Lib.hid HR4
    clear HR4
    go_upto_region 7 with (first
      | (go_at_call 23; refine KC.mono ?_; rintro e w5 ⟨rfl, rfl⟩))
    clear KC
    have HQ5 := HQ4
    have HR6 := HR5.out
    clear c0 c2 c3 f1 f2 f3 k1 k2 k3 HQ4 HR5
    obtain ⟨w6, hw6⟩ : ∃ x, w4 = x := ⟨_, rfl⟩
    rw [hw6] at HQ5 HR6 ⊢
    clear hw6
    obtain ⟨c0, c2, c3, f1, f2, f3, k1, k2, k3⟩ := HQ5.facts
    simp only at c0 k1 k2 k3
    have KC := contains_c A cap 2 ([2, 3] : List Int) 3 w6 rfl (by decide) HR6
    rw [show decide ((3 : Int) ∈ ([2, 3] : List Int)) = true by decide] at KC
    clear HR6
    go_upto_region 9 with (first
      | (go_at_call 23; refine KC.mono ?_; rintro e w5 ⟨rfl, rfl⟩))
    clear KC
    have HQ6 := HQ5
    clear c0 c2 c3 f1 f2 f3 k1 k2 k3 HQ5
    obtain ⟨w8, hw8⟩ : ∃ x, w6 = x := ⟨_, rfl⟩
    rw [hw8] at HQ6 ⊢
    clear hw8
    rw [← HC.out] at HQ6
    obtain ⟨w9, hs, hb9, hbw⟩ := HQ6.out (P := Tryd.prog)
    have HJ := HQ6.2.1
    clear HQ6
    go_wp2_with (with_reducible refine load_blk (o := ⟨some 26, _, _, _, _, _⟩) rfl 29 (.tmp 1) rfl HJ rfl Tryd.underlying29 rfl (by kernel_rfl) ?_)
    exact bodyPost_ret (results_blk1 rfl rfl hb9 Tryd.underlying29 rfl (by kernel_rfl)) rfl ⟨rfl, hbw⟩
end Go.Proofs.YtbnacdhhacafkaaDoor
/- The program's Decode; what is asked of package decode is so ('cdec'), behind the tables that the code lays. -/
namespace Go.Proofs.YtbnacdhhacafkaaDoor
open Go.RowKit

theorem insV_agg (z : Ins) : insV z = .agg (insCells z) := rfl
/-- The result's block is written whole. -/
theorem res_out {P : Program} {W W0 w : World} {z : Ins} (i : Ins) (hr : Blk (insCells z) 29 W.heap.size W0) (hb : Below W.heap.size W W0) (h : BW W0 w) :
    ∃ w', (storeCells ⟨W.heap.size, 0, none⟩ (insCells i).toList 0).run P w = .ok () w' ∧ Blk (insCells i) 29 W.heap.size w' ∧ BW W w' := by
  obtain ⟨w', h1, h2, h3⟩ := (hr.within h hr.lt).store (P := P) (insCells i).toList rfl (ins_one i)
  refine ⟨w', h1, h2, ?_⟩
  have hbw : Below W.heap.size W w := hb.trans (Below.mono h hb.size)
  exact Below.stored hbw h3 (Nat.le_refl _) hbw.size
theorem oc47 : ∀ k : Fin 75, (ocV ((k.val : Int) + 1) = 47 ↔ 10 ≤ srt ((k.val : Int) + 1)) ∧ (ocV ((k.val : Int) + 1) = 15 ↔ ((k.val : Int) + 1 = 50 ∨ (k.val : Int) + 1 = 51)) := by decide
theorem oc47' {op : Int} (h : 1 ≤ op ∧ op ≤ 75) : (ocV op = 47 ↔ 10 ≤ srt op) ∧ (ocV op = 15 ↔ (op = 50 ∨ op = 51)) := by
  have := oc47 ⟨op.toNat - 1, by omega⟩
  simp only [show ((op.toNat - 1 : Nat) : Int) + 1 = op by omega] at this
  exact this
/-- The instruction of a word, before Clean. -/
def rawI (v op : Int) (aq rl : Bool) (pred succ : Int) : Ins := ⟨op, v / 128 % 32, v / 32768 % 32, v / 1048576 % 32, immV v op, aq, rl, pred, succ⟩
theorem raw_i64 {v op : Int} {aq rl : Bool} {p s : Int} (h : 1 ≤ op ∧ op ≤ 75) : I64 (rawI v op aq rl p s).op := ⟨by show _ ≤ op; omega, by show op ≤ _; omega⟩
theorem raw_at {v op : Int} (h : 1 ≤ op ∧ op ≤ 75) (hi : Isw v op) :
    (ocV op = 47 → insOf v op = clnI (rawI v op (decide (v / 67108864 % 2 = 1)) (decide (v / 33554432 % 2 = 1)) 0 0)) ∧
    (ocV op = 15 → insOf v op = clnI (rawI v op false false (v / 16777216 % 16) (v / 1048576 % 16))) ∧
    (ocV op ≠ 47 → ocV op ≠ 15 → insOf v op = clnI (rawI v op false false 0 0)) := by
  obtain ⟨h1, h2⟩ := oc47' h
  refine ⟨fun e => ?_, fun e => ?_, fun e e' => ?_⟩
  · have hs := h1.1 e
    have hn : op ≠ 50 ∧ op ≠ 51 := by
      refine ⟨fun g => ?_, fun g => ?_⟩
      · subst g; exact absurd e (by decide)
      · subst g; exact absurd e (by decide)
    unfold insOf clnI rawI immV
    simp [hs, hn.1, hn.2]
  · have hs : ¬ 10 ≤ srt op := fun g => by have := h1.2 g; omega
    rcases h2.1 e with rfl | rfl
    · unfold insOf clnI rawI immV
      simp [hs]
    · have h7 := hi.nrm.n8 (by decide)
      have a1 : v / 16777216 % 16 = 3 := by omega
      have a2 : v / 1048576 % 16 = 3 := by omega
      unfold insOf clnI rawI immV
      simp [hs, a1, a2]
  · have hs : ¬ 10 ≤ srt op := fun g => e (h1.2 g)
    have hn : op ≠ 50 ∧ op ≠ 51 := ⟨fun g => e' (h2.2 (.inl g)), fun g => e' (h2.2 (.inr g))⟩
    unfold insOf clnI rawI immV
    simp [hs, hn.1, hn.2]

set_option maxHeartbeats 2000000 in
theorem decode_no (v : Int) (hv : U32 v) (h0 : opW v = 0) (w : World) (T : Tab6 w) :
    Calls Tryd.prog 16 #[.int .u32 v] w fun e w' => e = .returned (.tuple #[insV (decI v), .int .i64 (decE v)]) ∧ Below w.heap.size w w' := by
  have KO := fun x (h : BW w x) => operation_c v hv x (T.below h)
  have HD1 : Hid (decI v = noIns) := by show _ = _; unfold decI; rw [if_pos h0]
  have HD2 : Hid (decE v = 2) := by show _ = _; unfold decE decB; rw [h0]; rfl
  rw [h0] at KO
  clear h0 T
  go_enter Tryd.func16, Tryd.ntmps16
  go_upto_region 1 with (fail)
  have HR : Hid (Blk (insCells noIns) 29 w.heap.size (w.alloc (.cells (insCells noIns) 29))) := Blk.new _ _ w
  have HB0 : Hid (Below w.heap.size w (w.alloc (.cells (insCells noIns) 29))) := (Below.refl _ _).alloc (Nat.le_refl _) _
  unfold noIns insCells at HR HB0
  simp only at HR HB0
  generalize w.alloc (.cells _ 29) = w0 at *
  have HRN : Hid (Blk (insCells noIns) 29 w.heap.size w0) := HR.out
  clear HR
  go_upto_region 3 with (first
    | (go_at_call 24; refine (KO _ HB0.out).mono ?_; rintro e w4 ⟨rfl, hb⟩; have HZ := Lib.hid (HRN.out.on hb); have HB2 := Lib.hid (BW.on HB0.out hb); clear hb))
  have c0 := HZ.out.cell 0
  have c1 := HZ.out.cell 1
  have c2 := HZ.out.cell 2
  have c3 := HZ.out.cell 3
  have c4 := HZ.out.cell 4
  have c5 := HZ.out.cell 5
  have c6 := HZ.out.cell 6
  have c7 := HZ.out.cell 7
  have c8 := HZ.out.cell 8
  simp only [noIns, insCells] at c0 c1 c2 c3 c4 c5 c6 c7 c8
  have f0 := HZ.out.free 0
  have f1 := HZ.out.free 1
  have f2 := HZ.out.free 2
  have f3 := HZ.out.free 3
  have f4 := HZ.out.free 4
  have f5 := HZ.out.free 5
  have f6 := HZ.out.free 6
  have f7 := HZ.out.free 7
  have f8 := HZ.out.free 8
  go_wp2
  rw [HD1.out, HD2.out]
  have HW := (((((((((HZ.out.set 0 (.int .i64 0)).set 1 (.int .i64 0)).set 2 (.int .i64 0)).set 3 (.int .i64 0)).set 4 (.int .i64 0)).set 5 (.bool false)).set 6 (.bool false)).set 7 (.int .i64 0)).set 8 (.int .i64 0))
  have HW' : Blk (insCells noIns) 29 w.heap.size _ := HW
  refine bodyPost_ret (results_blk rfl rfl HW' Tryd.underlying29 rfl (by kernel_rfl)) rfl ⟨rfl, ?_⟩
  exact ((((((((HB2.out.setCell (Nat.le_refl _) _).setCell (Nat.le_refl _) _).setCell (Nat.le_refl _) _).setCell (Nat.le_refl _) _).setCell (Nat.le_refl _) _).setCell (Nat.le_refl _) _).setCell (Nat.le_refl _) _).setCell (Nat.le_refl _) _).setCell (Nat.le_refl _) _
set_option maxHeartbeats 2000000 in
theorem decode_other (v : Int) (hv : U32 v) (h0 : opW v ≠ 0) (hoc : ocV (opW v) ≠ 47 ∧ ocV (opW v) ≠ 15) (w : World) (T : Tab6 w) :
    Calls Tryd.prog 16 #[.int .u32 v] w fun e w' => e = .returned (.tuple #[insV (decI v), .int .i64 (decE v)]) ∧ Below w.heap.size w w' := by
  obtain ⟨h1, hi⟩ := opW_isw h0
  have hq := hi.1
  have KO := fun x (h : BW w x) => operation_c v hv x (T.below h)
  have HD1 : decI v = insOf v (opW v) := by unfold decI; rw [if_neg h0]
  have HD2 : Hid (decE v = 0) := decE_yes h0
  have HRW := (raw_at h1 hi).2.2 hoc.1 hoc.2
  have KI := fun x (h : BW w x) => imm_c (opW v) v hv h1 hq x (T.below h)
  have KP := fun x => opcode_c0 v hv x
  rw [hq] at KP
  have P1 := fun x => part_c v 11 7 hv x
  have P2 := fun x => part_c v 19 15 hv x
  have P3 := fun x => part_c v 24 20 hv x
  rw [fo_rd] at P1
  rw [fo_r1] at P2
  rw [fo_r2] at P3
  have KC := fun x (h : BW w x) => clean_c (rawI v (opW v) false false 0 0) (raw_i64 h1) x (T.below h)
  rw [← HRW, ← HD1] at KC
  have KC : ∀ x, BW w x → Calls Tryd.prog 15 #[insV (rawI v (opW v) false false 0 0)] x fun e w' => e = .returned (.agg (insCells (decI v))) ∧ Below x.heap.size x w' := fun x h => by have := KC x h; rw [insV_agg (decI v)] at this; exact this
  unfold rawI insV at KC
  have hb0 : (opW v == 0) = false := by simpa using h0
  rw [insV_agg]
  clear HD1 HRW T hi h1 h0 hv
  generalize decI v = zz at *
  generalize decE v = ee at *
  simp only at KC
  generalize hI : immV v (opW v) = imm at *
  generalize hX : v / 128 % 32 = x1 at *
  generalize hY : v / 32768 % 32 = x2 at *
  generalize hZ : v / 1048576 % 32 = x3 at *
  clear hI hX hY hZ
  generalize opW v = op at *
  have b47 : (ocV op == 47) = false := by simpa using hoc.1
  have b15 : (ocV op == 15) = false := by simpa using hoc.2
  generalize ocV op = q at *
  clear hoc hq
  go_enter Tryd.func16, Tryd.ntmps16
  go_upto_region 1 with (fail)
  have HR : Hid (Blk (insCells noIns) 29 w.heap.size (w.alloc (.cells (insCells noIns) 29))) := Blk.new _ _ w
  have HB0 : Hid (Below w.heap.size w (w.alloc (.cells (insCells noIns) 29))) := (Below.refl _ _).alloc (Nat.le_refl _) _
  unfold noIns insCells at HR HB0
  simp only at HR HB0
  generalize w.alloc (.cells _ 29) = w0 at *
  have HRN : Hid (Blk (insCells noIns) 29 w.heap.size w0) := HR.out
  clear HR
  go_upto_region 5 with (first
    | (go_at_call 24; refine (KO _ HB0.out).mono ?_; rintro e w4 ⟨rfl, hb⟩; have HB4 := Lib.hid hb; clear hb)
    | (go_at_call 25; ((with_reducible refine (P1 _).mono ?_); rintro e wz ⟨rfl, rfl⟩))
    | (go_at_call 25; ((with_reducible refine (P2 _).mono ?_); rintro e wz ⟨rfl, rfl⟩))
    | (go_at_call 25; ((with_reducible refine (P3 _).mono ?_); rintro e wz ⟨rfl, rfl⟩))
    | (go_at_call 26; refine (KI _ (BW.on HB0.out HB4.out)).mono ?_; rintro e w5 ⟨rfl, hb⟩; have HB5 := Lib.hid (show BW w0 w5 from BW.on HB4.out hb); clear hb))
  have HJ : Jn w0 ⟨op, x1, x2, x3, imm, false, false, 0, 0⟩ w5.heap.size (w5.alloc (.cells (insCells ⟨op, x1, x2, x3, imm, false, false, 0, 0⟩) 29)) := ⟨BW.new HB5.out _, Blk.new _ _ _, Below.size HB5.out⟩
  unfold insCells at HJ
  simp only at HJ
  generalize w5.alloc (.cells _ 29) = w6 at *
  obtain ⟨g, hg⟩ : ∃ g, w5.heap.size = g := ⟨_, rfl⟩
  rw [hg] at HJ ⊢
  clear hg HB5 HB4
  obtain ⟨c0, c1, c2, c3, c4, c5, c6, c7, c8⟩ := HJ.cells
  obtain ⟨f1, f2, f3, f4, f5, f6, f7, f8⟩ := HJ.frees
  simp only at c0 c1 c2 c3 c4 c5 c6 c7 c8
  go_upto_region 10 with (first
    | (go_at_call 27; refine (KP _).mono ?_; rintro e wz ⟨rfl, rfl⟩))
  clear c0 c1 c2 c3 c4 c5 c6 c7 c8 f1 f2 f3 f4 f5 f6 f7 f8
  have HBB := HJ.2.1
  go_wp2_with (first
    | (with_reducible refine load_blk (o := ⟨some 42, _, _, _, _, _⟩) rfl 29 (.tmp 5) rfl HBB rfl Tryd.underlying29 rfl (by kernel_rfl) ?_)
    | (go_at_call 15; refine (KC _ (BW.on HB0.out HJ.1)).mono ?_; rintro e w8 ⟨rfl, hb⟩; obtain ⟨w9, hs, hb9, hbw⟩ := res_out (P := Tryd.prog) zz HRN.out HB0.out (HJ.1.on hb); clear hb))
  rw [HD2.out]
  exact bodyPost_ret (results_blk rfl rfl hb9 Tryd.underlying29 rfl (by kernel_rfl)) rfl ⟨rfl, hbw⟩
set_option maxHeartbeats 2000000 in
theorem decode_at (v : Int) (hv : U32 v) (h0 : opW v ≠ 0) (hoc : ocV (opW v) = 47) (ba bl : Bool) (HRW : insOf v (opW v) = clnI (rawI v (opW v) ba bl 0 0)) (e4 : (v / 67108864 % 2 == 1) = ba) (e5 : (v / 33554432 % 2 == 1) = bl) (w : World) (T : Tab6 w) :
    Calls Tryd.prog 16 #[.int .u32 v] w fun e w' => e = .returned (.tuple #[insV (decI v), .int .i64 (decE v)]) ∧ Below w.heap.size w w' := by
  obtain ⟨h1, hi⟩ := opW_isw h0
  have hq := hi.1
  have KO := fun x (h : BW w x) => operation_c v hv x (T.below h)
  have HD1 : decI v = insOf v (opW v) := by unfold decI; rw [if_neg h0]
  have HD2 : Hid (decE v = 0) := decE_yes h0
  have KI := fun x (h : BW w x) => imm_c (opW v) v hv h1 hq x (T.below h)
  have KP := fun x => opcode_c0 v hv x
  rw [hq] at KP
  have P1 := fun x => part_c v 11 7 hv x
  have P2 := fun x => part_c v 19 15 hv x
  have P3 := fun x => part_c v 24 20 hv x
  have P4 := fun x => part_c v 26 26 hv x
  have P5 := fun x => part_c v 25 25 hv x
  rw [fo_aq] at P4
  rw [fo_rl] at P5
  rw [hoc] at KP
  rw [fo_rd] at P1
  rw [fo_r1] at P2
  rw [fo_r2] at P3
  have KC := fun x (h : BW w x) => clean_c (rawI v (opW v) ba bl 0 0) (raw_i64 h1) x (T.below h)
  rw [← HRW, ← HD1] at KC
  have KC : ∀ x, BW w x → Calls Tryd.prog 15 #[insV (rawI v (opW v) ba bl 0 0)] x fun e w' => e = .returned (.agg (insCells (decI v))) ∧ Below x.heap.size x w' := fun x h => by have := KC x h; rw [insV_agg (decI v)] at this; exact this
  unfold rawI insV at KC
  have hb0 : (opW v == 0) = false := by simpa using h0
  rw [insV_agg]
  clear HD1 HRW T hi h1 h0 hv
  generalize decI v = zz at *
  generalize decE v = ee at *
  simp only at KC
  generalize hI : immV v (opW v) = imm at *
  generalize hX : v / 128 % 32 = x1 at *
  generalize hY : v / 32768 % 32 = x2 at *
  generalize hZ : v / 1048576 % 32 = x3 at *
  clear hI hX hY hZ
  generalize opW v = op at *
  generalize v / 67108864 % 2 = x4 at *
  generalize v / 33554432 % 2 = x5 at *
  clear hoc hq
  go_enter Tryd.func16, Tryd.ntmps16
  go_upto_region 1 with (fail)
  have HR : Hid (Blk (insCells noIns) 29 w.heap.size (w.alloc (.cells (insCells noIns) 29))) := Blk.new _ _ w
  have HB0 : Hid (Below w.heap.size w (w.alloc (.cells (insCells noIns) 29))) := (Below.refl _ _).alloc (Nat.le_refl _) _
  unfold noIns insCells at HR HB0
  simp only at HR HB0
  generalize w.alloc (.cells _ 29) = w0 at *
  have HRN : Hid (Blk (insCells noIns) 29 w.heap.size w0) := HR.out
  clear HR
  go_upto_region 5 with (first
    | (go_at_call 24; refine (KO _ HB0.out).mono ?_; rintro e w4 ⟨rfl, hb⟩; have HB4 := Lib.hid hb; clear hb)
    | (go_at_call 25; ((with_reducible refine (P1 _).mono ?_); rintro e wz ⟨rfl, rfl⟩))
    | (go_at_call 25; ((with_reducible refine (P2 _).mono ?_); rintro e wz ⟨rfl, rfl⟩))
    | (go_at_call 25; ((with_reducible refine (P3 _).mono ?_); rintro e wz ⟨rfl, rfl⟩))
    | (go_at_call 26; refine (KI _ (BW.on HB0.out HB4.out)).mono ?_; rintro e w5 ⟨rfl, hb⟩; have HB5 := Lib.hid (show BW w0 w5 from BW.on HB4.out hb); clear hb))
  have HJ : Jn w0 ⟨op, x1, x2, x3, imm, false, false, 0, 0⟩ w5.heap.size (w5.alloc (.cells (insCells ⟨op, x1, x2, x3, imm, false, false, 0, 0⟩) 29)) := ⟨BW.new HB5.out _, Blk.new _ _ _, Below.size HB5.out⟩
  unfold insCells at HJ
  simp only at HJ
  generalize w5.alloc (.cells _ 29) = w6 at *
  obtain ⟨g, hg⟩ : ∃ g, w5.heap.size = g := ⟨_, rfl⟩
  rw [hg] at HJ ⊢
  clear hg HB5 HB4
  obtain ⟨c0, c1, c2, c3, c4, c5, c6, c7, c8⟩ := HJ.cells
  obtain ⟨f1, f2, f3, f4, f5, f6, f7, f8⟩ := HJ.frees
  simp only at c0 c1 c2 c3 c4 c5 c6 c7 c8
  go_upto_region 10 with (first
    | (go_at_call 27; refine (KP _).mono ?_; rintro e wz ⟨rfl, rfl⟩)
    | (go_at_call 25; ((with_reducible refine (P4 _).mono ?_); rintro e wz ⟨rfl, rfl⟩))
    | (go_at_call 25; ((with_reducible refine (P5 _).mono ?_); rintro e wz ⟨rfl, rfl⟩)))
  have HJ := (HJ.s5 ba).s6 bl
  simp only at HJ
  try rw [e4]
  try rw [e5]
  generalize (w6.setCell ⟨g, 5, none⟩ (.bool ba)).setCell ⟨g, 6, none⟩ (.bool bl) = w7 at *
  clear c0 c1 c2 c3 c4 c5 c6 c7 c8 f1 f2 f3 f4 f5 f6 f7 f8
  have HBB := HJ.2.1
  go_wp2_with (first
    | (with_reducible refine load_blk (o := ⟨some 42, _, _, _, _, _⟩) rfl 29 (.tmp 5) rfl HBB rfl Tryd.underlying29 rfl (by kernel_rfl) ?_)
    | (go_at_call 15; refine (KC _ (BW.on HB0.out HJ.1)).mono ?_; rintro e w8 ⟨rfl, hb⟩; obtain ⟨w9, hs, hb9, hbw⟩ := res_out (P := Tryd.prog) zz HRN.out HB0.out (HJ.1.on hb); clear hb))
  rw [HD2.out]
  exact bodyPost_ret (results_blk rfl rfl hb9 Tryd.underlying29 rfl (by kernel_rfl)) rfl ⟨rfl, hbw⟩
set_option maxHeartbeats 2000000 in
theorem decode_fen (v : Int) (hv : U32 v) (h0 : opW v ≠ 0) (hoc : ocV (opW v) = 15) (w : World) (T : Tab6 w) :
    Calls Tryd.prog 16 #[.int .u32 v] w fun e w' => e = .returned (.tuple #[insV (decI v), .int .i64 (decE v)]) ∧ Below w.heap.size w w' := by
  obtain ⟨h1, hi⟩ := opW_isw h0
  have hq := hi.1
  have KO := fun x (h : BW w x) => operation_c v hv x (T.below h)
  have HD1 : decI v = insOf v (opW v) := by unfold decI; rw [if_neg h0]
  have HD2 : Hid (decE v = 0) := decE_yes h0
  have HRW := (raw_at h1 hi).2.1 hoc
  have KI := fun x (h : BW w x) => imm_c (opW v) v hv h1 hq x (T.below h)
  have KP := fun x => opcode_c0 v hv x
  rw [hq] at KP
  have P1 := fun x => part_c v 11 7 hv x
  have P2 := fun x => part_c v 19 15 hv x
  have P3 := fun x => part_c v 24 20 hv x
  have P4 := fun x => part_c v 27 24 hv x
  have P5 := fun x => part_c v 23 20 hv x
  rw [fo_pr] at P4
  rw [fo_su] at P5
  rw [hoc] at KP
  rw [fo_rd] at P1
  rw [fo_r1] at P2
  rw [fo_r2] at P3
  have KC := fun x (h : BW w x) => clean_c (rawI v (opW v) false false (v / 16777216 % 16) (v / 1048576 % 16)) (raw_i64 h1) x (T.below h)
  rw [← HRW, ← HD1] at KC
  have KC : ∀ x, BW w x → Calls Tryd.prog 15 #[insV (rawI v (opW v) false false (v / 16777216 % 16) (v / 1048576 % 16))] x fun e w' => e = .returned (.agg (insCells (decI v))) ∧ Below x.heap.size x w' := fun x h => by have := KC x h; rw [insV_agg (decI v)] at this; exact this
  unfold rawI insV at KC
  have hb0 : (opW v == 0) = false := by simpa using h0
  rw [insV_agg]
  clear HD1 HRW T hi h1 h0 hv
  generalize decI v = zz at *
  generalize decE v = ee at *
  simp only at KC
  generalize hI : immV v (opW v) = imm at *
  generalize hX : v / 128 % 32 = x1 at *
  generalize hY : v / 32768 % 32 = x2 at *
  generalize hZ : v / 1048576 % 32 = x3 at *
  clear hI hX hY hZ
  generalize opW v = op at *
  generalize v / 16777216 % 16 = x4 at *
  generalize v / 1048576 % 16 = x5 at *
  clear hoc hq
  go_enter Tryd.func16, Tryd.ntmps16
  go_upto_region 1 with (fail)
  have HR : Hid (Blk (insCells noIns) 29 w.heap.size (w.alloc (.cells (insCells noIns) 29))) := Blk.new _ _ w
  have HB0 : Hid (Below w.heap.size w (w.alloc (.cells (insCells noIns) 29))) := (Below.refl _ _).alloc (Nat.le_refl _) _
  unfold noIns insCells at HR HB0
  simp only at HR HB0
  generalize w.alloc (.cells _ 29) = w0 at *
  have HRN : Hid (Blk (insCells noIns) 29 w.heap.size w0) := HR.out
  clear HR
  go_upto_region 5 with (first
    | (go_at_call 24; refine (KO _ HB0.out).mono ?_; rintro e w4 ⟨rfl, hb⟩; have HB4 := Lib.hid hb; clear hb)
    | (go_at_call 25; ((with_reducible refine (P1 _).mono ?_); rintro e wz ⟨rfl, rfl⟩))
    | (go_at_call 25; ((with_reducible refine (P2 _).mono ?_); rintro e wz ⟨rfl, rfl⟩))
    | (go_at_call 25; ((with_reducible refine (P3 _).mono ?_); rintro e wz ⟨rfl, rfl⟩))
    | (go_at_call 26; refine (KI _ (BW.on HB0.out HB4.out)).mono ?_; rintro e w5 ⟨rfl, hb⟩; have HB5 := Lib.hid (show BW w0 w5 from BW.on HB4.out hb); clear hb))
  have HJ : Jn w0 ⟨op, x1, x2, x3, imm, false, false, 0, 0⟩ w5.heap.size (w5.alloc (.cells (insCells ⟨op, x1, x2, x3, imm, false, false, 0, 0⟩) 29)) := ⟨BW.new HB5.out _, Blk.new _ _ _, Below.size HB5.out⟩
  unfold insCells at HJ
  simp only at HJ
  generalize w5.alloc (.cells _ 29) = w6 at *
  obtain ⟨g, hg⟩ : ∃ g, w5.heap.size = g := ⟨_, rfl⟩
  rw [hg] at HJ ⊢
  clear hg HB5 HB4
  obtain ⟨c0, c1, c2, c3, c4, c5, c6, c7, c8⟩ := HJ.cells
  obtain ⟨f1, f2, f3, f4, f5, f6, f7, f8⟩ := HJ.frees
  simp only at c0 c1 c2 c3 c4 c5 c6 c7 c8
  go_upto_region 10 with (first
    | (go_at_call 27; refine (KP _).mono ?_; rintro e wz ⟨rfl, rfl⟩)
    | (go_at_call 25; ((with_reducible refine (P4 _).mono ?_); rintro e wz ⟨rfl, rfl⟩))
    | (go_at_call 25; ((with_reducible refine (P5 _).mono ?_); rintro e wz ⟨rfl, rfl⟩)))
  have HJ := (HJ.s7 x4).s8 x5
  simp only at HJ
  generalize (w6.setCell ⟨g, 7, none⟩ (.int .i64 x4)).setCell ⟨g, 8, none⟩ (.int .i64 x5) = w7 at *
  clear c0 c1 c2 c3 c4 c5 c6 c7 c8 f1 f2 f3 f4 f5 f6 f7 f8
  have HBB := HJ.2.1
  go_wp2_with (first
    | (with_reducible refine load_blk (o := ⟨some 42, _, _, _, _, _⟩) rfl 29 (.tmp 5) rfl HBB rfl Tryd.underlying29 rfl (by kernel_rfl) ?_)
    | (go_at_call 15; refine (KC _ (BW.on HB0.out HJ.1)).mono ?_; rintro e w8 ⟨rfl, hb⟩; obtain ⟨w9, hs, hb9, hbw⟩ := res_out (P := Tryd.prog) zz HRN.out HB0.out (HJ.1.on hb); clear hb))
  rw [HD2.out]
  exact bodyPost_ret (results_blk rfl rfl hb9 Tryd.underlying29 rfl (by kernel_rfl)) rfl ⟨rfl, hbw⟩
theorem beq_dec (x : Int) : (x == 1) = decide (x = 1) := rfl
theorem decode_c (v : Int) (hv : U32 v) (w : World) (T : Tab6 w) :
    Calls Tryd.prog 16 #[.int .u32 v] w fun e w' => e = .returned (.tuple #[insV (decI v), .int .i64 (decE v)]) ∧ Below w.heap.size w w' := by
  by_cases h0 : opW v = 0
  · exact decode_no v hv h0 w T
  by_cases h1 : ocV (opW v) = 47
  · exact decode_at v hv h0 h1 _ _ ((raw_at (opW_isw h0).1 (opW_isw h0).2).1 h1) (beq_dec _) (beq_dec _) w T
  by_cases h2 : ocV (opW v) = 15
  · exact decode_fen v hv h0 h2 w T
  exact decode_other v hv h0 ⟨h1, h2⟩ w T
theorem cdec {W : World} (T : Tab6 W) : Cdec W :=
  ⟨fun v w h hv => decode_c v hv w (T.below h),
   fun op w h ho => (opcode_c op ho w (T.below h)).mono fun _ _ ⟨he, hw⟩ => ⟨he, by subst hw; exact Below.refl _ _⟩,
   fun i w h ho => clean_c i ho w (T.below h)⟩
end Go.Proofs.YtbnacdhhacafkaaDoor
