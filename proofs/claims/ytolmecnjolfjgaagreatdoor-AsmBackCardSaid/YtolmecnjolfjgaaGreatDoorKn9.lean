/- The program's small functions of package show: annotation, register, shape, isMark, set, readSet. The program's set and readSet. The program's Number and Register. The program's Register, part, Text. The program's part and Text. The program's Text. -/
import Derived.Test.YtolmecnjolfjgaaGreatDoorRows
import Derived.Test.YtolmecnjolfjgaaGreatDoorSf
import Derived.Test.YtolmecnjolfjgaaGreatDoorPt
import Derived.Test.YtolmecnjolfjgaaGreatDoorOp5
import Derived.Test.YtolmecnjolfjgaaGreatDoorWx
import Derived.WalkKit
import Derived.WalkLawsBesides
import Derived.Deep.QuietTactic
import Derived.BigQuiet
import Derived.WalkSmall
import Derived.WalkSpells
import Derived.Lib.Hide
import Derived.Below
import Derived.LoopTactic
import Derived.Outline
import Derived.OwnWalk
import Derived.Laws.AppendOwn
import Derived.Test.YtolmecnjolfjgaaGreatDoorRt0
import Derived.Deep.LoopGhost
import Derived.Lib.SmallJoins
import Derived.Lib.ConvBytes
import Derived.Test.YtolmecnjolfjgaaGreatDoorEi
import Derived.StillTailTactics
import Derived.Deep.Cut
import Derived.Test.YtolmecnjolfjgaaGreatDoorJn
set_option maxRecDepth 100000
namespace Go.Proofs.YtolmecnjolfjgaaGreatDoor
open Go.RowKit

theorem ret_tx {a b : List UInt8} (h : a = b) : Ending.returned (.string (bs a)) = .returned (tx b) := by rw [h]; rfl
theorem annot_c (aq rl : Bool) (w : World) : Calls Tryz.prog 63 #[.bool aq, .bool rl] w fun e w' => e = .returned (tx (annT aq rl)) ∧ w = w' := by
  cases aq <;> cases rl
  all_goals
    go_enter Tryz.func63, Tryz.ntmps63
    go_wp2
    go_ret
    exact ⟨rfl, rfl⟩
theorem sregister_c (r : Int) (h : 0 ≤ r ∧ r ≤ 31) (w : World) : Calls Tryz.prog 119 #[.int .i64 r] w fun e w' => e = .returned (tx (regT r)) ∧ w = w' := by
  have HK : ∀ w, Calls Tryz.prog 165 #[.int .i64 r] w fun e w' => e = .returned (.string (bs (digI r))) ∧ w' = w := by
    intro w
    have := Tryz.strconv_Itoa_small r.toNat (by omega) w
    rw [show ((r.toNat : Nat) : Int) = r by omega, reg_dec h] at this
    exact this
  have hl : (digI r).length ≤ 20 := by
    unfold digI
    rw [if_neg (by omega)]
    exact digF_len 20 _
  have HV : Hid (regT r = 120 :: digI r) := rfl
  have ha : ∀ w2 : World, (Op.stringOp .add (⟨#[120]⟩ : ByteArray) (bs (digI r))).run Tryz.prog w2 = .ok (.string (bs (120 :: digI r))) w2 := fun w2 => run_string_add_lists w2 [120] (digI r) (by decide) (by omega)
  generalize digI r = d at *
  clear hl h
  go_enter Tryz.func119, Tryz.ntmps119
  go_wp2_with (first
    | (go_at_call 165; refine (HK _).mono ?_; rintro e w' ⟨rfl, rfl⟩))
  go_ret
  exact ⟨ret_tx HV.out.symm, rfl⟩

/-! ### Shapes -/
def TabT (g : Nat) (l : List (List UInt8)) (w : World) : Prop := ∀ i, i < l.length → w.cell? ⟨g, i, none⟩ = some (tx (l.getD i []))
theorem TabT.below {g : Nat} {l : List (List UInt8)} {W w : World} (h : TabT g l W) (hb : Below W.heap.size W w) : TabT g l w := fun i hi => by
  have hz := World.block_lt_of_cell? W _ (h i hi)
  rw [hb.cell (p := ⟨g, i, none⟩) hz]; exact h i hi
def TabS (w : World) : Prop := TabT 2 shpL w
theorem shape_c (op : Int) (ho : I64 op) (w : World) (hL : TabL w) (hS : TabS w) : Calls Tryz.prog 64 #[.int .i64 op] w fun e w' => e = .returned (tx (shpT op)) ∧ w = w' := by
  have hs := srt_spec op
  have KS := fun w hT => sort_c op ho w hT
  by_cases h3 : op = 3
  · subst h3
    have hc := hS 1 (by decide)
    unfold tx at hc
    have HV : Hid (shpL.getD 1 [] = shpT 3) := rfl
    clear hs KS hL hS ho
    generalize shpL.getD 1 [] = q at *
    go_enter Tryz.func64, Tryz.ntmps64
    go_wp2
    go_ret
    exact ⟨ret_tx HV.out, rfl⟩
  by_cases h51 : op = 51
  · subst h51
    have hc := hS 9 (by decide)
    unfold tx at hc
    have HV : Hid (shpL.getD 9 [] = shpT 51) := rfl
    clear hs KS hL hS ho
    generalize shpL.getD 9 [] = q at *
    go_enter Tryz.func64, Tryz.ntmps64
    go_wp2
    go_ret
    exact ⟨ret_tx HV.out, rfl⟩
  obtain ⟨k, hk, hlt⟩ : ∃ k : Nat, srt op = (k : Int) ∧ k < 13 := ⟨(srt op).toNat, by omega, by omega⟩
  have hc := hS k hlt
  unfold tx at hc
  have HV : Hid (shpL.getD k [] = shpT op) := (shp_at h3 h51 hk).symm
  have hltI : (k : Int) < 13 := by omega
  have b3 : (op == 3) = false := by simpa using h3
  have b51 : (op == 51) = false := by simpa using h51
  rw [hk] at KS
  clear hs hk h3 h51
  generalize shpL.getD k [] = q at *
  go_enter Tryz.func64, Tryz.ntmps64
  go_wp2_with (first
    | (go_at_call 56; refine (KS _ hL).mono ?_; rintro e w' ⟨rfl, rfl⟩))
  go_ret
  exact ⟨ret_tx HV.out, rfl⟩

/-! ### Marks -/
theorem mark_idx : ∀ c : Fin 256, (decide (0 ≤ Lib.indexByte [32, 44, 40, 41] (UInt8.ofNat c.val))) = isMk (UInt8.ofNat c.val) := by decide +kernel
theorem isMark_c (c : UInt8) (w : World) : Calls Tryz.prog 232 #[.int .u8 (c.toNat : Int)] w fun e w' => e = .returned (.bool (isMk c)) ∧ w = w' := by
  have HK : ∀ w, Calls Tryz.prog 237 #[.string ⟨#[32, 44, 40, 41]⟩, .int .u8 (c.toNat : Int)] w fun e w' => e = .returned (.int .i64 (Lib.indexByte [32, 44, 40, 41] c)) ∧ w' = w := by
    intro w
    have := Tryz.strings_IndexByte ⟨#[32, 44, 40, 41]⟩ (c.toNat : Int) w
    rw [show ((c.toNat : Int)).toNat.toUInt8 = c by simp] at this
    exact this
  have HV : Hid (decide (0 ≤ Lib.indexByte [32, 44, 40, 41] c) = isMk c) := by
    have := mark_idx ⟨c.toNat, c.toNat_lt⟩
    simp only [UInt8.ofNat_toNat] at this
    exact this
  generalize Lib.indexByte [32, 44, 40, 41] c = x at *
  generalize isMk c = b at *
  go_enter Tryz.func232, Tryz.ntmps232
  go_wp2_with (first
    | (go_at_call 237; refine (HK _).mono ?_; rintro e w' ⟨rfl, rfl⟩))
  go_ret
  exact ⟨ret_bool HV.out, rfl⟩
end Go.Proofs.YtolmecnjolfjgaaGreatDoor
namespace Go.Proofs.YtolmecnjolfjgaaGreatDoor
open Go.RowKit

def letL : List UInt8 := [105, 111, 114, 119]
/-- The letters of a set's first k bits. -/
def preS (n : Int) : Nat → List UInt8
  | 0 => []
  | k + 1 => preS n k ++ (if n / 2 ^ (3 - k) % 2 = 1 then [letL.getD k 0] else [])
theorem pre_set : ∀ n : Fin 16, n.val ≠ 0 → setT (n.val : Int) = preS (n.val : Int) 4 := by decide +kernel
theorem pre_len (n : Int) (k : Nat) : (preS n k).length ≤ k := by
  induction k with
  | zero => exact Nat.le_refl _
  | succ k ih =>
    rw [preS, List.length_append]
    split <;> simp <;> omega
def cellsU8 (l : List UInt8) : List Value := l.map fun c => .int .u8 (c.toNat : Int)
theorem conv_own {w : World} {base m : Nat} {v : Value} {l : List UInt8} (h : w.ownsRow base 5 1 v m (cellsU8 l)) (hl : 0 < l.length) : (convert 22 9 v).run Tryz.prog w = .ok (tx l) w := by
  have hm : m = l.length := by have := h.1; unfold cellsU8 at this; rw [List.length_map] at this; omega
  subst hm
  obtain ⟨A, c, rfl, hr⟩ := own_form h
  rcases hr with e | ⟨b, off, rfl, hlt, hc⟩
  · exfalso
    have := congrArg List.length e
    unfold cellsU8 at this
    rw [List.length_map, List.length_nil] at this
    omega
  · refine run_convert_bytes_back (P := Tryz.prog) w 22 9 5 ⟨b, off, none⟩ c l (by kernel_rfl) (by kernel_rfl) (by kernel_rfl) ?_
    intro j hj
    have hx : (cellsU8 l)[j]? = some (.int .u8 (l[j].toNat : Int)) := by
      unfold cellsU8
      rw [List.getElem?_map, List.getElem?_eq_getElem hj]
      rfl
    have := hc j _ hx
    by_cases h0 : j = 0
    · subst h0; simpa [Addr.add] using this
    · simpa [Addr.add, h0] using this
theorem bits_at : ∀ n : Fin 16, ∀ k : Fin 4, (bits BinOp.and IntKind.i64 (n.val : Int) (8 / 2 ^ k.val) != 0) = decide ((n.val : Int) / 2 ^ (3 - k.val) % 2 = 1) := by decide +kernel
set_option maxHeartbeats 2000000 in
theorem sset_c (n : Int) (h : 0 ≤ n ∧ n < 16) (w : World) : Calls Tryz.prog 121 #[.int .i64 n] w fun e w' => e = .returned (tx (setT n)) ∧ Below w.heap.size w w' := by
  by_cases h0 : n = 0
  · subst h0
    go_enter Tryz.func121, Tryz.ntmps121
    go_wp2
    go_ret
    exact ⟨rfl, Below.refl _ _⟩
  obtain ⟨i0, hi, hz0, hz1, hz2⟩ := info_parts Tryz.info5
  have HB : Below w.heap.size w w := Below.refl _ _
  have hb0 : (n == 0) = false := by simpa using h0
  have hcv := Lib.run_convert_bytes_const (P := Tryz.prog) w 22 5 #[.int .u8 105, .int .u8 111, .int .u8 114, .int .u8 119] 4 4 Tryz.underlying22 Tryz.underlying5
  have HC : ∀ k, k < 4 → (w.alloc (.cells #[.int .u8 105, .int .u8 111, .int .u8 114, .int .u8 119] 5 (4, 5))).cell? ⟨w.heap.size, k, none⟩ = some (.int .u8 ((letL.getD k 0).toNat : Int)) := by
    intro k hk
    have hk : k = 0 ∨ k = 1 ∨ k = 2 ∨ k = 3 := by omega
    rw [World.cell?_alloc_mark]
    rcases hk with rfl | rfl | rfl | rfl <;> rfl
  have HB1 : Below w.heap.size w (w.alloc (.cells #[.int .u8 105, .int .u8 111, .int .u8 114, .int .u8 119] 5 (4, 5))) := HB.alloc (Nat.le_refl _) _
  have hg1 : w.heap.size < (w.alloc (.cells #[.int .u8 105, .int .u8 111, .int .u8 114, .int .u8 119] 5 (4, 5))).heap.size := by simp
  go_enter Tryz.func121, Tryz.ntmps121
  go_wp2
  clear hcv
  generalize w.alloc (.cells #[.int .u8 105, .int .u8 111, .int .u8 114, .int .u8 119] 5 (4, 5)) = w1 at *
  have HV := Lib.hid (pre_set ⟨n.toNat, by omega⟩ (by simp; omega))
  simp only [show ((n.toNat : Nat) : Int) = n by omega] at HV
  obtain ⟨g, hg⟩ : ∃ g, w.heap.size = g := ⟨_, rfl⟩
  rw [hg] at HC hg1 ⊢
  clear hg
  go_loopw [3, 11] (fun o i wr => ∃ (k : Nat), i = .int .i64 k ∧ k ≤ 4 ∧ Hid (wr.ownsRow w1.heap.size 5 1 o (preS n k).length (cellsU8 (preS n k))) ∧ Hid (Below w1.heap.size w1 wr)) (fun _ i _ => 4 - (intOf i).toNat)
  case atStart => exact ⟨0, rfl, by omega, World.ownsRow_nil _ _ _ _, Below.refl _ _⟩
  case round =>
    obtain ⟨k, rfl, hk, HO, HBR⟩ := hrel
    have hcs : k = 0 ∨ k = 1 ∨ k = 2 ∨ k = 3 ∨ k = 4 := by omega
    have BT := fun (k : Fin 4) => bits_at ⟨n.toNat, by omega⟩ k
    simp only [show ((n.toNat : Nat) : Int) = n by omega] at BT
    rcases hcs with rfl | rfl | rfl | rfl | rfl
    · have hc : wr.cell? ⟨g, 0, none⟩ = some (.int .u8 105) := by rw [HBR.out.cell (p := ⟨g, 0, none⟩) hg1]; exact HC 0 (by decide)
      have bt : (bits BinOp.and IntKind.i64 n 8 != 0) = decide (n / 2 ^ (3 - 0) % 2 = 1) := BT 0
      clear BT HC
      by_cases hb : n / 2 ^ (3 - 0) % 2 = 1
      · have hP : preS n (0 + 1) = preS n 0 ++ [105] := by show preS n _ ++ (if _ then _ else _) = _; rw [if_pos hb]; rfl
        rw [decide_eq_true hb] at bt
        have hl4 := pre_len n 0
        obtain ⟨L, hL⟩ : ∃ L, preS n 0 = L := ⟨_, rfl⟩
        obtain ⟨M, hM⟩ : ∃ M, preS n (0 + 1) = M := ⟨_, rfl⟩
        rw [hL] at hP HO hl4
        rw [hM] at hP
        clear hb hL
        go_wp2_with (first
          | (at_builtin; refine wpList_append_own _ rfl _ _ 22 rfl w1.heap.size 5 i0 (.int .u8 0) 1 1 Tryz.underlying22 hi hz0 hz1 hz2 rfl (by decide) _ _ _ rfl (HO.out.alloc _) ⟨wr.heap.size, 0, none⟩ 1 1 [.int .u8 105] rfl rfl (cell_new _ _ _) (by simp [Value.oneCell']) (by unfold maxLen; omega) (by omega) (by have := HBR.out.size; simp; omega) ?_))
        intro v1 wa hown hgrow hnn
        clear hnn
        have HBB : Hid (Below w1.heap.size w1 wa) := (HBR.out.alloc HBR.out.size _).grown hgrow (by have := HBR.out.size; simp; omega) (fun q hq => (HO.out.lt q hq).1)
        have HO1 : Hid (wa.ownsRow w1.heap.size 5 1 v1 M.length (cellsU8 M)) := by show World.ownsRow _ _ _ _ _ _ _; rw [hP, List.length_append, List.length_singleton, show cellsU8 (L ++ [105]) = cellsU8 L ++ [.int .u8 105] by simp [cellsU8]]; exact hown
        clear hown hgrow HO HBR hP
        rw [← hM] at HO1
        go_wp2
        exact ⟨⟨0 + 1, rfl, by omega, HO1, HBB⟩, by simp [intOf]⟩
      · have hP : preS n (0 + 1) = preS n 0 := by show preS n _ ++ (if _ then _ else _) = _; rw [if_neg hb, List.append_nil]
        rw [decide_eq_false hb] at bt
        clear hb
        go_wp2
        exact ⟨⟨0 + 1, rfl, by omega, by rw [hP]; exact HO, HBR⟩, by simp [intOf]⟩
    · have hc : wr.cell? ⟨g, 1, none⟩ = some (.int .u8 111) := by rw [HBR.out.cell (p := ⟨g, 1, none⟩) hg1]; exact HC 1 (by decide)
      have bt : (bits BinOp.and IntKind.i64 n 4 != 0) = decide (n / 2 ^ (3 - 1) % 2 = 1) := BT 1
      clear BT HC
      by_cases hb : n / 2 ^ (3 - 1) % 2 = 1
      · have hP : preS n (1 + 1) = preS n 1 ++ [111] := by show preS n _ ++ (if _ then _ else _) = _; rw [if_pos hb]; rfl
        rw [decide_eq_true hb] at bt
        have hl4 := pre_len n 1
        obtain ⟨L, hL⟩ : ∃ L, preS n 1 = L := ⟨_, rfl⟩
        obtain ⟨M, hM⟩ : ∃ M, preS n (1 + 1) = M := ⟨_, rfl⟩
        rw [hL] at hP HO hl4
        rw [hM] at hP
        clear hb hL
        go_wp2_with (first
          | (at_builtin; refine wpList_append_own _ rfl _ _ 22 rfl w1.heap.size 5 i0 (.int .u8 0) 1 1 Tryz.underlying22 hi hz0 hz1 hz2 rfl (by decide) _ _ _ rfl (HO.out.alloc _) ⟨wr.heap.size, 0, none⟩ 1 1 [.int .u8 111] rfl rfl (cell_new _ _ _) (by simp [Value.oneCell']) (by unfold maxLen; omega) (by omega) (by have := HBR.out.size; simp; omega) ?_))
        intro v1 wa hown hgrow hnn
        clear hnn
        have HBB : Hid (Below w1.heap.size w1 wa) := (HBR.out.alloc HBR.out.size _).grown hgrow (by have := HBR.out.size; simp; omega) (fun q hq => (HO.out.lt q hq).1)
        have HO1 : Hid (wa.ownsRow w1.heap.size 5 1 v1 M.length (cellsU8 M)) := by show World.ownsRow _ _ _ _ _ _ _; rw [hP, List.length_append, List.length_singleton, show cellsU8 (L ++ [111]) = cellsU8 L ++ [.int .u8 111] by simp [cellsU8]]; exact hown
        clear hown hgrow HO HBR hP
        rw [← hM] at HO1
        go_wp2
        exact ⟨⟨1 + 1, rfl, by omega, HO1, HBB⟩, by simp [intOf]⟩
      · have hP : preS n (1 + 1) = preS n 1 := by show preS n _ ++ (if _ then _ else _) = _; rw [if_neg hb, List.append_nil]
        rw [decide_eq_false hb] at bt
        clear hb
        go_wp2
        exact ⟨⟨1 + 1, rfl, by omega, by rw [hP]; exact HO, HBR⟩, by simp [intOf]⟩
    · have hc : wr.cell? ⟨g, 2, none⟩ = some (.int .u8 114) := by rw [HBR.out.cell (p := ⟨g, 2, none⟩) hg1]; exact HC 2 (by decide)
      have bt : (bits BinOp.and IntKind.i64 n 2 != 0) = decide (n / 2 ^ (3 - 2) % 2 = 1) := BT 2
      clear BT HC
      by_cases hb : n / 2 ^ (3 - 2) % 2 = 1
      · have hP : preS n (2 + 1) = preS n 2 ++ [114] := by show preS n _ ++ (if _ then _ else _) = _; rw [if_pos hb]; rfl
        rw [decide_eq_true hb] at bt
        have hl4 := pre_len n 2
        obtain ⟨L, hL⟩ : ∃ L, preS n 2 = L := ⟨_, rfl⟩
        obtain ⟨M, hM⟩ : ∃ M, preS n (2 + 1) = M := ⟨_, rfl⟩
        rw [hL] at hP HO hl4
        rw [hM] at hP
        clear hb hL
        go_wp2_with (first
          | (at_builtin; refine wpList_append_own _ rfl _ _ 22 rfl w1.heap.size 5 i0 (.int .u8 0) 1 1 Tryz.underlying22 hi hz0 hz1 hz2 rfl (by decide) _ _ _ rfl (HO.out.alloc _) ⟨wr.heap.size, 0, none⟩ 1 1 [.int .u8 114] rfl rfl (cell_new _ _ _) (by simp [Value.oneCell']) (by unfold maxLen; omega) (by omega) (by have := HBR.out.size; simp; omega) ?_))
        intro v1 wa hown hgrow hnn
        clear hnn
        have HBB : Hid (Below w1.heap.size w1 wa) := (HBR.out.alloc HBR.out.size _).grown hgrow (by have := HBR.out.size; simp; omega) (fun q hq => (HO.out.lt q hq).1)
        have HO1 : Hid (wa.ownsRow w1.heap.size 5 1 v1 M.length (cellsU8 M)) := by show World.ownsRow _ _ _ _ _ _ _; rw [hP, List.length_append, List.length_singleton, show cellsU8 (L ++ [114]) = cellsU8 L ++ [.int .u8 114] by simp [cellsU8]]; exact hown
        clear hown hgrow HO HBR hP
        rw [← hM] at HO1
        go_wp2
        exact ⟨⟨2 + 1, rfl, by omega, HO1, HBB⟩, by simp [intOf]⟩
      · have hP : preS n (2 + 1) = preS n 2 := by show preS n _ ++ (if _ then _ else _) = _; rw [if_neg hb, List.append_nil]
        rw [decide_eq_false hb] at bt
        clear hb
        go_wp2
        exact ⟨⟨2 + 1, rfl, by omega, by rw [hP]; exact HO, HBR⟩, by simp [intOf]⟩
    · have hc : wr.cell? ⟨g, 3, none⟩ = some (.int .u8 119) := by rw [HBR.out.cell (p := ⟨g, 3, none⟩) hg1]; exact HC 3 (by decide)
      have bt : (bits BinOp.and IntKind.i64 n 1 != 0) = decide (n / 2 ^ (3 - 3) % 2 = 1) := BT 3
      clear BT HC
      by_cases hb : n / 2 ^ (3 - 3) % 2 = 1
      · have hP : preS n (3 + 1) = preS n 3 ++ [119] := by show preS n _ ++ (if _ then _ else _) = _; rw [if_pos hb]; rfl
        rw [decide_eq_true hb] at bt
        have hl4 := pre_len n 3
        obtain ⟨L, hL⟩ : ∃ L, preS n 3 = L := ⟨_, rfl⟩
        obtain ⟨M, hM⟩ : ∃ M, preS n (3 + 1) = M := ⟨_, rfl⟩
        rw [hL] at hP HO hl4
        rw [hM] at hP
        clear hb hL
        go_wp2_with (first
          | (at_builtin; refine wpList_append_own _ rfl _ _ 22 rfl w1.heap.size 5 i0 (.int .u8 0) 1 1 Tryz.underlying22 hi hz0 hz1 hz2 rfl (by decide) _ _ _ rfl (HO.out.alloc _) ⟨wr.heap.size, 0, none⟩ 1 1 [.int .u8 119] rfl rfl (cell_new _ _ _) (by simp [Value.oneCell']) (by unfold maxLen; omega) (by omega) (by have := HBR.out.size; simp; omega) ?_))
        intro v1 wa hown hgrow hnn
        clear hnn
        have HBB : Hid (Below w1.heap.size w1 wa) := (HBR.out.alloc HBR.out.size _).grown hgrow (by have := HBR.out.size; simp; omega) (fun q hq => (HO.out.lt q hq).1)
        have HO1 : Hid (wa.ownsRow w1.heap.size 5 1 v1 M.length (cellsU8 M)) := by show World.ownsRow _ _ _ _ _ _ _; rw [hP, List.length_append, List.length_singleton, show cellsU8 (L ++ [119]) = cellsU8 L ++ [.int .u8 119] by simp [cellsU8]]; exact hown
        clear hown hgrow HO HBR hP
        rw [← hM] at HO1
        go_wp2
        exact ⟨⟨3 + 1, rfl, by omega, HO1, HBB⟩, by simp [intOf]⟩
      · have hP : preS n (3 + 1) = preS n 3 := by show preS n _ ++ (if _ then _ else _) = _; rw [if_neg hb, List.append_nil]
        rw [decide_eq_false hb] at bt
        clear hb
        go_wp2
        exact ⟨⟨3 + 1, rfl, by omega, by rw [hP]; exact HO, HBR⟩, by simp [intOf]⟩
    · have hne : 0 < (preS n 4).length := by
        rw [← HV.out]
        have := (allW_set ⟨h.1, h.2⟩).2
        cases hs : setT n with
        | nil => exact absurd hs this
        | cons a t => simp
      have hcv := conv_own HO.out hne
      unfold tx at hcv
      clear HC BT
      go_wp2
      go_ret
      exact ⟨ret_tx HV.out.symm, HB1.trans (HBR.out.mono (Below.size HB1))⟩

theorem bs_beq (a b : List UInt8) : ((bs a).toList == (bs b).toList) = decide (a = b) := by
  rw [bs_list, bs_list]
  by_cases h : a = b
  · rw [decide_eq_true h, h]; simp
  · rw [decide_eq_false h]; simpa using h
theorem setO_found {p : List UInt8} {k : Nat} (hk : k < 16) (h : setT (k : Int) = p) : setO p = some (k : Int) := (setO_iff p k).2 ⟨⟨by omega, by omega⟩, h⟩
theorem setO_none {p : List UInt8} (h : ∀ k : Nat, k < 16 → setT (k : Int) ≠ p) : setO p = none := by
  cases hs : setO p with
  | none => rfl
  | some n =>
    obtain ⟨hn, he⟩ := (setO_iff p n).1 hs
    refine absurd ?_ (h n.toNat (by omega))
    rw [show ((n.toNat : Nat) : Int) = n by omega]
    exact he
set_option maxHeartbeats 1000000 in
theorem readSet_c (p : List UInt8) (w : World) : Calls Tryz.prog 233 #[tx p] w fun e w' => e = .returned (retO (setO p)) ∧ Below w.heap.size w w' := by
  have HB : BW w w := Below.refl _ _
  have KS := fun (k : Nat) x (hk : k < 16) (h : BW w x) => (sset_c k ⟨by omega, by omega⟩ x).mono fun e w' hh => (⟨hh.1, h.on hh.2⟩ : e = .returned (tx (setT k)) ∧ BW w w')
  unfold tx at KS ⊢
  go_enter Tryz.func233, Tryz.ntmps233
  go_wp2
  go_loopw [5] (fun i wr => ∃ (k : Nat), i = .int .i64 k ∧ k ≤ 16 ∧ Hid (∀ j : Nat, j < k → setT (j : Int) ≠ p) ∧ Hid (BW w wr)) (fun i _ => 16 - (intOf i).toNat)
  case atStart => exact ⟨0, rfl, by omega, fun j hj => absurd hj (by omega), HB⟩
  case round =>
    obtain ⟨k, rfl, hk, HN, HR⟩ := hrel
    by_cases hlt : k < 16
    · have hltI : (k : Int) < 16 := by omega
      have hS := KS k wr hlt HR.out
      have hbq := bs_beq (setT (k : Int)) p
      have HV := Lib.hid (fun h => setO_found (p := p) hlt h)
      clear KS
      by_cases he : setT (k : Int) = p
      · have hv := HV.out he
        rw [decide_eq_true he] at hbq
        clear he HV HN
        have HVV := Lib.hid hv
        clear hv
        generalize bs (setT (k : Int)) = x at *
        generalize bs p = y at *
        go_wp2_with (first
          | (go_at_call 121; refine hS.mono ?_; rintro e w' ⟨rfl, hb⟩; have HB2 := Lib.hid hb; clear hb))
        go_ret2
        exact ⟨by rw [HVV.out]; rfl, HB2.out⟩
      · rw [decide_eq_false he] at hbq
        have HN2 : Hid (∀ j : Nat, j < k + 1 → setT (j : Int) ≠ p) := fun j hj => by
          rcases Nat.lt_succ_iff_lt_or_eq.1 hj with h | rfl
          · exact HN.out j h
          · exact he
        clear he HV HN
        generalize bs (setT (k : Int)) = x at *
        generalize bs p = y at *
        go_wp2_with (first
          | (go_at_call 121; refine hS.mono ?_; rintro e w' ⟨rfl, hb⟩; have HB2 := Lib.hid hb; clear hb))
        exact ⟨⟨k + 1, by go_num, by omega, HN2, HB2⟩, by simp [intOf]; omega⟩
    · obtain rfl : k = 16 := by omega
      have HV := Lib.hid (setO_none HN.out)
      clear KS
      go_wp2
      go_ret2
      exact ⟨by rw [HV.out]; rfl, HR.out⟩
end Go.Proofs.YtolmecnjolfjgaaGreatDoor
namespace Go.Proofs.YtolmecnjolfjgaaGreatDoor
open Go.RowKit

def negS (S : List UInt8) : Bool := Lib.hasPrefix S [45]
def digS (S : List UInt8) : List UInt8 := Lib.trimPrefix S [45]
theorem num_split (S : List UInt8) : numV S = numX (negS S) (digS S) ∧ (negS S = false → digS S = S) := by
  unfold digS negS Lib.trimPrefix Lib.hasPrefix
  cases S with
  | nil => exact ⟨rfl, fun _ => rfl⟩
  | cons a t =>
    by_cases h : a = 45
    · subst h
      have e : List.isPrefixOf [45] (45 :: t) = true := by simp [List.isPrefixOf]
      rw [e, if_pos rfl]
      refine ⟨?_, fun h => by cases h⟩
      show numV _ = numN t
      unfold numV numN
      rw [if_pos (show (45 :: t).head? = some 45 from rfl)]
      rfl
    · have e : List.isPrefixOf [45] (a :: t) = false := by simp [List.isPrefixOf]; exact fun e => h e.symm
      rw [e, if_neg (by decide)]
      refine ⟨?_, fun _ => rfl⟩
      show numV _ = numP _
      unfold numV numP
      rw [if_neg (by intro e; exact h (Option.some.inj e))]
theorem wrap64_of {x : Int} (h : -9223372036854775808 ≤ x ∧ x ≤ 9223372036854775807) : wrap64 x = x := by unfold wrap64; omega
theorem valD_mono (a b : List UInt8) : valD a ≤ valD (a ++ b) := by
  refine snoc_ind (P := fun b => valD a ≤ valD (a ++ b)) (by simp) ?_ b
  intro l c ih
  show valD a ≤ valD (a ++ (l ++ [c]))
  rw [← List.append_assoc, valD_snoc]
  have ih : valD a ≤ valD (a ++ l) := ih
  omega
/-- Digits whose number is no more than 2^63 are 19 at most. -/
theorem digT_len {d : List UInt8} (hT : DigT d) (h : valD d ≤ 9223372036854775808) : d.length ≤ 19 := by
  have := dig_back d hT (by omega)
  rw [← this]
  exact digU_len h
theorem numX_big {neg : Bool} {d : List UInt8} (h : 9223372036854775808 < valD d) : numX neg d = none := by
  cases neg
  · show numP d = none
    unfold numP
    rw [if_neg (fun h' => by omega)]
  · show numN d = none
    unfold numN
    rw [if_neg (fun h' => by omega)]
/-- What comes of digits that are all there. -/
theorem numX_end {neg : Bool} {d : List UInt8} (hT : DigT d) (h : valD d ≤ 9223372036854775808) (h48 : neg = true → d.head? ≠ some 48) :
    numX neg d = if neg then some (-(valD d : Int)) else if valD d = 9223372036854775808 then none else some (valD d : Int) := by
  rw [numX_good hT (digT_len hT h) h48]
  cases neg
  · by_cases e : valD d = 9223372036854775808
    · rw [if_pos (.inr ⟨e, rfl⟩), if_neg (by decide), if_pos e]
    · rw [if_neg (by rintro (h' | ⟨h', _⟩) <;> omega), if_neg (by decide), if_neg (by decide), if_neg e]
  · rw [if_neg (by rintro (h' | ⟨_, h'⟩); omega; cases h'), if_pos rfl, if_pos rfl]
/-- A string's bytes in memory of their own. -/
theorem conv_bytes (D : List UInt8) (w : World) : ∃ cap w1, (convert 9 22 (.string (bs D))).run Tryz.prog w = .ok (.slice (some ⟨w.heap.size, 0, none⟩) D.length cap) w1 ∧ Below w.heap.size w w1 ∧ w.heap.size < w1.heap.size ∧
    ∀ k (h : k < D.length), w1.cell? ⟨w.heap.size, k, none⟩ = some (.int .u8 (D[k].toNat : Int)) := by
  refine ⟨_, _, Lib.run_convert_string_bytes w 9 22 5 (bs D) Tryz.underlying9 Tryz.underlying22 Tryz.underlying5, ?_, ?_, ?_⟩
  · refine ⟨rfl, rfl, rfl, ?_, ?_⟩
    · rw [Lib.bytesWorld_size]; omega
    · intro b hb
      exact Lib.bytesWorld_at_old w _ _ b hb
  · rw [Lib.bytesWorld_size]; omega
  · intro k h
    rw [Lib.bytesWorld_cell w _ (bs D) k h]
    show some (Value.int .u8 ((D.getD k 0).toNat : Int)) = _
    rw [List.getD_eq_getElem?_getD, List.getElem?_eq_getElem h]
    rfl
set_option maxHeartbeats 2000000 in
theorem snum_c (S : List UInt8) (hl : S.length ≤ 100000) (w : World) : Calls Tryz.prog 130 #[tx S] w fun e w' => e = .returned (retO (numV S)) ∧ Below w.heap.size w w' := by
  have HK : ∀ w, Calls Tryz.prog 177 #[.string (bs S), .string ⟨#[45]⟩] w fun e w' => e = .returned (.tuple #[.string (bs (digS S)), .bool (negS S)]) ∧ w' = w := fun w => Tryz.strings_CutPrefix (bs S) ⟨#[45]⟩ w
  obtain ⟨h1, h2⟩ := num_split S
  have hdl : (digS S).length ≤ 100000 := by
    unfold digS Lib.trimPrefix
    split
    · rw [List.length_drop]; omega
    · exact hl
  rw [h1]
  generalize digS S = D at *
  generalize negS S = neg at *
  have HB : Below w.heap.size w w := Below.refl _ _
  unfold tx
  obtain ⟨d, hd⟩ : ∃ d, bs D = d := ⟨_, rfl⟩
  have hE : d.toList.isEmpty = D.isEmpty := by rw [← hd, bs_list]
  have hsz : d.size = D.length := by rw [← hd]; rfl
  cases D with
  | nil =>
    have HX := Lib.hid (numX_bad (neg := neg) (d := []) (fun h => h.1 rfl))
    have hE : d.toList.isEmpty = true := hE
    clear h1 h2 hsz
    rw [hd] at HK
    generalize numX neg [] = r at *
    go_enter Tryz.func130, Tryz.ntmps130
    go_wp2_with (first
      | (go_at_call 177; refine (HK _).mono ?_; rintro e w' ⟨rfl, rfl⟩))
    go_ret2
    exact ⟨by rw [HX.out]; rfl, HB⟩
  | cons a t =>
    have hE : d.toList.isEmpty = false := hE
    have hp : 0 < d.size := by rw [hsz]; simp
    have hx : d[0] = a := by subst hd; rfl
    have hq : ((bs S).toList == [48]) = decide (S = [48]) := by have := bs_beq S [48]; rw [bs_list [48]] at this; exact this
    obtain ⟨cap, w1, hconv, hB1, hg1, hcells⟩ := conv_bytes (a :: t) w
    rw [hd] at HK hconv
    by_cases hbad : a = 48 ∧ S ≠ [48]
    · have hb48 : (d[0].toNat : Int) = 48 := by rw [hx, hbad.1]; rfl
      rw [decide_eq_false hbad.2] at hq
      have HX : Hid (numX neg (a :: t) = none) := by
        show _ = _
        rw [hbad.1]
        cases neg
        · have e := h2 rfl
          rw [hbad.1] at e
          refine numX_bad (fun h => ?_)
          have := h.2.2 rfl
          refine hbad.2 ?_
          rw [← e]
          cases t with
          | nil => rfl
          | cons b t => simp at this
        · exact numX_nought rfl
      clear hconv hB1 hg1 hcells h1 h2 hbad hx hsz hd
      generalize numX neg (a :: t) = r at *
      go_enter Tryz.func130, Tryz.ntmps130
      go_wp2_with (first
        | (go_at_call 177; refine (HK _).mono ?_; rintro e w' ⟨rfl, rfl⟩))
      all_goals
        go_ret2
        exact ⟨by rw [HX.out]; rfl, HB⟩
    have HEnd : Hid ((∀ c ∈ a :: t, isDig c = true) → valD (a :: t) ≤ 9223372036854775808 → numX neg (a :: t) = if neg then some (-(valD (a :: t) : Int)) else if valD (a :: t) = 9223372036854775808 then none else some (valD (a :: t) : Int)) := by
      intro ha hv
      have hone : a = 48 → neg = false ∧ t = [] := fun e => by
        have hS : S = [48] := Classical.byContradiction fun h => hbad ⟨e, h⟩
        cases hn : neg with
        | false => exact ⟨rfl, by have := h2 hn; rw [hS] at this; exact (List.cons.inj this).2⟩
        | true =>
          exfalso
          rw [hS, hn, e] at h1
          rw [numX_nought rfl] at h1
          exact absurd h1 (by decide)
      refine numX_end ⟨List.cons_ne_nil _ _, ha, fun h => ?_⟩ hv (fun hn h => ?_)
      · obtain ⟨_, ht⟩ := hone (Option.some.inj h)
        rw [ht]; rfl
      · obtain ⟨hf, _⟩ := hone (Option.some.inj h)
        rw [hn] at hf
        cases hf
    have HBad : Hid (¬ (∀ c ∈ a :: t, isDig c = true) → numX neg (a :: t) = none) := fun h => numX_bad (fun h' => h h'.2.1)
    have HBig : Hid (9223372036854775808 < valD (a :: t) → numX neg (a :: t) = none) := fun h => numX_big h
    have hgo : (a = 48 ∧ S = [48]) ∨ a ≠ 48 := by
      by_cases e : a = 48
      · exact .inl ⟨e, Classical.byContradiction fun h => hbad ⟨e, h⟩⟩
      · exact .inr e
    have HC := Lib.hid hcells
    clear h1 h2 hbad hd hcells
    go_enter Tryz.func130, Tryz.ntmps130
    rcases hgo with ⟨e1, e2⟩ | e1
    case' inl =>
      have hb48 : (d[0].toNat : Int) = 48 := by rw [hx, e1]; rfl
      rw [decide_eq_true e2] at hq
      clear e2
    case' inr =>
      have hb48 : ((d[0].toNat : Int) == 48) = false := by
        rw [hx, beq_eq_false_iff_ne]
        intro e
        exact e1 (UInt8.toNat_inj.1 (show _ = 48 by omega))
    all_goals
      clear e1 hx
      have hlz : (a :: t).length ≤ 100000 := hdl
      generalize a :: t = D at *
      go_upto_region 5 with (first
        | (go_at_call 177; refine (HK _).mono ?_; rintro e w' ⟨rfl, rfl⟩))
      clear hb48 hE hq HK hp
      go_wp2
      go_loop [6, 29] (fun n i => ∃ (k : Nat) (N : Int), i = .int .i64 k ∧ n = .int .i64 N ∧ k ≤ D.length ∧ Hid (-N = (valD (D.take k) : Int) ∧ ∀ c ∈ D.take k, isDig c = true) ∧ -9223372036854775808 ≤ N ∧ N ≤ 0) (fun _ i => D.length - (intOf i).toNat)
      case atStart => exact ⟨0, 0, rfl, rfl, Nat.zero_le _, ⟨rfl, fun c hc => by cases hc⟩, by decide, by decide⟩
      case round =>
        obtain ⟨k, N, rfl, rfl, hk, HN, hN0, hN1⟩ := hrel
        by_cases hlt : k < D.length
        · have hc := HC.out k hlt
          have hltI : (k : Int) < D.length := by omega
          obtain ⟨c, hcc⟩ : ∃ c, D[k] = c := ⟨_, rfl⟩
          rw [hcc] at hc
          obtain ⟨X, hX⟩ : ∃ X : Int, (c.toNat : Int) = X := ⟨_, rfl⟩
          have hX0 : 0 ≤ X ∧ X < 256 := by have := c.toNat_lt; omega
          have hts : D.take (k + 1) = D.take k ++ [c] := by rw [List.take_succ_eq_append_getElem hlt, hcc]
          have hmem : c ∈ D := by rw [← hcc]; exact List.getElem_mem hlt
          have HX1 : Hid ((X < 48 ∨ 57 < X) → numX neg D = none) := fun h => HBad.out (fun ha => by
            have := of_decide_eq_true (ha c hmem)
            omega)
          have HX2 : Hid (48 ≤ X → X ≤ 57 → 10 * N - (X - 48) < -9223372036854775808 → numX neg D = none) := fun a1 a2 h => HBig.out (by
            have hm := valD_mono (D.take (k + 1)) (D.drop (k + 1))
            rw [List.take_append_drop, hts, valD_snoc] at hm
            have := HN.out.1
            omega)
          have HX3 : Hid (48 ≤ X → X ≤ 57 → -(10 * N - (X - 48)) = (valD (D.take (k + 1)) : Int) ∧ ∀ c ∈ D.take (k + 1), isDig c = true) := fun a1 a2 => by
            refine ⟨?_, ?_⟩
            · rw [hts, valD_snoc]
              have := HN.out.1
              omega
            · intro y hy
              rw [hts] at hy
              rcases List.mem_append.1 hy with h | h
              · exact HN.out.2 y h
              · rw [List.mem_singleton.1 h]; exact decide_eq_true (by omega)
          rw [hX] at hc
          clear hX hts hmem hcc HN
          have e1 : wrap64 X = X := wrap64_of ⟨by omega, by omega⟩
          have e2 : wrap64 (X - 48) = X - 48 := wrap64_of ⟨by omega, by omega⟩
          by_cases g1 : X < 48
          · have b1 : decide (X - 48 < 0) = true := decide_eq_true (by omega)
            have HR := Lib.hid (HX1.out (.inl g1))
            clear HX1 HX2 HX3 HBad HBig HEnd
            go_wp2
            go_ret2
            exact ⟨by rw [HR.out]; rfl, hB1⟩
          · have b1 : decide (X - 48 < 0) = false := decide_eq_false (by omega)
            by_cases g2 : 57 < X
            · have b2 : decide (9 < X - 48) = true := decide_eq_true (by omega)
              have HR := Lib.hid (HX1.out (.inr g2))
              clear HX1 HX2 HX3 HBad HBig HEnd
              go_wp2
              go_ret2
              exact ⟨by rw [HR.out]; rfl, hB1⟩
            · have b2 : decide (9 < X - 48) = false := decide_eq_false (by omega)
              have h4 := Lib.hid (HX2.out (by omega) (by omega))
              have h5 := Lib.hid (HX3.out (by omega) (by omega))
              clear HX1 HX2 HX3 HBad HBig
              obtain ⟨Y, hY⟩ : ∃ Y, X - 48 = Y := ⟨_, rfl⟩
              rw [hY] at e2 b1 b2 h4 h5
              have hY0 : 0 ≤ Y ∧ Y ≤ 9 := by omega
              clear g1 g2
              have hQ : (-9223372036854775808 + Y).tdiv 10 = -((9223372036854775808 - Y) / 10) := by rw [show -9223372036854775808 + Y = -(9223372036854775808 - Y) by omega, Int.neg_tdiv, Int.tdiv_eq_ediv_of_nonneg (by omega)]
              obtain ⟨Q, hQQ⟩ : ∃ Q, -((9223372036854775808 - Y) / 10) = Q := ⟨_, rfl⟩
              rw [hQQ] at hQ
              have e6 : wrap64 Q = Q := wrap64_of ⟨by omega, by omega⟩
              by_cases g3 : N < Q
              · have b3 : decide (N < Q) = true := decide_eq_true g3
                have HR := Lib.hid (h4.out (by omega))
                clear h4 h5 HEnd hQQ g3
                go_wp2
                go_ret2
                exact ⟨by rw [HR.out]; rfl, hB1⟩
              · have b3 : decide (N < Q) = false := decide_eq_false g3
                have hM : -9223372036854775808 ≤ 10 * N - Y ∧ 10 * N - Y ≤ 0 := by omega
                have e3 : wrap64 (10 * N) = 10 * N := wrap64_of ⟨by omega, by omega⟩
                have e4 : wrap64 (10 * N - Y) = 10 * N - Y := wrap64_of ⟨by omega, by omega⟩
                clear h4 hQQ g3
                go_wp2
                exact ⟨⟨k + 1, 10 * N - Y, by go_num, rfl, by omega, h5, hM.1, hM.2⟩, by simp [intOf]; omega⟩
        · obtain rfl : k = D.length := by omega
          have hE := HN.out
          rw [List.take_length] at hE
          have hv := HEnd.out hE.2 (by have := hE.1; omega)
          have hD := hE.1
          clear HBad HBig HEnd HN hE
          cases neg
          · have e5 : wrap64 (-N) = if N = -9223372036854775808 then -9223372036854775808 else -N := by
              by_cases e : N = -9223372036854775808
              · rw [if_pos e, e]; unfold wrap64; omega
              · rw [if_neg e]; exact wrap64_of ⟨by omega, by omega⟩
            by_cases e : N = -9223372036854775808
            · rw [if_neg (by decide), if_pos (by omega)] at hv
              have HR := Lib.hid hv
              subst e
              clear hv hD e5
              go_wp2
              go_ret2
              exact ⟨by rw [HR.out]; rfl, hB1⟩
            · rw [if_neg (by decide), if_neg (by omega)] at hv
              rw [if_neg e, ] at e5
              have be : (N == -9223372036854775808) = false := by simpa using e
              rw [← hD] at hv
              have HR := Lib.hid hv
              clear hv hD e
              go_wp2
              go_ret2
              exact ⟨by rw [HR.out]; rfl, hB1⟩
          · rw [if_pos rfl, ← hD, Int.neg_neg] at hv
            have HR := Lib.hid hv
            clear hv hD
            go_wp2
            go_ret2
            exact ⟨by rw [HR.out]; rfl, hB1⟩
end Go.Proofs.YtolmecnjolfjgaaGreatDoor
namespace Go.Proofs.YtolmecnjolfjgaaGreatDoor
open Go.RowKit

def regC (ok : Bool) (o : Option Int) : Option Int := if ok then (match o with | some n => if 0 ≤ n ∧ n ≤ 31 then some n else none | none => none) else none
theorem regC_eq (S : List UInt8) : regC (Lib.hasPrefix S [120]) (numV (Lib.trimPrefix S [120])) = regS S := by
  apply Option.ext
  intro r
  show regC _ _ = some r ↔ regS S = some r
  rw [reg_iff]
  unfold Lib.trimPrefix Lib.hasPrefix
  constructor
  · intro h
    unfold regC at h
    split at h
    · next hp =>
      split at h
      · next n hn =>
        split at h
        · next hr =>
          obtain rfl := Option.some.inj h
          refine ⟨hr, ?_⟩
          have := ((num_iff _ _).1 hn).2
          unfold regT
          rw [this]
          cases S with
          | nil => simp [List.isPrefixOf] at hp
          | cons a t =>
            simp [List.isPrefixOf] at hp
            rw [hp]; rfl
        · cases h
      · cases h
    · cases h
  · rintro ⟨hr, rfl⟩
    have hp : List.isPrefixOf [120] (regT r) = true := by unfold regT; simp [List.isPrefixOf]
    have hd : List.drop ([120] : List UInt8).length (regT r) = digI r := rfl
    rw [hp, if_pos rfl, hd, num_digI ⟨by omega, by omega⟩]
    unfold regC
    rw [if_pos rfl]
    simp only
    rw [if_pos hr]
set_option maxHeartbeats 1000000 in
theorem reg_c (S : List UInt8) (hl : S.length ≤ 100000) (w : World) : Calls Tryz.prog 178 #[tx S] w fun e w' => e = .returned (retO (regS S)) ∧ Below w.heap.size w w' := by
  have HK : ∀ w, Calls Tryz.prog 177 #[.string (bs S), .string ⟨#[120]⟩] w fun e w' => e = .returned (.tuple #[.string (bs (Lib.trimPrefix S [120])), .bool (Lib.hasPrefix S [120])]) ∧ w' = w := fun w => Tryz.strings_CutPrefix (bs S) ⟨#[120]⟩ w
  have hdl : (Lib.trimPrefix S [120]).length ≤ 100000 := by
    unfold Lib.trimPrefix
    split
    · rw [List.length_drop]; omega
    · exact hl
  have HN := snum_c (Lib.trimPrefix S [120]) hdl w
  have HX := Lib.hid (regC_eq S)
  unfold tx retO at HN ⊢
  generalize regS S = r at *
  generalize Lib.trimPrefix S [120] = D at *
  generalize Lib.hasPrefix S [120] = ok at *
  obtain ⟨o, ho⟩ : ∃ o, numV D = o := ⟨_, rfl⟩
  rw [ho] at HN HX
  clear ho hdl
  cases o with
  | none =>
    have HR : Hid (r = none) := by show r = none; rw [← HX.out]; unfold regC; cases ok <;> rfl
    clear HX
    have HN : Calls Tryz.prog 130 #[.string (bs D)] w fun e w' => e = .returned (.tuple #[.int .i64 0, .bool false]) ∧ Below w.heap.size w w' := HN
    cases ok
    all_goals
      go_enter Tryz.func178, Tryz.ntmps178
      go_wp2_with (first
        | (go_at_call 177; refine (HK _).mono ?_; rintro e w' ⟨rfl, rfl⟩)
        | (go_at_call 130; refine HN.mono ?_; rintro e w' ⟨rfl, hb⟩; have HB2 := Lib.hid hb; clear hb))
      go_ret2
      exact ⟨by rw [HR.out]; rfl, HB2.out⟩
  | some n =>
    have HN : Calls Tryz.prog 130 #[.string (bs D)] w fun e w' => e = .returned (.tuple #[.int .i64 n, .bool true]) ∧ Below w.heap.size w w' := HN
    cases ok with
    | false =>
      have HR : Hid (r = none) := by show r = none; rw [← HX.out]; rfl
      clear HX
      go_enter Tryz.func178, Tryz.ntmps178
      go_wp2_with (first
        | (go_at_call 177; refine (HK _).mono ?_; rintro e w' ⟨rfl, rfl⟩)
        | (go_at_call 130; refine HN.mono ?_; rintro e w' ⟨rfl, hb⟩; have HB2 := Lib.hid hb; clear hb))
      go_ret2
      exact ⟨by rw [HR.out]; rfl, HB2.out⟩
    | true =>
      by_cases h0 : n < 0
      · have HR : Hid (r = none) := by show r = none; rw [← HX.out]; unfold regC; rw [if_pos rfl]; simp only; rw [if_neg (by omega)]
        clear HX
        have b0 : decide (n < 0) = true := decide_eq_true h0
        clear h0
        go_enter Tryz.func178, Tryz.ntmps178
        go_wp2_with (first
          | (go_at_call 177; refine (HK _).mono ?_; rintro e w' ⟨rfl, rfl⟩)
          | (go_at_call 130; refine HN.mono ?_; rintro e w' ⟨rfl, hb⟩; have HB2 := Lib.hid hb; clear hb))
        go_ret2
        exact ⟨by rw [HR.out]; rfl, HB2.out⟩
      · have b0 : decide (n < 0) = false := decide_eq_false h0
        by_cases h1 : 31 < n
        · have HR : Hid (r = none) := by show r = none; rw [← HX.out]; unfold regC; rw [if_pos rfl]; simp only; rw [if_neg (by omega)]
          clear HX
          have b1 : decide (31 < n) = true := decide_eq_true h1
          clear h0 h1
          go_enter Tryz.func178, Tryz.ntmps178
          go_wp2_with (first
            | (go_at_call 177; refine (HK _).mono ?_; rintro e w' ⟨rfl, rfl⟩)
            | (go_at_call 130; refine HN.mono ?_; rintro e w' ⟨rfl, hb⟩; have HB2 := Lib.hid hb; clear hb))
          go_ret2
          exact ⟨by rw [HR.out]; rfl, HB2.out⟩
        · have HR : Hid (r = some n) := by show r = some n; rw [← HX.out]; unfold regC; rw [if_pos rfl]; simp only; rw [if_pos ⟨by omega, by omega⟩]
          clear HX
          have b1 : decide (31 < n) = false := decide_eq_false h1
          have e1 : wrap64 n = n := wrap64_of ⟨by omega, by omega⟩
          clear h0 h1
          go_enter Tryz.func178, Tryz.ntmps178
          go_wp2_with (first
            | (go_at_call 177; refine (HK _).mono ?_; rintro e w' ⟨rfl, rfl⟩)
            | (go_at_call 130; refine HN.mono ?_; rintro e w' ⟨rfl, hb⟩; have HB2 := Lib.hid hb; clear hb))
          go_ret2
          exact ⟨by rw [HR.out]; rfl, HB2.out⟩
end Go.Proofs.YtolmecnjolfjgaaGreatDoor
namespace Go.Proofs.YtolmecnjolfjgaaGreatDoor
open Go.RowKit

/-! ### The library's powers of ten -/
def powV : Array Value := (Lib.pow10Tab.map fun z => Value.int .u64 z).toArray
def TabP (w : World) : Prop := ∃ t fr, w.heap[6]? = some (.cells powV t fr)
theorem TabP.below {W w : World} (h : TabP W) (hb : Below W.heap.size W w) : TabP w := by
  obtain ⟨t, fr, h1⟩ := h
  have z1 := (Array.getElem?_eq_some_iff.1 h1).1
  exact ⟨t, fr, by rw [hb.block _ z1]; exact h1⟩
theorem tabP_is {nm : String} {w : World} (hn : Tryz.prog.globalNamed nm = some 6) (h : TabP w) : Lib.TabIs Tryz.prog w nm .u64 Lib.pow10Tab := by
  obtain ⟨t, fr, h1⟩ := h
  unfold Lib.TabIs World.var?
  rw [hn, Option.bind_some, h1]
  rfl
theorem grow_below {w : World} (k : Nat) (os : Array Obj) : Below w.heap.size w (Sort.grow (w.drewN k) os) := by
  refine ⟨rfl, rfl, rfl, ?_, ?_⟩
  · show w.heap.size ≤ (w.heap ++ os).size
    simp
  · intro b hb
    show (w.heap ++ os)[b]? = w.heap[b]?
    rw [Array.getElem?_append_left hb]
theorem fmt_c (n : Int) (h : I64 n) (w : World) (hT : TabP w) : Calls Tryz.prog 120 #[.int .i64 n, .int .i64 10] w fun e w' => e = .returned (tx (digI n)) ∧ Below w.heap.size w w' := by
  refine (Any.strconv_FormatInt_10 Tryz.laysM173 n h.1 h.2 w (tabP_is (by kernel_rfl) hT)).mono ?_
  rintro e w' ⟨rfl, k, os, rfl⟩
  rw [itoa_digI h]
  exact ⟨rfl, grow_below k os⟩

/-! ### Parts -/
structure PartOk (i : Ins) : Prop where
  rd : 0 ≤ i.rd ∧ i.rd ≤ 31
  rs1 : 0 ≤ i.rs1 ∧ i.rs1 ≤ 31
  rs2 : 0 ≤ i.rs2 ∧ i.rs2 ≤ 31
  imm : I64 i.imm
  pred : 0 ≤ i.pred ∧ i.pred < 16
  succ : 0 ≤ i.succ ∧ i.succ < 16
theorem Rgt.part {j : Ins} (h : Rgt j) : PartOk j := by
  refine ⟨h.rd, h.rs1, h.rs2, imm_I64 h, ?_, ?_⟩
  · by_cases e : j.op = 50
    · exact ⟨(h.fen e).1, (h.fen e).2.1⟩
    · by_cases e' : j.op = 51
      · rw [(h.tso e').1]; decide
      · rw [(h.oth e e').1]; decide
  · by_cases e : j.op = 50
    · exact (h.fen e).2.2
    · by_cases e' : j.op = 51
      · rw [(h.tso e').2]; decide
      · rw [(h.oth e e').2]; decide
theorem conv_rune (m : Nat) (h : m = 32 ∨ m = 44 ∨ m = 40 ∨ m = 41) (w : World) : (convert 21 9 (.int .i32 m)).run Tryz.prog w = .ok (tx [UInt8.ofNat m]) w := by
  rcases h with rfl | rfl | rfl | rfl <;> kernel_rfl
theorem mark_of {c : UInt8} (h : isMk c = true) : c = 32 ∨ c = 44 ∨ c = 40 ∨ c = 41 := by
  unfold isMk at h
  simp only [Bool.or_eq_true, beq_iff_eq] at h
  rcases h with ((h | h) | h) | h
  · exact .inl h
  · exact .inr (.inl h)
  · exact .inr (.inr (.inl h))
  · exact .inr (.inr (.inr h))
set_option maxHeartbeats 2000000 in
theorem part_ch (i : Ins) (ok : PartOk i) (c : UInt8) (hc : c ∈ sixL ∨ isMk c = true) (w : World) (hP : TabP w) :
    Calls Tryz.prog 65 #[insV i, .int .u8 (c.toNat : Int)] w fun e w' => e = .returned (tx (partT i c)) ∧ BW w w' := by
  have HB : BW w w := Below.refl _ _
  have KR := fun r x (h : 0 ≤ r ∧ r ≤ 31) => sregister_c r h x
  have KS := fun n x (h : 0 ≤ n ∧ n < 16) (hb : BW w x) => (sset_c n h x).mono fun e w' hh => (⟨hh.1, hb.on hh.2⟩ : _ ∧ BW w w')
  have KF := fun n x (h : I64 n) (hb : BW w x) => (fmt_c n h x (hP.below hb)).mono fun e w' hh => (⟨hh.1, hb.on hh.2⟩ : _ ∧ BW w w')
  have HB1 := HB.new (.cells (insCells i) 40)
  obtain ⟨h1, h2, h3, h4, h5, h6⟩ := ok
  have k1 := KR i.rd
  have k2 := KR i.rs1
  have k3 := KR i.rs2
  have k4 := KF i.imm _ h4 HB1
  have k5 := KS i.pred _ h5 HB1
  have k6 := KS i.succ _ h6 HB1
  have q1 := fun x => k1 x h1
  have q2 := fun x => k2 x h2
  have q3 := fun x => k3 x h3
  have v1 : Hid (partT i 100 = regT i.rd) := rfl
  have v2 : Hid (partT i 97 = regT i.rs1) := rfl
  have v3 : Hid (partT i 98 = regT i.rs2) := rfl
  have v4 : Hid (partT i 110 = digI i.imm) := rfl
  have v5 : Hid (partT i 112 = setT i.pred) := rfl
  have v6 : Hid (partT i 115 = setT i.succ) := rfl
  have hm := fun c h => part_mark i c h
  clear KR KS KF k1 k2 k3 hP
  obtain ⟨op, rd, rs1, rs2, imm, aq, rl, pred, succ⟩ := i
  unfold insV insCells tx at *
  simp only at *
  rcases hc with hc | hc
  · simp only [sixL, List.mem_cons, List.not_mem_nil, or_false] at hc
    rcases hc with rfl | rfl | rfl | rfl | rfl | rfl
    · rw [v1.out]
      clear v1 v2 v3 v4 v5 v6 hm
      generalize regT rd = r at *
      go_enter Tryz.func65, Tryz.ntmps65
      go_wp2_with (first
        | (go_at_call 119; refine (q1 _).mono ?_; rintro e w' ⟨rfl, rfl⟩))
      go_ret
      exact ⟨rfl, HB1⟩
    · rw [v2.out]
      clear v1 v2 v3 v4 v5 v6 hm
      generalize regT rs1 = r at *
      go_enter Tryz.func65, Tryz.ntmps65
      go_wp2_with (first
        | (go_at_call 119; refine (q2 _).mono ?_; rintro e w' ⟨rfl, rfl⟩))
      go_ret
      exact ⟨rfl, HB1⟩
    · rw [v3.out]
      clear v1 v2 v3 v4 v5 v6 hm
      generalize regT rs2 = r at *
      go_enter Tryz.func65, Tryz.ntmps65
      go_wp2_with (first
        | (go_at_call 119; refine (q3 _).mono ?_; rintro e w' ⟨rfl, rfl⟩))
      go_ret
      exact ⟨rfl, HB1⟩
    · rw [v4.out]
      clear v1 v2 v3 v4 v5 v6 hm
      generalize digI imm = r at *
      go_enter Tryz.func65, Tryz.ntmps65
      go_wp2_with (first
        | (go_at_call 120; refine k4.mono ?_; rintro e w' ⟨rfl, hb⟩; have HB2 := Lib.hid hb; clear hb))
      go_ret
      exact ⟨rfl, HB2.out⟩
    · rw [v5.out]
      clear v1 v2 v3 v4 v5 v6 hm
      generalize setT pred = r at *
      go_enter Tryz.func65, Tryz.ntmps65
      go_wp2_with (first
        | (go_at_call 121; refine k5.mono ?_; rintro e w' ⟨rfl, hb⟩; have HB2 := Lib.hid hb; clear hb))
      go_ret
      exact ⟨rfl, HB2.out⟩
    · rw [v6.out]
      clear v1 v2 v3 v4 v5 v6 hm
      generalize setT succ = r at *
      go_enter Tryz.func65, Tryz.ntmps65
      go_wp2_with (first
        | (go_at_call 121; refine k6.mono ?_; rintro e w' ⟨rfl, hb⟩; have HB2 := Lib.hid hb; clear hb))
      go_ret
      exact ⟨rfl, HB2.out⟩
  · have hv := hm c hc
    have hr := fun w => conv_rune c.toNat (by rcases mark_of hc with rfl | rfl | rfl | rfl <;> decide) w
    rw [hv]
    clear v1 v2 v3 v4 v5 v6 hm hv
    unfold tx at hr
    rcases mark_of hc with rfl | rfl | rfl | rfl
    all_goals
      go_enter Tryz.func65, Tryz.ntmps65
      go_wp2
      go_ret
      exact ⟨rfl, HB1⟩
end Go.Proofs.YtolmecnjolfjgaaGreatDoor
namespace Go.Proofs.YtolmecnjolfjgaaGreatDoor
open Go.RowKit

/-- The tables that package show reads. -/
structure Tab9 (w : World) : Prop where
  dec : Tab6 w
  names : TabN w
  shapes : TabS w
  pows : TabP w
theorem Tab9.below {W w : World} (h : Tab9 W) (hb : Below W.heap.size W w) : Tab9 w := ⟨h.dec.below hb, h.names.below hb, h.shapes.below hb, h.pows.below hb⟩
theorem part_len (i : Ins) (c : UInt8) : (partT i c).length ≤ 22 := by
  have hd : ∀ n : Int, (digI n).length ≤ 21 := by
    intro n
    unfold digI
    split
    · have := digF_len 20 n.natAbs; unfold digU; simp; omega
    · have := digF_len 20 n.natAbs; unfold digU; omega
  have hr : ∀ r : Int, (regT r).length ≤ 22 := fun r => by have := hd r; unfold regT; simp; omega
  have hs : ∀ n : Int, (setT n).length ≤ 22 := fun n => by
    unfold setT
    by_cases h1 : n / 8 % 2 = 1 <;> by_cases h2 : n / 4 % 2 = 1 <;> by_cases h3 : n / 2 % 2 = 1 <;> by_cases h4 : n % 2 = 1 <;> simp [h1, h2, h3, h4]
  unfold partT
  (repeat' split)
  · exact hr _
  · exact hr _
  · exact hr _
  · exact Nat.le_trans (hd _) (by decide)
  · exact hs _
  · exact hs _
  · simp
theorem parts_len (i : Ins) (l : List UInt8) : (l.flatMap (partT i)).length ≤ 22 * l.length := by
  induction l with
  | nil => simp
  | cons c l ih =>
    rw [List.flatMap_cons, List.length_append, List.length_cons]
    have := part_len i c
    omega
theorem shp_len (op : Int) : (shpT op).length ≤ 11 := by
  have hall : ∀ k : Fin 13, (shpL.getD k.val []).length ≤ 11 := by decide
  have hs := srt_spec op
  unfold shpT
  split
  · decide
  · split
    · decide
    · exact hall ⟨(srt op).toNat, by omega⟩
theorem ann_len (aq rl : Bool) : (annT aq rl).length ≤ 5 := by cases aq <;> cases rl <;> decide
theorem parts_snoc (i : Ins) {l : List UInt8} {k : Nat} {c : UInt8} (h : k < l.length) (hc : l[k] = c) : (l.take (k + 1)).flatMap (partT i) = (l.take k).flatMap (partT i) ++ partT i c := by
  rw [List.take_succ_eq_append_getElem h, hc, List.flatMap_append]
  simp
theorem text_no (i : Ins) (ho : I64 i.op) (hr : rgtB i = false) (w : World) (T : Tab9 w) :
    Calls Tryz.prog 32 #[insV i] w fun e w' => e = .returned (.tuple #[tx [], .int .i64 1]) ∧ Below w.heap.size w w' := by
  have HJ0 := jn_new i w
  have KR := fun g x (h : Jn w i g x) => (right_c i ho x (T.dec.below h.1)).mono fun e w' hh => (⟨hh.1, h.on hh.2⟩ : _ ∧ Jn w i g w')
  rw [hr] at KR
  clear hr T
  obtain ⟨op, rd, rs1, rs2, imm, aq, rl, pred, succ⟩ := i
  unfold insV insCells at *
  simp only at HJ0 KR ⊢
  go_enter Tryz.func32, Tryz.ntmps32
  go_upto_region 1 with (fail)
  generalize w.alloc (.cells _ 40) = w1 at *
  obtain ⟨g, hg⟩ : ∃ g, w.heap.size = g := ⟨_, rfl⟩
  have HJ : Jn w ⟨op, rd, rs1, rs2, imm, aq, rl, pred, succ⟩ g w1 := by rw [← hg]; exact HJ0
  rw [hg]
  clear hg HJ0
  obtain ⟨c0, c1, c2, c3, c4, c5, c6, c7, c8⟩ := HJ.cells
  simp only at c0 c1 c2 c3 c4 c5 c6 c7 c8
  go_wp2_with (first
    | (go_at_call 61; refine (KR g _ HJ).mono ?_; rintro e w2 ⟨rfl, HJ2⟩))
  go_ret2
  exact ⟨rfl, HJ2.1⟩
set_option maxHeartbeats 2000000 in
theorem text_ok (i : Ins) (h : Rgt i) (w : World) (T : Tab9 w) :
    Calls Tryz.prog 32 #[insV i] w fun e w' => e = .returned (.tuple #[tx (textT i), .int .i64 0]) ∧ Below w.heap.size w w' := by
  have ho : I64 i.op := ⟨by have := h.op; omega, by have := h.op; omega⟩
  have HJ0 := jn_new i w
  have KR := fun g x (hj : Jn w i g x) => (right_c i ho x (T.dec.below hj.1)).mono fun e w' hh => (⟨hh.1, hj.on hh.2⟩ : _ ∧ Jn w i g w')
  have KN := fun g x (hj : Jn w i g x) => name_c i.op ho x (T.names.below hj.1)
  have KA := fun x => annot_c i.aq i.rl x
  have KH := fun g x (hj : Jn w i g x) => shape_c i.op ho x (T.dec.below hj.1).lasts (T.shapes.below hj.1)
  have KP := fun c hc x (hb : Below w.heap.size w x) => part_ch i h.part c hc x (T.pows.below hb)
  have hso := (shp_ok i.op).2.2
  have hcs : ∀ c ∈ shpT i.op, c ∈ sixL ∨ isMk c = true := fun c hc => by
    cases hm : isMk c with
    | true => exact .inr rfl
    | false => exact .inl (hso c hc (by unfold noMk; rw [hm]; rfl))
  have HT := Lib.hid (text_parts h.op)
  have hn9 := nmO_len i.op
  have hn5 := ann_len i.aq i.rl
  have hn11 := shp_len i.op
  have HPL := Lib.hid (parts_len i)
  have HPC := Lib.hid (part_len i)
  have HSN := Lib.hid (fun (l : List UInt8) (k : Nat) (c : UInt8) (hk : k < l.length) (hc : l[k] = c) => parts_snoc i hk hc)
  rw [(rgt_iff i).2 h] at KR
  have ha : ∀ w2 : World, (Op.stringOp .add (bs (nmO i.op)) (bs (annT i.aq i.rl))).run Tryz.prog w2 = .ok (.string (bs (nmO i.op ++ annT i.aq i.rl))) w2 := fun w2 => run_string_add_lists w2 _ _ (by omega) (by omega)
  have hxl : (nmO i.op ++ annT i.aq i.rl).length ≤ 14 := by rw [List.length_append]; omega
  generalize textT i = TT at *
  obtain ⟨F, hF⟩ : ∃ F, partT i = F := ⟨_, rfl⟩
  rw [hF] at HT HPL HPC HSN
  simp only [hF] at KP
  unfold tx at *
  generalize nmO i.op ++ annT i.aq i.rl = X0 at *
  generalize nmO i.op = X1 at *
  generalize annT i.aq i.rl = X2 at *
  generalize shpT i.op = S at *
  have HF := Lib.hid hF
  clear hF T hn9 hn5 hso h ho
  obtain ⟨op, rd, rs1, rs2, imm, aq, rl, pred, succ⟩ := i
  unfold insV insCells at *
  simp only at HJ0 KR KN KA KH KP ⊢
  go_enter Tryz.func32, Tryz.ntmps32
  go_upto_region 1 with (fail)
  generalize w.alloc (.cells _ 40) = w1 at *
  obtain ⟨g, hg⟩ : ∃ g, w.heap.size = g := ⟨_, rfl⟩
  have HJ : Jn w ⟨op, rd, rs1, rs2, imm, aq, rl, pred, succ⟩ g w1 := by rw [← hg]; exact HJ0
  rw [hg]
  clear hg HJ0
  obtain ⟨c0, c1, c2, c3, c4, c5, c6, c7, c8⟩ := HJ.cells
  simp only at c0 c1 c2 c3 c4 c5 c6 c7 c8
  go_upto_region 3 with (first
    | (go_at_call 61; refine (KR g _ HJ).mono ?_; rintro e w2 ⟨rfl, HJ2⟩))
  clear c0 c1 c2 c3 c4 c5 c6 c7 c8 HJ KR
  obtain ⟨c0, c1, c2, c3, c4, c5, c6, c7, c8⟩ := HJ2.cells
  simp only at c0 c1 c2 c3 c4 c5 c6 c7 c8
  go_quiet (first
    | (go_at_call 62; refine Calls.quiet_of_same ((KN g _ (HJ2.on (drewN_below _))).mono (fun _ _ ⟨he, hw⟩ => ⟨he, hw.symm⟩)))
    | (go_at_call 63; refine Calls.quiet_of_same ((KA _).mono (fun _ _ ⟨he, hw⟩ => ⟨he, hw.symm⟩))))
  have HJ3 := HJ2.on (drewN_below nq)
  clear c0 c1 c2 c3 c4 c5 c6 c7 c8 HJ2 KN KA
  generalize w2.drewN nq = w3 at *
  obtain ⟨c0, c1, c2, c3, c4, c5, c6, c7, c8⟩ := HJ3.cells
  simp only at c0 c1 c2 c3 c4 c5 c6 c7 c8
  obtain ⟨cap, w4, hconv, hB4, hg4, hcells⟩ := conv_bytes S w3
  have HJ4 := HJ3.on hB4
  have HC := Lib.hid hcells
  clear hcells
  go_wp2_with (first
    | (go_at_call 64; refine (KH g _ HJ3).mono ?_; rintro e w5 ⟨rfl, rfl⟩))
  obtain ⟨gb, hgb⟩ : ∃ gb, w3.heap.size = gb := ⟨_, rfl⟩
  rw [hgb] at HC hg4 ⊢
  clear hgb hconv hB4 KH c0 c1 c2 c3 c4 c5 c6 c7 c8 HJ3
  go_loopw [4, 24] (fun s i wr => ∃ k : Nat, i = .int .i64 k ∧ s = .string (bs (X0 ++ (S.take k).flatMap F)) ∧ k ≤ S.length ∧ Hid (Below w4.heap.size w4 wr) ∧ Hid (BW w wr)) (fun _ i _ => S.length - (intOf i).toNat)
  case atStart => exact ⟨0, rfl, by simp, Nat.zero_le _, Below.refl _ _, HJ4.1⟩
  case round =>
    obtain ⟨k, rfl, rfl, hk, HBR, HBW⟩ := hrel
    have HJ5 := HJ4.on HBR.out
    by_cases hlt : k < S.length
    · have hltI : (k : Int) < S.length := by omega
      have hc := HC.out k hlt
      rw [← HBR.out.cell (p := ⟨gb, k, none⟩) hg4] at hc
      obtain ⟨c, hcc⟩ : ∃ c, S[k] = c := ⟨_, rfl⟩
      rw [hcc] at hc
      have hmem : c ∈ S := by rw [← hcc]; exact List.getElem_mem hlt
      have hP := KP c (hcs c hmem) wr HBW.out
      have hsn := HSN.out S k c hlt hcc
      have hpl := HPL.out (S.take k)
      rw [List.length_take] at hpl
      have hpc := HPC.out c
      have hcat : ∀ w2 : World, (Op.stringOp .add (bs (X0 ++ (S.take k).flatMap F)) (bs (F c))).run Tryz.prog w2 = .ok (.string (bs (X0 ++ (S.take (k + 1)).flatMap F))) w2 := fun w2 => by
        rw [hsn, ← List.append_assoc]
        exact run_string_add_lists w2 _ _ (by rw [List.length_append]; omega) (by omega)
      have HX : Hid (BW w wr) := HBW
      obtain ⟨c0, c1, c2, c3, c4, c5, c6, c7, c8⟩ := HJ5.cells
      simp only at c0 c1 c2 c3 c4 c5 c6 c7 c8
      clear hsn hpl hpc hmem hcc KP HC
      obtain ⟨x2, hx2⟩ : ∃ x2, bs (X0 ++ (S.take (k + 1)).flatMap F) = x2 := ⟨_, rfl⟩
      rw [hx2] at hcat
      have HX2 := Lib.hid hx2
      clear hx2
      generalize bs (X0 ++ (S.take k).flatMap F) = x1 at *
      generalize bs (F c) = x3 at *
      generalize (c.toNat : Int) = C at *
      go_wp2_with (first
        | (go_at_call 65; refine hP.mono ?_; rintro e w6 ⟨rfl, hb⟩; have HB6 := Lib.hid hb; clear hb))
      exact ⟨⟨k + 1, by go_num, by rw [HX2.out], by omega, Below.trans HBR.out (HB6.out.mono (Below.size HBR.out)), HBW.out.on HB6.out⟩, by simp [intOf]; omega⟩
    · obtain rfl : k = S.length := by omega
      have HV : Hid (TT = X0 ++ (S.take S.length).flatMap F) := by show TT = _; rw [List.take_length]; exact HT.out
      generalize X0 ++ (S.take S.length).flatMap F = y at *
      clear KP HC
      go_wp2
      go_ret2
      exact ⟨by rw [HV.out]; rfl, HBW.out⟩
end Go.Proofs.YtolmecnjolfjgaaGreatDoor
