/- Of stage 11. -/
import Derived.Test.YtmamblgpekafbaaGreatDoorSfpa
import Derived.Test.YtmamblgpekafbaaGreatDoorRdpa
import Derived.Lib.SmallJoins
import Derived.Lib.ConvBytes
import Derived.Test.YtmamblgpekafbaaGreatDoorEhpa
set_option maxRecDepth 100000
set_option maxHeartbeats 2000000
namespace Go.Proofs.YtmamblgpekafbaaGreatDoor
open Go.RowKit
theorem zU3 {a b : List UInt8} (h : a = b) : Ending.returned (.string (bs a)) = .returned (tx b) := by rw [h]; rfl
theorem annot_c (aq rl : Bool) (w : World) : Calls Tryz.prog 188 #[.bool aq, .bool rl] w fun e w' => e = .returned (tx (annT aq rl)) ∧ w = w' := by
  cases aq <;> cases rl
  all_goals
    go_enter Tryz.func188, Tryz.ntmps188
    go_wp2
    go_ret
    exact ⟨rfl, rfl⟩
def TabT (g : Nat) (l : List (List UInt8)) (w : World) : Prop := ∀ i, i < l.length → w.cell? ⟨g, i, none⟩ = some (tx (l.getD i []))
theorem TabT.below {g : Nat} {l : List (List UInt8)} {W w : World} (h : TabT g l W) (hb : Below W.heap.size W w) : TabT g l w := fun i hi => by
  have hz := World.block_lt_of_cell? W _ (h i hi)
  rw [hb.cell (p := ⟨g, i, none⟩) hz]; exact h i hi
def TabS (w : World) : Prop := TabT 5 shpL w
theorem Zf4 (op : Int) (ho : I64 op) (w : World) (hL : TabL w) (hS : TabS w) : Calls Tryz.prog 162 #[.int .i64 op] w fun e w' => e = .returned (tx (shpT op)) ∧ w = w' := by
  have hs := zd0 op
  have KS := fun w hT => zh2 op ho w hT
  by_cases h3 : op = 3
  · subst h3
    have hc := hS 1 (by decide)
    unfold tx at hc
    have HV : Hid (shpL.getD 1 [] = shpT 3) := rfl
    clear hs KS hL hS ho
    generalize shpL.getD 1 [] = q at *
    go_enter Tryz.func162, Tryz.ntmps162
    go_wp2
    go_ret
    exact ⟨zU3 HV.out, rfl⟩
  by_cases h51 : op = 51
  · subst h51
    have hc := hS 9 (by decide)
    unfold tx at hc
    have HV : Hid (shpL.getD 9 [] = shpT 51) := rfl
    clear hs KS hL hS ho
    generalize shpL.getD 9 [] = q at *
    go_enter Tryz.func162, Tryz.ntmps162
    go_wp2
    go_ret
    exact ⟨zU3 HV.out, rfl⟩
  obtain ⟨k, hk, hlt⟩ : ∃ k : Nat, srt op = (k : Int) ∧ k < 13 := ⟨(srt op).toNat, by omega, by omega⟩
  have hc := hS k hlt
  unfold tx at hc
  have HV : Hid (shpL.getD k [] = shpT op) := (zl3 h3 h51 hk).symm
  have hltI : (k : Int) < 13 := by omega
  have b3 : (op == 3) = false := by simpa using h3
  have b51 : (op == 51) = false := by simpa using h51
  rw [hk] at KS
  clear hs hk h3 h51
  generalize shpL.getD k [] = q at *
  go_enter Tryz.func162, Tryz.ntmps162
  go_wp2_with (first
    | (go_at_call 15; refine (KS _ hL).mono ?_; rintro e w' ⟨rfl, rfl⟩))
  go_ret
  exact ⟨zU3 HV.out, rfl⟩
theorem mark_idx : ∀ c : Fin 256, (decide (0 ≤ Lib.indexByte [32, 44, 40, 41] (UInt8.ofNat c.val))) = isMk (UInt8.ofNat c.val) := by decide +kernel
theorem isMark_c (c : UInt8) (w : World) : Calls Tryz.prog 191 #[.int .u8 (c.toNat : Int)] w fun e w' => e = .returned (.bool (isMk c)) ∧ w = w' := by
  have HK : ∀ w, Calls Tryz.prog 196 #[.string ⟨#[32, 44, 40, 41]⟩, .int .u8 (c.toNat : Int)] w fun e w' => e = .returned (.int .i64 (Lib.indexByte [32, 44, 40, 41] c)) ∧ w' = w := by
    intro w
    have := Tryz.strings_IndexByte ⟨#[32, 44, 40, 41]⟩ (c.toNat : Int) w
    rw [show ((c.toNat : Int)).toNat.toUInt8 = c by simp] at this
    exact this
  have HV : Hid (decide (0 ≤ Lib.indexByte [32, 44, 40, 41] c) = isMk c) := by
    have := mark_idx ⟨c.toNat, c.toNat_lt⟩
    simp only [UInt8.ofNat_toNat] at this
    exact this
  generalize Lib.indexByte [32, 44, 40, 41] c = x at *
  generalize isMk c = b at *
  go_enter Tryz.func191, Tryz.ntmps191
  go_wp2_with (first
    | (go_at_call 196; refine (HK _).mono ?_; rintro e w' ⟨rfl, rfl⟩))
  go_ret
  exact ⟨zb0 HV.out, rfl⟩
end Go.Proofs.YtmamblgpekafbaaGreatDoor
namespace Go.Proofs.YtmamblgpekafbaaGreatDoor
open Go.RowKit
def letL : List UInt8 := [105, 111, 114, 119]
def preS (n : Int) : Nat → List UInt8
  | 0 => []
  | k + 1 => preS n k ++ (if n / 2 ^ (3 - k) % 2 = 1 then [letL.getD k 0] else [])
theorem pre_set : ∀ n : Fin 16, n.val ≠ 0 → setT (n.val : Int) = preS (n.val : Int) 4 := by decide +kernel
theorem zC7 (n : Int) (k : Nat) : (preS n k).length ≤ k := by
  induction k with
  | zero => exact Nat.le_refl _
  | succ k ih =>
    rw [preS, List.length_append]
    split <;> simp <;> omega
def zd1 (l : List UInt8) : List Value := l.map fun c => .int .u8 (c.toNat : Int)
theorem conv_own {w : World} {base m : Nat} {v : Value} {l : List UInt8} (h : w.ownsRow base 5 1 v m (zd1 l)) (hl : 0 < l.length) : (convert 26 9 v).run Tryz.prog w = .ok (tx l) w := by
  have hm : m = l.length := by have := h.1; unfold zd1 at this; rw [List.length_map] at this; omega
  subst hm
  obtain ⟨A, c, rfl, hr⟩ := zB7 h
  rcases hr with e | ⟨b, off, rfl, hlt, hc⟩
  · exfalso
    have := congrArg List.length e
    unfold zd1 at this
    rw [List.length_map, List.length_nil] at this
    omega
  · refine run_convert_bytes_back (P := Tryz.prog) w 26 9 5 ⟨b, off, none⟩ c l (by kernel_rfl) (by kernel_rfl) (by kernel_rfl) ?_
    intro j hj
    have hx : (zd1 l)[j]? = some (.int .u8 (l[j].toNat : Int)) := by
      unfold zd1
      rw [List.getElem?_map, List.getElem?_eq_getElem hj]
      rfl
    have := hc j _ hx
    by_cases h0 : j = 0
    · subst h0; simpa [Addr.add] using this
    · simpa [Addr.add, h0] using this
theorem bits_at : ∀ n : Fin 16, ∀ k : Fin 4, (bits BinOp.and IntKind.i64 (n.val : Int) (8 / 2 ^ k.val) != 0) = decide ((n.val : Int) / 2 ^ (3 - k.val) % 2 = 1) := by decide +kernel
theorem sset_c (n : Int) (h : 0 ≤ n ∧ n < 16) (w : World) : Calls Tryz.prog 198 #[.int .i64 n] w fun e w' => e = .returned (tx (setT n)) ∧ Below w.heap.size w w' := by
  by_cases h0 : n = 0
  · subst h0
    go_enter Tryz.func198, Tryz.ntmps198
    go_wp2
    go_ret
    exact ⟨rfl, Below.refl _ _⟩
  obtain ⟨i0, hi, hz0, hz1, hz2⟩ := info_parts Tryz.info5
  have HB : Below w.heap.size w w := Below.refl _ _
  have hb0 : (n == 0) = false := by simpa using h0
  have hcv := Lib.run_convert_bytes_const (P := Tryz.prog) w 26 5 #[.int .u8 105, .int .u8 111, .int .u8 114, .int .u8 119] 4 4 Tryz.underlying26 Tryz.underlying5
  have HC : ∀ k, k < 4 → (w.alloc (.cells #[.int .u8 105, .int .u8 111, .int .u8 114, .int .u8 119] 5 (4, 5))).cell? ⟨w.heap.size, k, none⟩ = some (.int .u8 ((letL.getD k 0).toNat : Int)) := by
    intro k hk
    have hk : k = 0 ∨ k = 1 ∨ k = 2 ∨ k = 3 := by omega
    rw [World.cell?_alloc_mark]
    rcases hk with rfl | rfl | rfl | rfl <;> rfl
  have HB1 : Below w.heap.size w (w.alloc (.cells #[.int .u8 105, .int .u8 111, .int .u8 114, .int .u8 119] 5 (4, 5))) := HB.alloc (Nat.le_refl _) _
  have hg1 : w.heap.size < (w.alloc (.cells #[.int .u8 105, .int .u8 111, .int .u8 114, .int .u8 119] 5 (4, 5))).heap.size := by simp
  go_enter Tryz.func198, Tryz.ntmps198
  go_wp2
  clear hcv
  generalize w.alloc (.cells #[.int .u8 105, .int .u8 111, .int .u8 114, .int .u8 119] 5 (4, 5)) = w1 at *
  have HV := Lib.hid (pre_set ⟨n.toNat, by omega⟩ (by simp; omega))
  simp only [show ((n.toNat : Nat) : Int) = n by omega] at HV
  obtain ⟨g, hg⟩ : ∃ g, w.heap.size = g := ⟨_, rfl⟩
  rw [hg] at HC hg1 ⊢
  clear hg
  go_loopw [3, 11] (fun o i wr => ∃ (k : Nat), i = .int .i64 k ∧ k ≤ 4 ∧ Hid (wr.ownsRow w1.heap.size 5 1 o (preS n k).length (zd1 (preS n k))) ∧ Hid (Below w1.heap.size w1 wr)) (fun _ i _ => 4 - (intOf i).toNat)
  case atStart => exact ⟨0, rfl, by omega, World.ownsRow_nil _ _ _ _, Below.refl _ _⟩
  case round =>
    obtain ⟨k, rfl, hk, HO, HBR⟩ := hrel
    have hcs : k = 0 ∨ k = 1 ∨ k = 2 ∨ k = 3 ∨ k = 4 := by omega
    have BT := fun (k : Fin 4) => bits_at ⟨n.toNat, by omega⟩ k
    simp only [show ((n.toNat : Nat) : Int) = n by omega] at BT
    rcases hcs with rfl | rfl | rfl | rfl | rfl
    · have hc : wr.cell? ⟨g, 0, none⟩ = some (.int .u8 105) := by rw [HBR.out.cell (p := ⟨g, 0, none⟩) hg1]; exact HC 0 (by decide)
      have bt : (bits BinOp.and IntKind.i64 n 8 != 0) = decide (n / 2 ^ (3 - 0) % 2 = 1) := BT 0
      clear BT HC
      by_cases hb : n / 2 ^ (3 - 0) % 2 = 1
      · have hP : preS n (0 + 1) = preS n 0 ++ [105] := by show preS n _ ++ (if _ then _ else _) = _; rw [if_pos hb]; rfl
        rw [decide_eq_true hb] at bt
        have hl4 := zC7 n 0
        obtain ⟨L, hL⟩ : ∃ L, preS n 0 = L := ⟨_, rfl⟩
        obtain ⟨M, hM⟩ : ∃ M, preS n (0 + 1) = M := ⟨_, rfl⟩
        rw [hL] at hP HO hl4
        rw [hM] at hP
        clear hb hL
        go_wp2_with (first
          | (at_builtin; refine wpList_append_own _ rfl _ _ 26 rfl w1.heap.size 5 i0 (.int .u8 0) 1 1 Tryz.underlying26 hi hz0 hz1 hz2 rfl (by decide) _ _ _ rfl (HO.out.alloc _) ⟨wr.heap.size, 0, none⟩ 1 1 [.int .u8 105] rfl rfl (zi4 _ _ _) (by simp [Value.oneCell']) (by unfold maxLen; omega) (by omega) (by have := HBR.out.size; simp; omega) ?_))
        intro v1 wa hown hgrow hnn
        clear hnn
        have HBB : Hid (Below w1.heap.size w1 wa) := (HBR.out.alloc HBR.out.size _).grown hgrow (by have := HBR.out.size; simp; omega) (fun q hq => (HO.out.lt q hq).1)
        have HO1 : Hid (wa.ownsRow w1.heap.size 5 1 v1 M.length (zd1 M)) := by show World.ownsRow _ _ _ _ _ _ _; rw [hP, List.length_append, List.length_singleton, show zd1 (L ++ [105]) = zd1 L ++ [.int .u8 105] by simp [zd1]]; exact hown
        clear hown hgrow HO HBR hP
        rw [← hM] at HO1
        go_wp2
        exact ⟨⟨0 + 1, rfl, by omega, HO1, HBB⟩, by simp [intOf]⟩
      · have hP : preS n (0 + 1) = preS n 0 := by show preS n _ ++ (if _ then _ else _) = _; rw [if_neg hb, List.append_nil]
        rw [decide_eq_false hb] at bt
        clear hb
        go_wp2
        exact ⟨⟨0 + 1, rfl, by omega, by rw [hP]; exact HO, HBR⟩, by simp [intOf]⟩
    · have hc : wr.cell? ⟨g, 1, none⟩ = some (.int .u8 111) := by rw [HBR.out.cell (p := ⟨g, 1, none⟩) hg1]; exact HC 1 (by decide)
      have bt : (bits BinOp.and IntKind.i64 n 4 != 0) = decide (n / 2 ^ (3 - 1) % 2 = 1) := BT 1
      clear BT HC
      by_cases hb : n / 2 ^ (3 - 1) % 2 = 1
      · have hP : preS n (1 + 1) = preS n 1 ++ [111] := by show preS n _ ++ (if _ then _ else _) = _; rw [if_pos hb]; rfl
        rw [decide_eq_true hb] at bt
        have hl4 := zC7 n 1
        obtain ⟨L, hL⟩ : ∃ L, preS n 1 = L := ⟨_, rfl⟩
        obtain ⟨M, hM⟩ : ∃ M, preS n (1 + 1) = M := ⟨_, rfl⟩
        rw [hL] at hP HO hl4
        rw [hM] at hP
        clear hb hL
        go_wp2_with (first
          | (at_builtin; refine wpList_append_own _ rfl _ _ 26 rfl w1.heap.size 5 i0 (.int .u8 0) 1 1 Tryz.underlying26 hi hz0 hz1 hz2 rfl (by decide) _ _ _ rfl (HO.out.alloc _) ⟨wr.heap.size, 0, none⟩ 1 1 [.int .u8 111] rfl rfl (zi4 _ _ _) (by simp [Value.oneCell']) (by unfold maxLen; omega) (by omega) (by have := HBR.out.size; simp; omega) ?_))
        intro v1 wa hown hgrow hnn
        clear hnn
        have HBB : Hid (Below w1.heap.size w1 wa) := (HBR.out.alloc HBR.out.size _).grown hgrow (by have := HBR.out.size; simp; omega) (fun q hq => (HO.out.lt q hq).1)
        have HO1 : Hid (wa.ownsRow w1.heap.size 5 1 v1 M.length (zd1 M)) := by show World.ownsRow _ _ _ _ _ _ _; rw [hP, List.length_append, List.length_singleton, show zd1 (L ++ [111]) = zd1 L ++ [.int .u8 111] by simp [zd1]]; exact hown
        clear hown hgrow HO HBR hP
        rw [← hM] at HO1
        go_wp2
        exact ⟨⟨1 + 1, rfl, by omega, HO1, HBB⟩, by simp [intOf]⟩
      · have hP : preS n (1 + 1) = preS n 1 := by show preS n _ ++ (if _ then _ else _) = _; rw [if_neg hb, List.append_nil]
        rw [decide_eq_false hb] at bt
        clear hb
        go_wp2
        exact ⟨⟨1 + 1, rfl, by omega, by rw [hP]; exact HO, HBR⟩, by simp [intOf]⟩
    · have hc : wr.cell? ⟨g, 2, none⟩ = some (.int .u8 114) := by rw [HBR.out.cell (p := ⟨g, 2, none⟩) hg1]; exact HC 2 (by decide)
      have bt : (bits BinOp.and IntKind.i64 n 2 != 0) = decide (n / 2 ^ (3 - 2) % 2 = 1) := BT 2
      clear BT HC
      by_cases hb : n / 2 ^ (3 - 2) % 2 = 1
      · have hP : preS n (2 + 1) = preS n 2 ++ [114] := by show preS n _ ++ (if _ then _ else _) = _; rw [if_pos hb]; rfl
        rw [decide_eq_true hb] at bt
        have hl4 := zC7 n 2
        obtain ⟨L, hL⟩ : ∃ L, preS n 2 = L := ⟨_, rfl⟩
        obtain ⟨M, hM⟩ : ∃ M, preS n (2 + 1) = M := ⟨_, rfl⟩
        rw [hL] at hP HO hl4
        rw [hM] at hP
        clear hb hL
        go_wp2_with (first
          | (at_builtin; refine wpList_append_own _ rfl _ _ 26 rfl w1.heap.size 5 i0 (.int .u8 0) 1 1 Tryz.underlying26 hi hz0 hz1 hz2 rfl (by decide) _ _ _ rfl (HO.out.alloc _) ⟨wr.heap.size, 0, none⟩ 1 1 [.int .u8 114] rfl rfl (zi4 _ _ _) (by simp [Value.oneCell']) (by unfold maxLen; omega) (by omega) (by have := HBR.out.size; simp; omega) ?_))
        intro v1 wa hown hgrow hnn
        clear hnn
        have HBB : Hid (Below w1.heap.size w1 wa) := (HBR.out.alloc HBR.out.size _).grown hgrow (by have := HBR.out.size; simp; omega) (fun q hq => (HO.out.lt q hq).1)
        have HO1 : Hid (wa.ownsRow w1.heap.size 5 1 v1 M.length (zd1 M)) := by show World.ownsRow _ _ _ _ _ _ _; rw [hP, List.length_append, List.length_singleton, show zd1 (L ++ [114]) = zd1 L ++ [.int .u8 114] by simp [zd1]]; exact hown
        clear hown hgrow HO HBR hP
        rw [← hM] at HO1
        go_wp2
        exact ⟨⟨2 + 1, rfl, by omega, HO1, HBB⟩, by simp [intOf]⟩
      · have hP : preS n (2 + 1) = preS n 2 := by show preS n _ ++ (if _ then _ else _) = _; rw [if_neg hb, List.append_nil]
        rw [decide_eq_false hb] at bt
        clear hb
        go_wp2
        exact ⟨⟨2 + 1, rfl, by omega, by rw [hP]; exact HO, HBR⟩, by simp [intOf]⟩
    · have hc : wr.cell? ⟨g, 3, none⟩ = some (.int .u8 119) := by rw [HBR.out.cell (p := ⟨g, 3, none⟩) hg1]; exact HC 3 (by decide)
      have bt : (bits BinOp.and IntKind.i64 n 1 != 0) = decide (n / 2 ^ (3 - 3) % 2 = 1) := BT 3
      clear BT HC
      by_cases hb : n / 2 ^ (3 - 3) % 2 = 1
      · have hP : preS n (3 + 1) = preS n 3 ++ [119] := by show preS n _ ++ (if _ then _ else _) = _; rw [if_pos hb]; rfl
        rw [decide_eq_true hb] at bt
        have hl4 := zC7 n 3
        obtain ⟨L, hL⟩ : ∃ L, preS n 3 = L := ⟨_, rfl⟩
        obtain ⟨M, hM⟩ : ∃ M, preS n (3 + 1) = M := ⟨_, rfl⟩
        rw [hL] at hP HO hl4
        rw [hM] at hP
        clear hb hL
        go_wp2_with (first
          | (at_builtin; refine wpList_append_own _ rfl _ _ 26 rfl w1.heap.size 5 i0 (.int .u8 0) 1 1 Tryz.underlying26 hi hz0 hz1 hz2 rfl (by decide) _ _ _ rfl (HO.out.alloc _) ⟨wr.heap.size, 0, none⟩ 1 1 [.int .u8 119] rfl rfl (zi4 _ _ _) (by simp [Value.oneCell']) (by unfold maxLen; omega) (by omega) (by have := HBR.out.size; simp; omega) ?_))
        intro v1 wa hown hgrow hnn
        clear hnn
        have HBB : Hid (Below w1.heap.size w1 wa) := (HBR.out.alloc HBR.out.size _).grown hgrow (by have := HBR.out.size; simp; omega) (fun q hq => (HO.out.lt q hq).1)
        have HO1 : Hid (wa.ownsRow w1.heap.size 5 1 v1 M.length (zd1 M)) := by show World.ownsRow _ _ _ _ _ _ _; rw [hP, List.length_append, List.length_singleton, show zd1 (L ++ [119]) = zd1 L ++ [.int .u8 119] by simp [zd1]]; exact hown
        clear hown hgrow HO HBR hP
        rw [← hM] at HO1
        go_wp2
        exact ⟨⟨3 + 1, rfl, by omega, HO1, HBB⟩, by simp [intOf]⟩
      · have hP : preS n (3 + 1) = preS n 3 := by show preS n _ ++ (if _ then _ else _) = _; rw [if_neg hb, List.append_nil]
        rw [decide_eq_false hb] at bt
        clear hb
        go_wp2
        exact ⟨⟨3 + 1, rfl, by omega, by rw [hP]; exact HO, HBR⟩, by simp [intOf]⟩
    · have hne : 0 < (preS n 4).length := by
        rw [← HV.out]
        have := (zF6 ⟨h.1, h.2⟩).2
        cases hs : setT n with
        | nil => exact absurd hs this
        | cons a t => simp
      have hcv := conv_own HO.out hne
      unfold tx at hcv
      clear HC BT
      go_wp2
      go_ret
      exact ⟨zU3 HV.out.symm, HB1.trans (HBR.out.mono (Below.size HB1))⟩
theorem bs_beq (a b : List UInt8) : ((bs a).toList == (bs b).toList) = decide (a = b) := by
  rw [ze3, ze3]
  by_cases h : a = b
  · rw [decide_eq_true h, h]; simp
  · rw [decide_eq_false h]; simpa using h
theorem Za5 {p : List UInt8} {k : Nat} (hk : k < 16) (h : setT (k : Int) = p) : setO p = some (k : Int) := (zq9 p k).2 ⟨⟨by omega, by omega⟩, h⟩
theorem Zc0 {p : List UInt8} (h : ∀ k : Nat, k < 16 → setT (k : Int) ≠ p) : setO p = none := by
  cases hs : setO p with
  | none => rfl
  | some n =>
    obtain ⟨hn, he⟩ := (zq9 p n).1 hs
    refine absurd ?_ (h n.toNat (by omega))
    rw [show ((n.toNat : Nat) : Int) = n by omega]
    exact he
theorem Zq8 (p : List UInt8) (w : World) : Calls Tryz.prog 192 #[tx p] w fun e w' => e = .returned (retO (setO p)) ∧ Below w.heap.size w w' := by
  have HB : BW w w := Below.refl _ _
  have KS := fun (k : Nat) x (hk : k < 16) (h : BW w x) => (sset_c k ⟨by omega, by omega⟩ x).mono fun e w' hh => (⟨hh.1, h.on hh.2⟩ : e = .returned (tx (setT k)) ∧ BW w w')
  unfold tx at KS ⊢
  go_enter Tryz.func192, Tryz.ntmps192
  go_wp2
  go_loopw [5] (fun i wr => ∃ (k : Nat), i = .int .i64 k ∧ k ≤ 16 ∧ Hid (∀ j : Nat, j < k → setT (j : Int) ≠ p) ∧ Hid (BW w wr)) (fun i _ => 16 - (intOf i).toNat)
  case atStart => exact ⟨0, rfl, by omega, fun j hj => absurd hj (by omega), HB⟩
  case round =>
    obtain ⟨k, rfl, hk, HN, HR⟩ := hrel
    by_cases hlt : k < 16
    · have hltI : (k : Int) < 16 := by omega
      have hS := KS k wr hlt HR.out
      have hbq := bs_beq (setT (k : Int)) p
      have HV := Lib.hid (fun h => Za5 (p := p) hlt h)
      clear KS
      by_cases he : setT (k : Int) = p
      · have hv := HV.out he
        rw [decide_eq_true he] at hbq
        clear he HV HN
        have HVV := Lib.hid hv
        clear hv
        generalize bs (setT (k : Int)) = x at *
        generalize bs p = y at *
        go_wp2_with (first
          | (go_at_call 198; refine hS.mono ?_; rintro e w' ⟨rfl, hb⟩; have HB2 := Lib.hid hb; clear hb))
        go_ret2
        exact ⟨by rw [HVV.out]; rfl, HB2.out⟩
      · rw [decide_eq_false he] at hbq
        have HN2 : Hid (∀ j : Nat, j < k + 1 → setT (j : Int) ≠ p) := fun j hj => by
          rcases Nat.lt_succ_iff_lt_or_eq.1 hj with h | rfl
          · exact HN.out j h
          · exact he
        clear he HV HN
        generalize bs (setT (k : Int)) = x at *
        generalize bs p = y at *
        go_wp2_with (first
          | (go_at_call 198; refine hS.mono ?_; rintro e w' ⟨rfl, hb⟩; have HB2 := Lib.hid hb; clear hb))
        exact ⟨⟨k + 1, by go_num, by omega, HN2, HB2⟩, by simp [intOf]; omega⟩
    · obtain rfl : k = 16 := by omega
      have HV := Lib.hid (Zc0 HN.out)
      clear KS
      go_wp2
      go_ret2
      exact ⟨by rw [HV.out]; rfl, HR.out⟩
end Go.Proofs.YtmamblgpekafbaaGreatDoor
namespace Go.Proofs.YtmamblgpekafbaaGreatDoor
open Go.RowKit
def negS (S : List UInt8) : Bool := Lib.hasPrefix S [45]
def digS (S : List UInt8) : List UInt8 := Lib.trimPrefix S [45]
theorem Zl8 (S : List UInt8) : numV S = numX (negS S) (digS S) ∧ (negS S = false → digS S = S) := by
  unfold digS negS Lib.trimPrefix Lib.hasPrefix
  cases S with
  | nil => exact ⟨rfl, fun _ => rfl⟩
  | cons a t =>
    by_cases h : a = 45
    · subst h
      have e : List.isPrefixOf [45] (45 :: t) = true := by simp [List.isPrefixOf]
      rw [e, if_pos rfl]
      refine ⟨?_, fun h => by cases h⟩
      show numV _ = numN t
      unfold numV numN
      rw [if_pos (show (45 :: t).head? = some 45 from rfl)]
      rfl
    · have e : List.isPrefixOf [45] (a :: t) = false := by simp [List.isPrefixOf]; exact fun e => h e.symm
      rw [e, if_neg (by decide)]
      refine ⟨?_, fun _ => rfl⟩
      show numV _ = numP _
      unfold numV numP
      rw [if_neg (by intro e; exact h (Option.some.inj e))]
theorem zj1 {x : Int} (h : -9223372036854775808 ≤ x ∧ x ≤ 9223372036854775807) : wrap64 x = x := by unfold wrap64; omega
theorem Zp3 (a b : List UInt8) : valD a ≤ valD (a ++ b) := by
  refine zT2 (P := fun b => valD a ≤ valD (a ++ b)) (by simp) ?_ b
  intro l c ih
  show valD a ≤ valD (a ++ (l ++ [c]))
  rw [← List.append_assoc, zn1]
  have ih : valD a ≤ valD (a ++ l) := ih
  omega
theorem digT_len {d : List UInt8} (hT : DigT d) (h : valD d ≤ 9223372036854775808) : d.length ≤ 19 := by
  have := zB6 d hT (by omega)
  rw [← this]
  exact zE2 h
theorem numX_big {neg : Bool} {d : List UInt8} (h : 9223372036854775808 < valD d) : numX neg d = none := by
  cases neg
  · show numP d = none
    unfold numP
    rw [if_neg (fun h' => by omega)]
  · show numN d = none
    unfold numN
    rw [if_neg (fun h' => by omega)]
theorem numX_end {neg : Bool} {d : List UInt8} (hT : DigT d) (h : valD d ≤ 9223372036854775808) (h48 : neg = true → d.head? ≠ some 48) :
    numX neg d = if neg then some (-(valD d : Int)) else if valD d = 9223372036854775808 then none else some (valD d : Int) := by
  rw [Zj3 hT (digT_len hT h) h48]
  cases neg
  · by_cases e : valD d = 9223372036854775808
    · rw [if_pos (.inr ⟨e, rfl⟩), if_neg (by decide), if_pos e]
    · rw [if_neg (by rintro (h' | ⟨h', _⟩) <;> omega), if_neg (by decide), if_neg (by decide), if_neg e]
  · rw [if_neg (by rintro (h' | ⟨_, h'⟩); omega; cases h'), if_pos rfl, if_pos rfl]
theorem zB3 (D : List UInt8) (w : World) : ∃ cap w1, (convert 9 26 (.string (bs D))).run Tryz.prog w = .ok (.slice (some ⟨w.heap.size, 0, none⟩) D.length cap) w1 ∧ Below w.heap.size w w1 ∧ w.heap.size < w1.heap.size ∧
    ∀ k (h : k < D.length), w1.cell? ⟨w.heap.size, k, none⟩ = some (.int .u8 (D[k].toNat : Int)) := by
  refine ⟨_, _, Lib.run_convert_string_bytes w 9 26 5 (bs D) Tryz.underlying9 Tryz.underlying26 Tryz.underlying5, ?_, ?_, ?_⟩
  · refine ⟨rfl, rfl, rfl, ?_, ?_⟩
    · rw [Lib.bytesWorld_size]; omega
    · intro b hb
      exact Lib.bytesWorld_at_old w _ _ b hb
  · rw [Lib.bytesWorld_size]; omega
  · intro k h
    rw [Lib.bytesWorld_cell w _ (bs D) k h]
    show some (Value.int .u8 ((D.getD k 0).toNat : Int)) = _
    rw [List.getD_eq_getElem?_getD, List.getElem?_eq_getElem h]
    rfl
theorem Zl9 (S : List UInt8) (hl : S.length ≤ 100000) (w : World) : Calls Tryz.prog 87 #[tx S] w fun e w' => e = .returned (retO (numV S)) ∧ Below w.heap.size w w' := by
  have HK : ∀ w, Calls Tryz.prog 124 #[.string (bs S), .string ⟨#[45]⟩] w fun e w' => e = .returned (.tuple #[.string (bs (digS S)), .bool (negS S)]) ∧ w' = w := fun w => Tryz.strings_CutPrefix (bs S) ⟨#[45]⟩ w
  obtain ⟨h1, h2⟩ := Zl8 S
  have hdl : (digS S).length ≤ 100000 := by
    unfold digS Lib.trimPrefix
    split
    · rw [List.length_drop]; omega
    · exact hl
  rw [h1]
  generalize digS S = D at *
  generalize negS S = neg at *
  have HB : Below w.heap.size w w := Below.refl _ _
  unfold tx
  obtain ⟨d, hd⟩ : ∃ d, bs D = d := ⟨_, rfl⟩
  have hE : d.toList.isEmpty = D.isEmpty := by rw [← hd, ze3]
  have hsz : d.size = D.length := by rw [← hd]; rfl
  cases D with
  | nil =>
    have HX := Lib.hid (zF3 (neg := neg) (d := []) (fun h => h.1 rfl))
    have hE : d.toList.isEmpty = true := hE
    clear h1 h2 hsz
    rw [hd] at HK
    generalize numX neg [] = r at *
    go_enter Tryz.func87, Tryz.ntmps87
    go_wp2_with (first
      | (go_at_call 124; refine (HK _).mono ?_; rintro e w' ⟨rfl, rfl⟩))
    go_ret2
    exact ⟨by rw [HX.out]; rfl, HB⟩
  | cons a t =>
    have hE : d.toList.isEmpty = false := hE
    have hp : 0 < d.size := by rw [hsz]; simp
    have hx : d[0] = a := by subst hd; rfl
    have hq : ((bs S).toList == [48]) = decide (S = [48]) := by have := bs_beq S [48]; rw [ze3 [48]] at this; exact this
    obtain ⟨cap, w1, hconv, hB1, hg1, hcells⟩ := zB3 (a :: t) w
    rw [hd] at HK hconv
    by_cases hbad : a = 48 ∧ S ≠ [48]
    · have hb48 : (d[0].toNat : Int) = 48 := by rw [hx, hbad.1]; rfl
      rw [decide_eq_false hbad.2] at hq
      have HX : Hid (numX neg (a :: t) = none) := by
        show _ = _
        rw [hbad.1]
        cases neg
        · have e := h2 rfl
          rw [hbad.1] at e
          refine zF3 (fun h => ?_)
          have := h.2.2 rfl
          refine hbad.2 ?_
          rw [← e]
          cases t with
          | nil => rfl
          | cons b t => simp at this
        · exact zy1 rfl
      clear hconv hB1 hg1 hcells h1 h2 hbad hx hsz hd
      generalize numX neg (a :: t) = r at *
      go_enter Tryz.func87, Tryz.ntmps87
      go_wp2_with (first
        | (go_at_call 124; refine (HK _).mono ?_; rintro e w' ⟨rfl, rfl⟩))
      all_goals
        go_ret2
        exact ⟨by rw [HX.out]; rfl, HB⟩
    have HEnd : Hid ((∀ c ∈ a :: t, zv2 c = true) → valD (a :: t) ≤ 9223372036854775808 → numX neg (a :: t) = if neg then some (-(valD (a :: t) : Int)) else if valD (a :: t) = 9223372036854775808 then none else some (valD (a :: t) : Int)) := by
      intro ha hv
      have hone : a = 48 → neg = false ∧ t = [] := fun e => by
        have hS : S = [48] := Classical.byContradiction fun h => hbad ⟨e, h⟩
        cases hn : neg with
        | false => exact ⟨rfl, by have := h2 hn; rw [hS] at this; exact (List.cons.inj this).2⟩
        | true =>
          exfalso
          rw [hS, hn, e] at h1
          rw [zy1 rfl] at h1
          exact absurd h1 (by decide)
      refine numX_end ⟨List.cons_ne_nil _ _, ha, fun h => ?_⟩ hv (fun hn h => ?_)
      · obtain ⟨_, ht⟩ := hone (Option.some.inj h)
        rw [ht]; rfl
      · obtain ⟨hf, _⟩ := hone (Option.some.inj h)
        rw [hn] at hf
        cases hf
    have HBad : Hid (¬ (∀ c ∈ a :: t, zv2 c = true) → numX neg (a :: t) = none) := fun h => zF3 (fun h' => h h'.2.1)
    have HBig : Hid (9223372036854775808 < valD (a :: t) → numX neg (a :: t) = none) := fun h => numX_big h
    have hgo : (a = 48 ∧ S = [48]) ∨ a ≠ 48 := by
      by_cases e : a = 48
      · exact .inl ⟨e, Classical.byContradiction fun h => hbad ⟨e, h⟩⟩
      · exact .inr e
    have HC := Lib.hid hcells
    clear h1 h2 hbad hd hcells
    go_enter Tryz.func87, Tryz.ntmps87
    rcases hgo with ⟨e1, e2⟩ | e1
    case' inl =>
      have hb48 : (d[0].toNat : Int) = 48 := by rw [hx, e1]; rfl
      rw [decide_eq_true e2] at hq
      clear e2
    case' inr =>
      have hb48 : ((d[0].toNat : Int) == 48) = false := by
        rw [hx, beq_eq_false_iff_ne]
        intro e
        exact e1 (UInt8.toNat_inj.1 (show _ = 48 by omega))
    all_goals
      clear e1 hx
      have hlz : (a :: t).length ≤ 100000 := hdl
      generalize a :: t = D at *
      go_upto_region 5 with (first
        | (go_at_call 124; refine (HK _).mono ?_; rintro e w' ⟨rfl, rfl⟩))
      clear hb48 hE hq HK hp
      go_wp2
      go_loop [6, 29] (fun n i => ∃ (k : Nat) (N : Int), i = .int .i64 k ∧ n = .int .i64 N ∧ k ≤ D.length ∧ Hid (-N = (valD (D.take k) : Int) ∧ ∀ c ∈ D.take k, zv2 c = true) ∧ -9223372036854775808 ≤ N ∧ N ≤ 0) (fun _ i => D.length - (intOf i).toNat)
      case atStart => exact ⟨0, 0, rfl, rfl, Nat.zero_le _, ⟨rfl, fun c hc => by cases hc⟩, by decide, by decide⟩
      case round =>
        obtain ⟨k, N, rfl, rfl, hk, HN, hN0, hN1⟩ := hrel
        by_cases hlt : k < D.length
        · have hc := HC.out k hlt
          have hltI : (k : Int) < D.length := by omega
          obtain ⟨c, hcc⟩ : ∃ c, D[k] = c := ⟨_, rfl⟩
          rw [hcc] at hc
          obtain ⟨X, hX⟩ : ∃ X : Int, (c.toNat : Int) = X := ⟨_, rfl⟩
          have hX0 : 0 ≤ X ∧ X < 256 := by have := c.toNat_lt; omega
          have hts : D.take (k + 1) = D.take k ++ [c] := by rw [List.take_succ_eq_append_getElem hlt, hcc]
          have hmem : c ∈ D := by rw [← hcc]; exact List.getElem_mem hlt
          have HX1 : Hid ((X < 48 ∨ 57 < X) → numX neg D = none) := fun h => HBad.out (fun ha => by
            have := of_decide_eq_true (ha c hmem)
            omega)
          have HX2 : Hid (48 ≤ X → X ≤ 57 → 10 * N - (X - 48) < -9223372036854775808 → numX neg D = none) := fun a1 a2 h => HBig.out (by
            have hm := Zp3 (D.take (k + 1)) (D.drop (k + 1))
            rw [List.take_append_drop, hts, zn1] at hm
            have := HN.out.1
            omega)
          have HX3 : Hid (48 ≤ X → X ≤ 57 → -(10 * N - (X - 48)) = (valD (D.take (k + 1)) : Int) ∧ ∀ c ∈ D.take (k + 1), zv2 c = true) := fun a1 a2 => by
            refine ⟨?_, ?_⟩
            · rw [hts, zn1]
              have := HN.out.1
              omega
            · intro y hy
              rw [hts] at hy
              rcases List.mem_append.1 hy with h | h
              · exact HN.out.2 y h
              · rw [List.mem_singleton.1 h]; exact decide_eq_true (by omega)
          rw [hX] at hc
          clear hX hts hmem hcc HN
          have e1 : wrap64 X = X := zj1 ⟨by omega, by omega⟩
          have e2 : wrap64 (X - 48) = X - 48 := zj1 ⟨by omega, by omega⟩
          by_cases g1 : X < 48
          · have b1 : decide (X - 48 < 0) = true := decide_eq_true (by omega)
            have HR := Lib.hid (HX1.out (.inl g1))
            clear HX1 HX2 HX3 HBad HBig HEnd
            go_wp2
            go_ret2
            exact ⟨by rw [HR.out]; rfl, hB1⟩
          · have b1 : decide (X - 48 < 0) = false := decide_eq_false (by omega)
            by_cases g2 : 57 < X
            · have b2 : decide (9 < X - 48) = true := decide_eq_true (by omega)
              have HR := Lib.hid (HX1.out (.inr g2))
              clear HX1 HX2 HX3 HBad HBig HEnd
              go_wp2
              go_ret2
              exact ⟨by rw [HR.out]; rfl, hB1⟩
            · have b2 : decide (9 < X - 48) = false := decide_eq_false (by omega)
              have h4 := Lib.hid (HX2.out (by omega) (by omega))
              have h5 := Lib.hid (HX3.out (by omega) (by omega))
              clear HX1 HX2 HX3 HBad HBig
              obtain ⟨Y, hY⟩ : ∃ Y, X - 48 = Y := ⟨_, rfl⟩
              rw [hY] at e2 b1 b2 h4 h5
              have hY0 : 0 ≤ Y ∧ Y ≤ 9 := by omega
              clear g1 g2
              have hQ : (-9223372036854775808 + Y).tdiv 10 = -((9223372036854775808 - Y) / 10) := by rw [show -9223372036854775808 + Y = -(9223372036854775808 - Y) by omega, Int.neg_tdiv, Int.tdiv_eq_ediv_of_nonneg (by omega)]
              obtain ⟨Q, hQQ⟩ : ∃ Q, -((9223372036854775808 - Y) / 10) = Q := ⟨_, rfl⟩
              rw [hQQ] at hQ
              have e6 : wrap64 Q = Q := zj1 ⟨by omega, by omega⟩
              by_cases g3 : N < Q
              · have b3 : decide (N < Q) = true := decide_eq_true g3
                have HR := Lib.hid (h4.out (by omega))
                clear h4 h5 HEnd hQQ g3
                go_wp2
                go_ret2
                exact ⟨by rw [HR.out]; rfl, hB1⟩
              · have b3 : decide (N < Q) = false := decide_eq_false g3
                have hM : -9223372036854775808 ≤ 10 * N - Y ∧ 10 * N - Y ≤ 0 := by omega
                have e3 : wrap64 (10 * N) = 10 * N := zj1 ⟨by omega, by omega⟩
                have e4 : wrap64 (10 * N - Y) = 10 * N - Y := zj1 ⟨by omega, by omega⟩
                clear h4 hQQ g3
                go_wp2
                exact ⟨⟨k + 1, 10 * N - Y, by go_num, rfl, by omega, h5, hM.1, hM.2⟩, by simp [intOf]; omega⟩
        · obtain rfl : k = D.length := by omega
          have hE := HN.out
          rw [List.take_length] at hE
          have hv := HEnd.out hE.2 (by have := hE.1; omega)
          have hD := hE.1
          clear HBad HBig HEnd HN hE
          cases neg
          · have e5 : wrap64 (-N) = if N = -9223372036854775808 then -9223372036854775808 else -N := by
              by_cases e : N = -9223372036854775808
              · rw [if_pos e, e]; unfold wrap64; omega
              · rw [if_neg e]; exact zj1 ⟨by omega, by omega⟩
            by_cases e : N = -9223372036854775808
            · rw [if_neg (by decide), if_pos (by omega)] at hv
              have HR := Lib.hid hv
              subst e
              clear hv hD e5
              go_wp2
              go_ret2
              exact ⟨by rw [HR.out]; rfl, hB1⟩
            · rw [if_neg (by decide), if_neg (by omega)] at hv
              rw [if_neg e, ] at e5
              have be : (N == -9223372036854775808) = false := by simpa using e
              rw [← hD] at hv
              have HR := Lib.hid hv
              clear hv hD e
              go_wp2
              go_ret2
              exact ⟨by rw [HR.out]; rfl, hB1⟩
          · rw [if_pos rfl, ← hD, Int.neg_neg] at hv
            have HR := Lib.hid hv
            clear hv hD
            go_wp2
            go_ret2
            exact ⟨by rw [HR.out]; rfl, hB1⟩
end Go.Proofs.YtmamblgpekafbaaGreatDoor
namespace Go.Proofs.YtmamblgpekafbaaGreatDoor
open Go.RowKit
def regC (ok : Bool) (o : Option Int) : Option Int := if ok then (match o with | some n => if 0 ≤ n ∧ n ≤ 31 then some n else none | none => none) else none
theorem regC_eq (S : List UInt8) : regC (Lib.hasPrefix S [120]) (numV (Lib.trimPrefix S [120])) = regS S := by
  apply Option.ext
  intro r
  show regC _ _ = some r ↔ regS S = some r
  rw [zw3]
  unfold Lib.trimPrefix Lib.hasPrefix
  constructor
  · intro h
    unfold regC at h
    split at h
    · next hp =>
      split at h
      · next n hn =>
        split at h
        · next hr =>
          obtain rfl := Option.some.inj h
          refine ⟨hr, ?_⟩
          have := ((zF2 _ _).1 hn).2
          unfold regT
          rw [this]
          cases S with
          | nil => simp [List.isPrefixOf] at hp
          | cons a t =>
            simp [List.isPrefixOf] at hp
            rw [hp]; rfl
        · cases h
      · cases h
    · cases h
  · rintro ⟨hr, rfl⟩
    have hp : List.isPrefixOf [120] (regT r) = true := by unfold regT; simp [List.isPrefixOf]
    have hd : List.drop ([120] : List UInt8).length (regT r) = digI r := rfl
    rw [hp, if_pos rfl, hd, zS4 ⟨by omega, by omega⟩]
    unfold regC
    rw [if_pos rfl]
    simp only
    rw [if_pos hr]
theorem reg_c (S : List UInt8) (hl : S.length ≤ 100000) (w : World) : Calls Tryz.prog 125 #[tx S] w fun e w' => e = .returned (retO (regS S)) ∧ Below w.heap.size w w' := by
  have HK : ∀ w, Calls Tryz.prog 124 #[.string (bs S), .string ⟨#[120]⟩] w fun e w' => e = .returned (.tuple #[.string (bs (Lib.trimPrefix S [120])), .bool (Lib.hasPrefix S [120])]) ∧ w' = w := fun w => Tryz.strings_CutPrefix (bs S) ⟨#[120]⟩ w
  have hdl : (Lib.trimPrefix S [120]).length ≤ 100000 := by
    unfold Lib.trimPrefix
    split
    · rw [List.length_drop]; omega
    · exact hl
  have HN := Zl9 (Lib.trimPrefix S [120]) hdl w
  have HX := Lib.hid (regC_eq S)
  unfold tx retO at HN ⊢
  generalize regS S = r at *
  generalize Lib.trimPrefix S [120] = D at *
  generalize Lib.hasPrefix S [120] = ok at *
  obtain ⟨o, ho⟩ : ∃ o, numV D = o := ⟨_, rfl⟩
  rw [ho] at HN HX
  clear ho hdl
  cases o with
  | none =>
    have HR : Hid (r = none) := by show r = none; rw [← HX.out]; unfold regC; cases ok <;> rfl
    clear HX
    have HN : Calls Tryz.prog 87 #[.string (bs D)] w fun e w' => e = .returned (.tuple #[.int .i64 0, .bool false]) ∧ Below w.heap.size w w' := HN
    cases ok
    all_goals
      go_enter Tryz.func125, Tryz.ntmps125
      go_wp2_with (first
        | (go_at_call 124; refine (HK _).mono ?_; rintro e w' ⟨rfl, rfl⟩)
        | (go_at_call 87; refine HN.mono ?_; rintro e w' ⟨rfl, hb⟩; have HB2 := Lib.hid hb; clear hb))
      go_ret2
      exact ⟨by rw [HR.out]; rfl, HB2.out⟩
  | some n =>
    have HN : Calls Tryz.prog 87 #[.string (bs D)] w fun e w' => e = .returned (.tuple #[.int .i64 n, .bool true]) ∧ Below w.heap.size w w' := HN
    cases ok with
    | false =>
      have HR : Hid (r = none) := by show r = none; rw [← HX.out]; rfl
      clear HX
      go_enter Tryz.func125, Tryz.ntmps125
      go_wp2_with (first
        | (go_at_call 124; refine (HK _).mono ?_; rintro e w' ⟨rfl, rfl⟩)
        | (go_at_call 87; refine HN.mono ?_; rintro e w' ⟨rfl, hb⟩; have HB2 := Lib.hid hb; clear hb))
      go_ret2
      exact ⟨by rw [HR.out]; rfl, HB2.out⟩
    | true =>
      by_cases h0 : n < 0
      · have HR : Hid (r = none) := by show r = none; rw [← HX.out]; unfold regC; rw [if_pos rfl]; simp only; rw [if_neg (by omega)]
        clear HX
        have b0 : decide (n < 0) = true := decide_eq_true h0
        clear h0
        go_enter Tryz.func125, Tryz.ntmps125
        go_wp2_with (first
          | (go_at_call 124; refine (HK _).mono ?_; rintro e w' ⟨rfl, rfl⟩)
          | (go_at_call 87; refine HN.mono ?_; rintro e w' ⟨rfl, hb⟩; have HB2 := Lib.hid hb; clear hb))
        go_ret2
        exact ⟨by rw [HR.out]; rfl, HB2.out⟩
      · have b0 : decide (n < 0) = false := decide_eq_false h0
        by_cases h1 : 31 < n
        · have HR : Hid (r = none) := by show r = none; rw [← HX.out]; unfold regC; rw [if_pos rfl]; simp only; rw [if_neg (by omega)]
          clear HX
          have b1 : decide (31 < n) = true := decide_eq_true h1
          clear h0 h1
          go_enter Tryz.func125, Tryz.ntmps125
          go_wp2_with (first
            | (go_at_call 124; refine (HK _).mono ?_; rintro e w' ⟨rfl, rfl⟩)
            | (go_at_call 87; refine HN.mono ?_; rintro e w' ⟨rfl, hb⟩; have HB2 := Lib.hid hb; clear hb))
          go_ret2
          exact ⟨by rw [HR.out]; rfl, HB2.out⟩
        · have HR : Hid (r = some n) := by show r = some n; rw [← HX.out]; unfold regC; rw [if_pos rfl]; simp only; rw [if_pos ⟨by omega, by omega⟩]
          clear HX
          have b1 : decide (31 < n) = false := decide_eq_false h1
          have e1 : wrap64 n = n := zj1 ⟨by omega, by omega⟩
          clear h0 h1
          go_enter Tryz.func125, Tryz.ntmps125
          go_wp2_with (first
            | (go_at_call 124; refine (HK _).mono ?_; rintro e w' ⟨rfl, rfl⟩)
            | (go_at_call 87; refine HN.mono ?_; rintro e w' ⟨rfl, hb⟩; have HB2 := Lib.hid hb; clear hb))
          go_ret2
          exact ⟨by rw [HR.out]; rfl, HB2.out⟩
end Go.Proofs.YtmamblgpekafbaaGreatDoor
namespace Go.Proofs.YtmamblgpekafbaaGreatDoor
open Go.RowKit
end Go.Proofs.YtmamblgpekafbaaGreatDoor
namespace Go.Proofs.YtmamblgpekafbaaGreatDoor
open Go.RowKit
theorem Zo9 (op : Int) : (shpT op).length ≤ 11 := by
  have hall : ∀ k : Fin 13, (shpL.getD k.val []).length ≤ 11 := by decide
  have hs := zd0 op
  unfold shpT
  split
  · decide
  · split
    · decide
    · exact hall ⟨(srt op).toNat, by omega⟩
end Go.Proofs.YtmamblgpekafbaaGreatDoor
