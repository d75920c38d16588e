/- The document's words of a text. -/
import Derived.Test.YtdpbiboldmoadaaDoorRows
import Derived.Test.YtdpbiboldmoadaaDoorRd
import Derived.Test.YtdpbiboldmoadaaDoorRt0
import Derived.Test.YtdpbiboldmoadaaDoorOp5
import Derived.WalkKit
import Derived.WalkLawsBesides
import Derived.Deep.QuietTactic
import Derived.BigQuiet
import Derived.WalkSmall
import Derived.WalkSpells
import Derived.Lib.Hide
import Derived.Below
import Derived.LoopTactic
import Derived.Deep.LoopGhost
import Derived.OwnWalk
import Derived.Laws.AppendOwn
set_option maxRecDepth 100000
namespace Go.Proofs.YtdpbiboldmoadaaDoor
open Go.RowKit

theorem info_str : (Tryd.prog.info? 9).map (fun i => (i.zero, i.size, i.bytes)) = some (some (.string ByteArray.empty), 1, 16) := by kernel_rfl
def txs (O : List (List UInt8)) : List Value := O.map tx
def RetS (w : World) (O : List (List UInt8)) (e : Ending) (w' : World) : Prop := ∃ A cap, e = .returned (.slice A O.length cap) ∧ Rd w' w'.heap.size A (txs O) ∧ Below w.heap.size w w'
theorem RetS.of_own {w w' : World} {O : List (List UInt8)} {base : Nat} {e : TypeId} {n : Nat} {v : Value} (h : w'.ownsRow base e 1 v n (txs O)) (hb : Below w.heap.size w w') : RetS w O (.returned v) w' := by
  obtain ⟨A, c, rfl, hr⟩ := own_form h
  have hn : n = O.length := by have := h.1; unfold txs at this; rw [List.length_map] at this; omega
  subst hn
  exact ⟨A, c, rfl, hr, hb⟩
theorem extract_one (q : ByteArray) (k : Nat) (h : k < q.size) : q.extract k (k + 1) = bs [q[k]] := by
  apply ByteArray.ext
  rw [ByteArray.data_extract]
  apply Array.ext'
  rw [Array.toList_extract, List.extract_eq_take_drop, Nat.add_sub_cancel_left]
  rw [List.take_one, List.head?_drop, List.getElem?_eq_getElem (by rw [Array.length_toList]; exact h)]
  rfl
theorem drop_cons (q : ByteArray) (k : Nat) (h : k < q.size) : q.data.toList.drop k = q[k] :: q.data.toList.drop (k + 1) := by
  rw [List.drop_eq_getElem_cons (by rw [Array.length_toList]; exact h)]
  rfl
theorem isW_of (c : UInt8) (h : isW c = true) : (97 ≤ (c.toNat : Int) ∧ (c.toNat : Int) ≤ 122) ∨ (48 ≤ (c.toNat : Int) ∧ (c.toNat : Int) ≤ 57) ∨ (c.toNat : Int) = 46 ∨ (c.toNat : Int) = 45 := by
  have := of_decide_eq_true h
  rcases this with h | h | h | h
  · exact .inl ⟨by omega, by omega⟩
  · exact .inr (.inl ⟨by omega, by omega⟩)
  · exact .inr (.inr (.inl (by rw [h]; rfl)))
  · exact .inr (.inr (.inr (by rw [h]; rfl)))
theorem isW_not (c : UInt8) (h : isW c = false) : ((c.toNat : Int) < 97 ∨ 122 < (c.toNat : Int)) ∧ ((c.toNat : Int) < 48 ∨ 57 < (c.toNat : Int)) ∧ ((c.toNat : Int) == 46) = false ∧ ((c.toNat : Int) == 45) = false := by
  have h := of_decide_eq_false h
  refine ⟨by omega, by omega, ?_, ?_⟩
  · rw [beq_eq_false_iff_ne]; intro e; exact h (.inr (.inr (.inl (UInt8.toNat_inj.1 (show _ = 46 by omega)))))
  · rw [beq_eq_false_iff_ne]; intro e; exact h (.inr (.inr (.inr (UInt8.toNat_inj.1 (show _ = 45 by omega)))))
set_option maxHeartbeats 2000000 in
theorem rwords_any (q : ByteArray) (hq : q.size ≤ 1000) (w : World) : Calls Tryd.prog 36 #[.string q] w (RetS w (wordsT q.data.toList)) := by
  obtain ⟨i0, hi, hz0, hz1, hz2⟩ := info_parts info_str
  have hlen := len_toList q
  have HB : Below w.heap.size w w := Below.refl _ _
  go_enter Tryd.func36, Tryd.ntmps36
  go_wp2
  go_loopw [3, 4, 5] (fun o s i wr => ∃ (O : List (List UInt8)) (W : List UInt8) (n k : Nat), i = .int .i64 k ∧ s = .string (bs W) ∧ Hid (wr.ownsRow w.heap.size 9 1 o n (txs O)) ∧ Hid (Below w.heap.size w wr) ∧ W.length ≤ k ∧ n ≤ k ∧ k ≤ q.size + 1 ∧ Hid (k ≤ q.size → wordsT q.data.toList = O ++ wordsA (q.data.toList.drop k) W) ∧ Hid (q.size < k → wordsT q.data.toList = O)) (fun _ _ i _ => q.size + 1 - (intOf i).toNat)
  case atStart => exact ⟨[], [], 0, 0, rfl, rfl, World.ownsRow_nil _ _ _ _, HB, Nat.le_refl _, Nat.le_refl _, by omega, fun _ => rfl, fun h => by omega⟩
  case round =>
    obtain ⟨O, W, n, k, rfl, rfl, HO, HBR, hW, hn, hk, HK, HE⟩ := hrel
    by_cases hle : k ≤ q.size
    · by_cases hlt : k < q.size
      · have hd := drop_cons q k hlt
        have hK := HK.out hle
        rw [hd] at hK
        obtain ⟨c, hc⟩ : ∃ c, q[k] = c := ⟨_, rfl⟩
        have hx := extract_one q k hlt
        rw [hc] at hK hx
        cases hw : isW c
        case true =>
          rw [wordsA, if_pos hw] at hK
          have hA := Lib.hid hK
          have ha : ∀ w2 : World, (Op.stringOp .add (bs W) (bs [c])).run Tryd.prog w2 = .ok (.string (bs (W ++ [c]))) w2 := fun w2 => cat W [c] (by omega) (by simp) w2
          have hcc := isW_of c hw
          clear hd hK HK HE hw
          rcases hcc with ⟨e1, e2⟩ | ⟨e1, e2⟩ | e1 | e1
          · have g1 : decide (97 ≤ (c.toNat : Int)) = true := decide_eq_true e1
            have g2 : decide ((c.toNat : Int) ≤ 122) = true := decide_eq_true e2
            clear e1 e2
            go_wp2
            exact ⟨⟨O, W ++ [c], n, k + 1, by go_num, rfl, HO, HBR, by simp; omega, by omega, by omega, fun _ => hA.out, fun h => by omega⟩, by simp [intOf]; omega⟩
          · have g0 : decide (97 ≤ (c.toNat : Int)) = false := decide_eq_false (by omega)
            have g1 : decide (48 ≤ (c.toNat : Int)) = true := decide_eq_true e1
            have g2 : decide ((c.toNat : Int) ≤ 57) = true := decide_eq_true e2
            clear e1 e2
            go_wp2
            exact ⟨⟨O, W ++ [c], n, k + 1, by go_num, rfl, HO, HBR, by simp; omega, by omega, by omega, fun _ => hA.out, fun h => by omega⟩, by simp [intOf]; omega⟩
          · go_wp2
            exact ⟨⟨O, W ++ [c], n, k + 1, by go_num, rfl, HO, HBR, by simp; omega, by omega, by omega, fun _ => hA.out, fun h => by omega⟩, by simp [intOf]; omega⟩
          · go_wp2
            exact ⟨⟨O, W ++ [c], n, k + 1, by go_num, rfl, HO, HBR, by simp; omega, by omega, by omega, fun _ => hA.out, fun h => by omega⟩, by simp [intOf]; omega⟩
        case false =>
          rw [wordsA, if_neg (by rw [hw]; decide)] at hK
          have hcc := isW_not c hw
          obtain ⟨q1, q2, g3, g4⟩ := hcc
          clear hd hx hw HK HE
          by_cases hW0 : W = []
          · subst hW0
            have hA : wordsT q.data.toList = O ++ wordsA (List.drop (k + 1) q.data.toList) [] := by rw [hK]; rfl
            have HA := Lib.hid hA
            clear hA hK
            rcases q1 with q1 | q1 <;> rcases q2 with q2 | q2
            all_goals
              first | (have g1 : decide (97 ≤ (c.toNat : Int)) = false := decide_eq_false (by omega)) | (have g1 : decide (97 ≤ (c.toNat : Int)) = true := decide_eq_true (by omega); have g1' : decide ((c.toNat : Int) ≤ 122) = false := decide_eq_false (by omega))
              first | (have g2 : decide (48 ≤ (c.toNat : Int)) = false := decide_eq_false (by omega)) | (have g2 : decide (48 ≤ (c.toNat : Int)) = true := decide_eq_true (by omega); have g2' : decide ((c.toNat : Int) ≤ 57) = false := decide_eq_false (by omega))
              clear q1 q2
              go_wp2
              exact ⟨⟨O, [], n, k + 1, by go_num, rfl, HO, HBR, by simp, by omega, by omega, fun _ => HA.out, fun h => by omega⟩, by simp [intOf]; omega⟩
          · have hz : ((bs W).size : Int) = W.length := rfl
            have hp : 0 < W.length := by
              cases W with
              | nil => exact absurd rfl hW0
              | cons a l => simp
            have hA : wordsT q.data.toList = (O ++ [W]) ++ wordsA (List.drop (k + 1) q.data.toList) [] := by rw [hK, putW_ne hW0, List.append_assoc]
            have HA := Lib.hid hA
            clear hA hK hW0
            rcases q1 with q1 | q1 <;> rcases q2 with q2 | q2
            all_goals
              first | (have g1 : decide (97 ≤ (c.toNat : Int)) = false := decide_eq_false (by omega)) | (have g1 : decide (97 ≤ (c.toNat : Int)) = true := decide_eq_true (by omega); have g1' : decide ((c.toNat : Int) ≤ 122) = false := decide_eq_false (by omega))
              first | (have g2 : decide (48 ≤ (c.toNat : Int)) = false := decide_eq_false (by omega)) | (have g2 : decide (48 ≤ (c.toNat : Int)) = true := decide_eq_true (by omega); have g2' : decide ((c.toNat : Int) ≤ 57) = false := decide_eq_false (by omega))
              clear q1 q2
              go_wp2_with (first
                | (at_builtin; refine wpList_append_own _ rfl _ _ 52 rfl w.heap.size 9 i0 (.string ByteArray.empty) 1 16 Tryd.underlying52 hi hz0 hz1 hz2 rfl (by decide) _ _ _ rfl (HO.out.alloc _) ⟨wr.heap.size, 0, none⟩ 1 1 [tx W] rfl rfl (cell_new _ _ _) (by simp [tx, Value.oneCell']) (by unfold maxLen; omega) (by omega) (by have := HBR.out.size; simp; omega) ?_))
              intro v1 wa hown hgrow hnn
              clear hnn
              have HBB : Hid (Below w.heap.size w wa) := (HBR.out.alloc HBR.out.size _).grown hgrow (by have := HBR.out.size; simp; omega) (fun q hq => (HO.out.lt q hq).1)
              have HO1 : Hid (wa.ownsRow w.heap.size 9 1 v1 (n + 1) (txs (O ++ [W]))) := by show World.ownsRow _ _ _ _ _ _ _; rw [show txs (O ++ [W]) = txs O ++ [tx W] by simp [txs]]; exact hown
              clear hown hgrow HO HBR
              go_wp2
              exact ⟨⟨O ++ [W], [], n + 1, k + 1, by go_num, rfl, HO1, HBB, by simp, by omega, by omega, fun _ => HA.out, fun h => by omega⟩, by simp [intOf]; omega⟩
      · obtain rfl : k = q.size := by omega
        have hK := HK.out hle
        rw [List.drop_eq_nil_of_le (by omega), wordsA] at hK
        clear HK HE hlt
        by_cases hW0 : W = []
        · subst hW0
          have hA : wordsT q.data.toList = O := by rw [hK]; unfold putW; simp
          have HA := Lib.hid hA
          clear hA hK
          go_wp2
          exact ⟨⟨O, [], n, q.size + 1, by go_num, rfl, HO, HBR, by simp, by omega, by omega, fun h => by omega, fun _ => HA.out⟩, by simp [intOf]⟩
        · have hz : ((bs W).size : Int) = W.length := rfl
          have hp : 0 < W.length := by
            cases W with
            | nil => exact absurd rfl hW0
            | cons a l => simp
          have hA : wordsT q.data.toList = O ++ [W] := by rw [hK, putW_ne hW0]
          have HA := Lib.hid hA
          clear hA hK hW0
          go_wp2_with (first
            | (at_builtin; refine wpList_append_own _ rfl _ _ 52 rfl w.heap.size 9 i0 (.string ByteArray.empty) 1 16 Tryd.underlying52 hi hz0 hz1 hz2 rfl (by decide) _ _ _ rfl (HO.out.alloc _) ⟨wr.heap.size, 0, none⟩ 1 1 [tx W] rfl rfl (cell_new _ _ _) (by simp [tx, Value.oneCell']) (by unfold maxLen; omega) (by omega) (by have := HBR.out.size; simp; omega) ?_))
          intro v1 wa hown hgrow hnn
          clear hnn
          have HBB : Hid (Below w.heap.size w wa) := (HBR.out.alloc HBR.out.size _).grown hgrow (by have := HBR.out.size; simp; omega) (fun q hq => (HO.out.lt q hq).1)
          have HO1 : Hid (wa.ownsRow w.heap.size 9 1 v1 (n + 1) (txs (O ++ [W]))) := by show World.ownsRow _ _ _ _ _ _ _; rw [show txs (O ++ [W]) = txs O ++ [tx W] by simp [txs]]; exact hown
          clear hown hgrow HO HBR
          go_wp2
          exact ⟨⟨O ++ [W], [], n + 1, q.size + 1, by go_num, rfl, HO1, HBB, by simp, by omega, by omega, fun h => by omega, fun _ => HA.out⟩, by simp [intOf]⟩
    · have hE := HE.out (by omega)
      have hkq : ¬ (k : Int) ≤ q.size := by omega
      have HA := Lib.hid hE
      clear HK HE hE hle
      go_wp2
      go_ret
      rw [HA.out]
      exact RetS.of_own HO.out HBR.out
end Go.Proofs.YtdpbiboldmoadaaDoor
