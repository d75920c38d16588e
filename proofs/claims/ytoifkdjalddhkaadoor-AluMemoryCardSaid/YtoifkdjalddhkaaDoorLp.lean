/- The law on pairs, walked over what is asked of package alu. -/
import Derived.Test.YtoifkdjalddhkaaDoorRows
import Derived.Test.YtoifkdjalddhkaaDoorCa
import Derived.Test.YtoifkdjalddhkaaDoorPq
import Derived.WalkKit
import Derived.WalkLawsBesides
import Derived.Deep.QuietTactic
import Derived.BigQuiet
import Derived.WalkSmall
import Derived.WalkSpells
import Derived.Lib.Hide
import Derived.Below
import Derived.LoopTactic
import Derived.Deep.LoopGhost
import Derived.Outline
import Derived.Deep.RegionHeld3
import Derived.Deep.DeepCutAuto
namespace Go.Proofs.YtoifkdjalddhkaaDoor
open Go.RowKit

def lcells (l : List Int) : Array Value := (l.map (Value.int .i64)).toArray
/-- The two lists of operations lie in blocks gA and gB. -/
def PQ (W : World) (gA gB : Nat) (w : World) : Prop := BW W w ∧ Blk (lcells nuL) 3 gA w ∧ Blk (lcells paL) 3 gB w
section
variable {W w w' : World} {gA gB : Nat}
theorem PQ.on (h : PQ W gA gB w) (hb : Below w.heap.size w w') : PQ W gA gB w' := ⟨h.1.on hb, h.2.1.on hb, h.2.2.on hb⟩
theorem PQ.drew (h : PQ W gA gB w) : PQ W gA gB w.drew := ⟨Below.drew h.1, h.2.1.drew, h.2.2.drew⟩
theorem lcells_at {l : List Int} {k : Nat} (h : k < l.length) : (lcells l)[k]? = some (.int .i64 (l.getD k 0)) := by
  unfold lcells
  rw [List.getElem?_toArray, List.getElem?_map, List.getD_eq_getElem?_getD, List.getElem?_eq_getElem h]
  rfl
theorem PQ.cells (h : PQ W gA gB w) {k : Nat} (hk : k < 13) : w.cell? ⟨gA, k, none⟩ = some (.int .i64 (nuL.getD k 0)) ∧ w.cell? ⟨gB, k, none⟩ = some (.int .i64 (paL.getD k 0)) :=
  ⟨(h.2.1.cell k).trans (lcells_at hk), (h.2.2.cell k).trans (lcells_at hk)⟩
end
theorem ops_lo (k : Nat) (hk : k < 13) : I64 (nuL.getD k 0) ∧ I64 (paL.getD k 0) := by
  have h : ∀ k : Fin 13, (0 ≤ nuL.getD k.val 0 ∧ nuL.getD k.val 0 ≤ 75) ∧ (0 ≤ paL.getD k.val 0 ∧ paL.getD k.val 0 ≤ 75) := by decide
  obtain ⟨h1, h2⟩ := h ⟨k, hk⟩
  simp only at h1 h2
  exact ⟨⟨by omega, by omega⟩, ⟨by omega, by omega⟩⟩

set_option maxHeartbeats 2000000 in
theorem pairs_law {W : World} (C : Calu W) (imm a b : Int) (ha : U64 a) (hb : U64 b) :
    Calls Tryd.prog 6 #[.int .i64 imm, .int .u64 a, .int .u64 b] W fun e w' => e = .returned (.bool true) ∧ Below W.heap.size W w' := by
  have HB : BW W W := Below.refl _ _
  have L := fun w (h : BW W w) => alive_any C w h
  go_enter Tryd.func6, Tryd.ntmps6
  go_upto_region 5 with (first
    | (go_at_call 8; refine (L _ HB).mono ?_; rintro e w1 ⟨rfl, HB1⟩))
  have HP : PQ W w1.heap.size (w1.heap.size + 1) ((w1.alloc (.cells (lcells nuL) 3)).alloc (.cells (lcells paL) 3)) := by
    have e : (w1.alloc (.cells (lcells nuL) 3)).heap.size = w1.heap.size + 1 := by simp
    have h2 := Blk.new (lcells paL) 3 (w1.alloc (.cells (lcells nuL) 3))
    rw [e] at h2
    exact ⟨BW.new (BW.new HB1 _) _, (Blk.new _ _ _).alloc _, h2⟩
  simp only [lcells, nuL, paL, List.map_cons, List.map_nil] at HP
  generalize (w1.alloc (.cells _ 3)).alloc (.cells _ 3) = w2 at *
  obtain ⟨gB, hgB⟩ : ∃ g, w1.heap.size + 1 = g := ⟨_, rfl⟩
  rw [hgB] at HP ⊢
  obtain ⟨gA, hgA⟩ : ∃ g, w1.heap.size = g := ⟨_, rfl⟩
  rw [hgA] at HP ⊢
  clear hgA hgB HB1 HB
  have HA := Lib.hid ha
  have HBB := Lib.hid hb
  clear ha hb
  go_wp2
  go_loopw [9] (fun v9 wr => PQ W gA gB wr ∧ ∃ k : Nat, v9 = .int .i64 k ∧ k ≤ 13) (fun v9 _ => (13 - intOf v9).toNat)
  case atStart => exact ⟨HP, 0, rfl, by omega⟩
  case round =>
    obtain ⟨HPR, k, rfl, hk⟩ := hrel
    obtain ⟨w3, rfl⟩ : ∃ w3 : World, w3 = wr := ⟨_, rfl⟩
    by_cases hlt : k < 13
    · have hltI : (k : Int) < 13 := by omega
      have hre := res_pairs k hlt imm a b
      have hio := ops_lo k hlt
      have K1 := fun w (h : PQ W gA gB w) => (C.result ⟨nuL.getD k 0, 0, 0, 0, imm, false, false, 0, 0⟩ 0 a b w h.1 hio.1 (by decide) HA.out HBB.out).mono fun e w' (hh : _ ∧ _) => And.intro hh.1 (And.intro (h.on hh.2) ((h.on hh.2).cells hlt))
      have K2 := fun w (h : PQ W gA gB w) => (C.result ⟨paL.getD k 0, 0, 0, 0, 0, false, false, 0, 0⟩ 0 a (IntKind.u64.wrap imm) w h.1 hio.2 (by decide) HA.out (w_U imm)).mono fun e w' (hh : _ ∧ _) => And.intro hh.1 (And.intro (h.on hh.2) ((h.on hh.2).cells hlt))
      obtain ⟨cA, cB⟩ := HPR.cells hlt
      unfold insV at K1 K2
      simp only at K1 K2
      rw [hre] at K1
      clear hre hio
      generalize resV (paL.getD k 0) 0 0 a (IntKind.u64.wrap imm) = rr at *
      generalize nuL.getD k 0 = n at *
      generalize paL.getD k 0 = m at *
      go_upto_region 8 with (fail)
      go_region_held3 (fun w' => PQ W gA gB w' ∧ w'.cell? ⟨gA, k, none⟩ = some (.int .i64 n) ∧ w'.cell? ⟨gB, k, none⟩ = some (.int .i64 m))
        (first | (exact ⟨by assumption, by assumption, by assumption⟩) | (exact ⟨PQ.drew (by assumption), by assumption, by assumption⟩))
        (first
          | (go_at_call 9; (with_reducible refine (K1 _ ?_).mono ?_); (first | assumption | exact PQ.drew (by assumption)); rintro e w' ⟨rfl, hJ, b0, b1⟩)
          | (go_at_call 9; (with_reducible refine (K2 _ ?_).mono ?_); (first | assumption | exact PQ.drew (by assumption)); rintro e w' ⟨rfl, hJ, b0, b1⟩))
      all_goals go_wp2
      all_goals exact ⟨⟨by assumption, k + 1, by go_num, by omega⟩, by simp [intOf]; omega⟩
    · obtain rfl : k = 13 := by omega
      have HW3 : BW W w3 := HPR.1
      go_wp2
      clear HPR HP L hlt hk
      have T := fun op (hop : 0 ≤ op ∧ op ≤ 10) w (h : BW W w) => past h (C.taken ⟨op, 0, 0, 0, 0, false, false, 0, 0⟩ a b w h ⟨by show _ ≤ op; omega, by show op ≤ _; omega⟩ HA.out HBB.out)
      have T5 := T 5 (by decide)
      have T6 := T 6 (by decide)
      have T7 := T 7 (by decide)
      have T8 := T 8 (by decide)
      have T9 := T 9 (by decide)
      have T10 := T 10 (by decide)
      unfold insV at T5 T6 T7 T8 T9 T10
      simp only at T5 T6 T7 T8 T9 T10
      obtain ⟨q1, q2, q3⟩ := tak_pairs a b
      rw [q1] at T6
      rw [q2] at T8
      rw [q3] at T10
      clear q1 q2 q3 T
      generalize takV 5 a b = t5 at *
      generalize takV 7 a b = t7 at *
      generalize takV 9 a b = t9 at *
      have LL := fun w (h : BW W w) => alive_any C w h
      have A1 := fun w (h : BW W w) => past h (C.result ⟨35, 0, 0, 0, 0, false, false, 0, 0⟩ 0 a b w h ⟨by decide, by decide⟩ (by decide) HA.out HBB.out)
      have A2 := fun w (h : BW W w) => past h (C.result ⟨36, 0, 0, 0, 0, false, false, 0, 0⟩ 0 (resV 35 0 0 a b) b w h ⟨by decide, by decide⟩ (by decide) (add_U _ _ _ _) HBB.out)
      simp only [sub_add a b HA.out] at A2
      unfold insV at A1 A2
      simp only at A1 A2
      generalize resV 35 0 0 a b = ra at *
      go_loopg [10] 3 (fun gg v10 wr => BW W wr ∧ ∃ j : Int, v10 = .int .i64 j ∧ j + 2 * gg = 11 ∧ (j = 5 ∨ j = 7 ∨ j = 9 ∨ j = 11))
      case atStart => exact ⟨HW3, 5, rfl, by omega, .inl rfl⟩
      case round =>
        obtain ⟨hbw, j, rfl, hg, hj⟩ := hrel
        obtain ⟨w4, rfl⟩ : ∃ w4 : World, w4 = wr := ⟨_, rfl⟩
        rcases hj with rfl | rfl | rfl | rfl
        · cases t5
          all_goals
            go_wp2_with (first
              | (go_at_call 11; ((with_reducible refine (T5 _ (by assumption)).mono ?_); rintro e w' ⟨rfl, hb5, _⟩))
              | (go_at_call 11; ((with_reducible refine (T6 _ (by assumption)).mono ?_); rintro e w' ⟨rfl, hb6, _⟩)))
            go_roundg 2
            case measure => omega
            case rel => exact ⟨by assumption, 7, rfl, by omega, .inr (.inl rfl)⟩
        · cases t7
          all_goals
            go_wp2_with (first
              | (go_at_call 11; ((with_reducible refine (T7 _ (by assumption)).mono ?_); rintro e w' ⟨rfl, hb5, _⟩))
              | (go_at_call 11; ((with_reducible refine (T8 _ (by assumption)).mono ?_); rintro e w' ⟨rfl, hb6, _⟩)))
            go_roundg 1
            case measure => omega
            case rel => exact ⟨by assumption, 9, rfl, by omega, .inr (.inr (.inl rfl))⟩
        · cases t9
          all_goals
            go_wp2_with (first
              | (go_at_call 11; ((with_reducible refine (T9 _ (by assumption)).mono ?_); rintro e w' ⟨rfl, hb5, _⟩))
              | (go_at_call 11; ((with_reducible refine (T10 _ (by assumption)).mono ?_); rintro e w' ⟨rfl, hb6, _⟩)))
            go_roundg 0
            case measure => omega
            case rel => exact ⟨by assumption, 11, rfl, by omega, .inr (.inr (.inr rfl))⟩
        · go_wp2_with (first
            | (go_at_call 8; refine (LL _ (by assumption)).mono ?_; rintro e w' ⟨rfl, hb5⟩)
            | (go_at_call 9; ((with_reducible refine (A1 _ (by assumption)).mono ?_); rintro e w' ⟨rfl, hb6, _⟩))
            | (go_at_call 9; ((with_reducible refine (A2 _ (by assumption)).mono ?_); rintro e w' ⟨rfl, hb7, _⟩)))
          go_ret
          exact ⟨rfl, by assumption⟩
end Go.Proofs.YtoifkdjalddhkaaDoor
