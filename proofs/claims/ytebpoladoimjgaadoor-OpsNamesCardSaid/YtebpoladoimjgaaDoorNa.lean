/- The law on names, walked over what is asked of package ops. -/
import Derived.Test.YtebpoladoimjgaaDoorRows
import Derived.Test.YtebpoladoimjgaaDoorLa
import Derived.WalkKit
import Derived.WalkLawsBesides
import Derived.WalkSmall
import Derived.WalkSpells
import Derived.Deep.LoopGhost
import Derived.Deep.QuietTactic
import Derived.BigQuiet
import Derived.Lib.Hide
import Derived.IntWalk
import Derived.Below
import Derived.LoopTactic
import Derived.Deep.Cut
import Derived.Deep.RegionHeld3
import Derived.Deep.DeepCutAuto
namespace Go.Proofs.YtebpoladoimjgaaDoor
open Go.RowKit

def nmA (k : Nat) : List UInt8 := nmL.getD k []
theorem idx_nm : ∀ k : Fin 75, nmL.idxOf (nmA k.val) = k.val := by decide +kernel
theorem bynm_idx (l : List UInt8) : bynm l = if nmL.idxOf l < 75 then (nmL.idxOf l : Int) + 1 else 0 := by
  unfold bynm
  have : l ∈ nmL ↔ nmL.idxOf l < 75 := (List.idxOf_lt_length_iff (l := nmL) (a := l)).symm
  by_cases h : l ∈ nmL
  · rw [if_pos h, if_pos (this.1 h)]
  · rw [if_neg h, if_neg (fun g => h (this.2 g))]
theorem bynm_at {k : Nat} (h : k < 75) : bynm (nmA k) = (k : Int) + 1 := by
  rw [bynm_idx, idx_nm ⟨k, h⟩, if_pos h]
/-- The operation of a name, of the first k. -/
def wantK (l : List UInt8) (k : Nat) : Int := if nmL.idxOf l < k then (nmL.idxOf l : Int) + 1 else 0
theorem wantK_zero (l : List UInt8) : wantK l 0 = 0 := by unfold wantK; rw [if_neg (by omega)]
theorem wantK_end (l : List UInt8) : wantK l 75 = bynm l := by rw [bynm_idx]; rfl
theorem nmA_eq {l : List UInt8} {k : Nat} (h : k < 75) : nmA k = l ↔ nmL.idxOf l = k := by
  constructor
  · intro e; rw [← e]; exact idx_nm ⟨k, h⟩
  · intro e
    have hlt : nmL.idxOf l < nmL.length := by rw [e, nmL_len]; exact h
    have := List.getElem_idxOf hlt
    unfold nmA
    rw [List.getD_eq_getElem?_getD, List.getElem?_eq_getElem (by rw [nmL_len]; exact h)]
    simp only [Option.getD_some]
    simp only [e] at this
    exact this
theorem wantK_yes {l : List UInt8} {k : Nat} (h : k < 75) (e : nmA k = l) : wantK l (k + 1) = (k : Int) + 1 := by
  have := (nmA_eq h).1 e
  unfold wantK; rw [this, if_pos (by omega)]
theorem wantK_no {l : List UInt8} {k : Nat} (h : k < 75) (e : nmA k ≠ l) : wantK l (k + 1) = wantK l k := by
  have h2 : nmL.idxOf l ≠ k := fun g => e ((nmA_eq h).2 g)
  unfold wantK
  by_cases g : nmL.idxOf l < k
  · rw [if_pos g, if_pos (by omega)]
  · rw [if_neg g, if_neg (by omega)]
theorem wantK_range (l : List UInt8) (k : Nat) (h : k ≤ 75) : 0 ≤ wantK l k ∧ wantK l k ≤ 75 := by
  unfold wantK; split <;> omega
theorem nmO_at {op : Int} (h : 1 ≤ op ∧ op ≤ 75) : nmO op = nmA (op.toNat - 1) := by unfold nmO; rw [if_pos h]; rfl
theorem nmO_no {op : Int} (h : ¬ (1 ≤ op ∧ op ≤ 75)) : nmO op = [] := by unfold nmO; rw [if_neg h]
theorem nmA_some : ∀ k : Fin 75, nmA k.val ≠ [] := by decide

/-- The names lie at block g. -/
def NmAt (g : Nat) (w : World) : Prop := g < w.heap.size ∧ ∀ k, k < 75 → w.cell? ⟨g, k, none⟩ = some (tx (nmA k))
theorem NmAt.on {g : Nat} {w w' : World} (h : NmAt g w) (hb : Below w.heap.size w w') : NmAt g w' :=
  ⟨Nat.lt_of_lt_of_le h.1 hb.size, fun k hk => (hb.cell (p := ⟨g, k, none⟩) h.1).trans (h.2 k hk)⟩
def GotN (W w0 : World) (e : Ending) (w' : World) : Prop := e = .returned (.slice (some ⟨w0.heap.size, 0, none⟩) 75 75) ∧ BW W w' ∧ NmAt w0.heap.size w'
theorem names_bw (W w : World) (h : BW W w) : Calls Tryd.prog 13 #[] w (GotN W w) :=
  (names_any w).mono fun _ _ ⟨he, hw⟩ => by
    subst hw
    refine ⟨he, Below.alloc h (Below.size h) _, by simp, fun k hk => ?_⟩
    rw [cell_of_row _ _ k nmV _ (0, 0) (heap_alloc_last w _)]
    exact nmV_at hk

def N3 (W : World) (g k : Nat) (r : ByteArray) (w : World) : Prop := BW W w ∧ NmAt g w ∧ w.cell? ⟨g, k, none⟩ = some (.string r)
theorem N3.on {W : World} {g k : Nat} {r : ByteArray} {w w' : World} (h : N3 W g k r w) (hb : Below w.heap.size w w') : N3 W g k r w' :=
  ⟨h.1.on hb, h.2.1.on hb, (hb.cell (p := ⟨g, k, none⟩) h.2.1.1).trans h.2.2⟩
theorem NmAt.drew {g : Nat} {w : World} (h : NmAt g w) : NmAt g w.drew := h
theorem BW.drew' {W w : World} (h : BW W w) : BW W w.drew := Below.drew h
theorem n_byname {W : World} (C : Cops W) {g k : Nat} {r : ByteArray} {w : World} (h : N3 W g k r w) : Calls Tryd.prog 14 #[.string r] w fun e w' => e = .returned (.int .i64 (bynm r.toList)) ∧ N3 W g k r w' :=
  (C.byname r w h.1).mono fun _ _ ⟨he, hb⟩ => ⟨he, h.on hb⟩
theorem n_name {W : World} (C : Cops W) {g k : Nat} {r : ByteArray} {w : World} (h : N3 W g k r w) {op : Int} (ho : I64 op) : Calls Tryd.prog 15 #[.int .i64 op] w fun e w' => e = .returned (tx (nmO op)) ∧ N3 W g k r w' :=
  (C.name op w h.1 ho).mono fun _ _ ⟨he, hb⟩ => ⟨he, h.on hb⟩

set_option maxHeartbeats 1000000 in
set_option maxRecDepth 100000 in
theorem names_law {W : World} (C : Cops W) (q : ByteArray) (op : Int) (ho : I64 op) :
    Calls Tryd.prog 5 #[.string q, .int .i64 op] W fun e w' => e = .returned (.bool true) ∧ Below W.heap.size W w' := by
  have HB : BW W W := Below.refl _ _
  have L := fun w (h : BW W w) => alive_any C w h
  have HO := Lib.hid ho
  clear ho
  go_enter Tryd.func5, Tryd.ntmps5
  go_wp2_with (first
    | (go_at_call 6; refine (L _ (by assumption)).mono ?_; rintro e w1 ⟨rfl, HB1⟩)
    | (go_at_call 13; refine (names_bw W _ HB1).mono ?_; rintro e w2 ⟨rfl, HB2, HN⟩; have HNM := Lib.hid HN; clear HN))
  obtain ⟨g, hg⟩ : ∃ g, w1.heap.size = g := ⟨_, rfl⟩
  rw [hg] at HNM ⊢
  clear hg
  go_loopg [6, 7] 75 (fun gg v6 v7 wr => BW W wr ∧ Hid (NmAt g wr) ∧ ∃ (k : Nat) (z : Int), v7 = .int .i64 k ∧ v6 = .int .i64 z ∧ k + gg = 75 ∧ Hid (z = wantK q.toList k))
  case atStart => exact ⟨by assumption, HNM, 0, 0, rfl, rfl, by omega, (wantK_zero _).symm⟩
  case round =>
    obtain ⟨hbw, HNR, k, z, rfl, rfl, hk, HZ⟩ := hrel
    obtain ⟨w3, rfl⟩ : ∃ w3 : World, w3 = wr := ⟨_, rfl⟩
    by_cases hk7 : k < 75
    · have hk7' : (k : Int) < 75 := by omega
      have hc := HNR.out.2 k hk7
      unfold tx at hc
      obtain ⟨r, hr⟩ : ∃ r, bs (nmA k) = r := ⟨_, rfl⟩
      rw [hr] at hc
      have HRL : Hid (r.toList = nmA k) := by show _ = _; rw [← hr]; exact bs_list _
      have Y := fun w (h : N3 W g k r w) => n_byname C h
      rw [HRL.out, bynm_at hk7] at Y
      have N := fun w (h : N3 W g k r w) => n_name C h (op := (k : Int) + 1) ⟨by omega, by omega⟩
      rw [nmO_at (by omega), show ((k : Int) + 1).toNat - 1 = k by omega] at N
      unfold tx at N
      rw [hr] at N
      have HRR := Lib.hid hr
      clear hr
      have hy : ((r.toList == q.toList) = true ∧ Hid (wantK q.toList (k + 1) = (k : Int) + 1)) ∨ ((r.toList == q.toList) = false ∧ Hid (wantK q.toList (k + 1) = z)) := by
        by_cases he : nmA k = q.toList
        · exact .inl ⟨by rw [HRL.out, he]; simp, wantK_yes hk7 he⟩
        · refine .inr ⟨by rw [HRL.out]; simpa using he, ?_⟩
          show _ = _
          rw [wantK_no hk7 he, HZ.out]
      have hnm := HNR.out
      have hsum : IntKind.i64.wrap ((k : Int) + 1) = (k : Int) + 1 := IntWalk.i64_in _ (by omega)
      have HSUM := Lib.hid hsum
      clear hsum
      rcases hy with ⟨hy, HW⟩ | ⟨hy, HW⟩
      · go_upto_region 10 with (fail)
        all_goals
          have hsum := HSUM.out
          go_region_held3 (fun w' => BW W w' ∧ NmAt g w' ∧ w'.cell? ⟨g, k, none⟩ = some (.string r))
            (first | (exact ⟨by assumption, by assumption, by assumption⟩) | (exact ⟨BW.drew' (by assumption), NmAt.drew (by assumption), by assumption⟩) | (refine ⟨?_, ?_, ?_⟩ <;> go_keep))
            (first
              | (go_at_call 14; refine (Y _ ?_).mono ?_; (first | assumption | (refine ⟨?_, ?_, ?_⟩ <;> first | assumption | (simp [*]))); rintro e w' ⟨rfl, hq1, hq2, hq3⟩)
              | (go_at_call 15; refine (N _ ?_).mono ?_; (first | assumption | (refine ⟨?_, ?_, ?_⟩ <;> first | assumption | (simp [*]))); rintro e w' ⟨rfl, hq1, hq2, hq3⟩))
        all_goals
          clear hsum
          go_wp2
          go_roundg (75 - (k + 1))
          case measure => omega
          case rel => exact ⟨by assumption, by assumption, k + 1, _, by go_num, rfl, by omega, (show Hid _ from HW.out.symm)⟩
      · go_upto_region 10 with (fail)
        all_goals
          have hsum := HSUM.out
          go_region_held3 (fun w' => BW W w' ∧ NmAt g w' ∧ w'.cell? ⟨g, k, none⟩ = some (.string r))
            (first | (exact ⟨by assumption, by assumption, by assumption⟩) | (exact ⟨BW.drew' (by assumption), NmAt.drew (by assumption), by assumption⟩) | (refine ⟨?_, ?_, ?_⟩ <;> go_keep))
            (first
              | (go_at_call 14; refine (Y _ ?_).mono ?_; (first | assumption | (refine ⟨?_, ?_, ?_⟩ <;> first | assumption | (simp [*]))); rintro e w' ⟨rfl, hq1, hq2, hq3⟩)
              | (go_at_call 15; refine (N _ ?_).mono ?_; (first | assumption | (refine ⟨?_, ?_, ?_⟩ <;> first | assumption | (simp [*]))); rintro e w' ⟨rfl, hq1, hq2, hq3⟩))
        all_goals
          clear hsum
          go_wp2
          go_roundg (75 - (k + 1))
          case measure => omega
          case rel => exact ⟨by assumption, by assumption, k + 1, _, by go_num, rfl, by omega, (show Hid _ from HW.out.symm)⟩
    · obtain rfl : k = 75 := by omega
      have hz : z = bynm q.toList := by rw [HZ.out]; exact wantK_end _
      have YQ := fun w (h : BW W w) => c_byname C h q
      rw [← hz] at YQ
      have HZ2 := Lib.hid hz
      clear hz
      obtain ⟨r, hr⟩ : ∃ r, bs (nmO op) = r := ⟨_, rfl⟩
      have N := fun w (h : BW W w) => c_name C h HO.out
      unfold tx at N
      rw [hr] at N
      have HRL : Hid (r.toList = nmO op) := by show _ = _; rw [← hr]; exact bs_list _
      have Y := fun w (h : BW W w) => c_byname C h r
      rw [HRL.out] at Y
      have HRR := Lib.hid hr
      clear hr
      by_cases hin : 1 ≤ op ∧ op ≤ 75
      · have e := nmO_at hin
        have e2 : bynm (nmO op) = op := by rw [e, bynm_at (by omega)]; omega
        have hne : ¬ r.toList = [] := by rw [HRL.out, e]; exact nmA_some ⟨op.toNat - 1, by omega⟩
        have hne2 : (!r.toList.isEmpty) = true := by simpa using hne
        rw [e2] at Y
        have HE := Lib.hid e
        have HE2 := Lib.hid e2
        have HIN := Lib.hid hin
        clear e e2 hin
        go_wp2_with (first
          | (go_at_call 6; refine (L _ (by assumption)).mono ?_; rintro e w' ⟨rfl, HB⟩)
          | (go_at_call 15; refine (N _ (by assumption)).mono ?_; rintro e w' ⟨rfl, HB⟩)
          | (go_at_call 14; ((with_reducible refine (Y _ (by assumption)).mono ?_); rintro e w' ⟨rfl, HB⟩))
          | (go_at_call 14; ((with_reducible refine (YQ _ (by assumption)).mono ?_); rintro e w' ⟨rfl, HB⟩)))
        go_ret
        exact ⟨rfl, by assumption⟩
      · have e := nmO_no hin
        have hne : r.toList = [] := by rw [HRL.out, e]
        have hne2 : (!r.toList.isEmpty) = false := by simp [hne]
        have HE := Lib.hid e
        clear e hin
        go_wp2_with (first
          | (go_at_call 6; refine (L _ (by assumption)).mono ?_; rintro e w' ⟨rfl, HB⟩)
          | (go_at_call 15; refine (N _ (by assumption)).mono ?_; rintro e w' ⟨rfl, HB⟩)
          | (go_at_call 14; ((with_reducible refine (YQ _ (by assumption)).mono ?_); rintro e w' ⟨rfl, HB⟩)))
        all_goals go_ret
        all_goals exact ⟨rfl, by assumption⟩
end Go.Proofs.YtebpoladoimjgaaDoor
