/- Package guess: target, went. -/
import Derived.Test.YtdcmpmmbmjaaiaaDoorGc
import Derived.Test.YtdcmpmmbmjaaiaaDoorHz
import Derived.Deep.Cut
set_option maxRecDepth 100000
set_option linter.unusedVariables false
namespace Go.Proofs.YtdcmpmmbmjaaiaaDoor
open Go.RowKit

/-- A guess lies there, behind w. -/
def GS (s : Gst) (g : Nat) (w x : World) : Prop := GAt s g x ∧ BW w x
theorem GS.on {s : Gst} {g : Nat} {w x y : World} (h : GS s g w x) (k : BW x y) : GS s g w y := ⟨h.1.on k, BW.on h.2 k⟩
theorem GS.fr {s : Gst} {g : Nat} {w x y : World} (h : GS s g w x) {b : Nat} (k : x.grownBy y (some b)) (hb : w.heap.size ≤ b) (hg : g < w.heap.size) : GS s g w y :=
  ⟨(k.block g h.1.lt (by simp; omega)).trans h.1, Below.stored h.2 k hb (Below.size h.2)⟩
theorem jump_at (s : Gst) {k : Nat} (hk : k < 16) : ∀ j v, [Value.int .u64 (s.t k), Value.bool (s.b k)][j]? = some v → (gCells s)[2 * k + j]? = some v := by
  intro j v hv
  match j, hv with
  | 0, hv => exact (gCells_t s hk).trans hv
  | 1, hv => exact (gCells_b s hk).trans hv
set_option maxHeartbeats 4000000 in
theorem target_c {s : Gst} {g : Nat} {w : World} (h : GAt s g w) (pc : Int) (h0 : 0 ≤ pc) (h1 : pc ≤ 18446744073709551615) : Calls Tryd.prog 12 #[.pointer (some ⟨g, 0, none⟩), .int .u64 pc] w fun e w' => e = .returned (.tuple #[.int .u64 (s.t (numG pc)), .bool (s.b (numG pc))]) ∧ BW w w' := by
  have KN := number_c pc h0 h1
  have hk := numG_lt pc
  generalize numG pc = k at *
  have hlt : g < w.heap.size := Blk.lt h
  have HJ := Lib.hid (jump_at s hk)
  have HS0 : GS s g w w := ⟨h, Below.refl _ _⟩
  clear h h0 h1
  go_enter Tryd.func12, Tryd.ntmps12
  go_upto_region 1 with (fail)
  go_cut [6] from 7 to 13 (fun s6 wx => ∃ b : Nat, s6 = .pointer (some ⟨b, 0, none⟩) ∧ Hid (BW w wx ∧ Blk #[.int .u64 (s.t k), .bool (s.b k)] 39 b wx))
  case first =>
    refine wp_region_held (S := GS s g w) (by kernel_rfl) ?_
    change wpAnyH _ _ _ _ _ _ _ _ (World.drew _)
    have HS := HS0.on (Below.drew (Below.refl _ _))
    clear HS0
    generalize World.drew _ = w3 at *
    refine hk_val (i := 0) (oi := ⟨some 7, .move _, _, _, _, _⟩) (.pointer (some ⟨g, 0, none⟩)) rfl (by kernel_rfl) (by kernel_rfl) (by kernel_rfl) (fun _ _ _ h => h) (by kernel_rfl) (fun _ _ => rfl) HS ?_
    simp only [Act.put, List.setIfInBounds_toArray, List.set_cons_zero, List.set_cons_succ]
    refine hk_val (i := 1) (oi := ⟨some 8, .move _, _, _, _, _⟩) (.int .u64 pc) rfl (by kernel_rfl) (by kernel_rfl) (by kernel_rfl) (fun _ _ _ h => h) (by kernel_rfl) (fun _ _ => rfl) HS ?_
    simp only [Act.put, List.setIfInBounds_toArray, List.set_cons_zero, List.set_cons_succ]
    refine hk_val (i := 3) (oi := ⟨some 10, .nilCheck _, _, _, _, _⟩) (.pointer (some ⟨g, 0, none⟩)) rfl (by kernel_rfl) (by kernel_rfl) (by kernel_rfl) (fun _ _ _ h => h) (by kernel_rfl) (fun _ _ => rfl) HS ?_
    simp only [Act.put, List.setIfInBounds_toArray, List.set_cons_zero, List.set_cons_succ]
    refine hk_val (i := 4) (oi := ⟨some 11, .fieldAddr _ _ _, _, _, _, _⟩) (.pointer (some ⟨g, 0, none⟩)) rfl (by kernel_rfl) (by kernel_rfl) (by kernel_rfl) (fun _ _ _ h => h) (by kernel_rfl) (fun _ _ => by kernel_rfl) HS ?_
    simp only [Act.put, List.setIfInBounds_toArray, List.set_cons_zero, List.set_cons_succ]
    refine Hz.any_two (i := 2) (j := 7) (by kernel_rfl) ?_ ?_
    · refine Hz.call_op (oi := ⟨some 9, .call _, _, _, _, _⟩) rfl (by kernel_rfl) (by first | rfl | kernel_rfl) (KN _) ?_
      rintro e w4 ⟨rfl, rfl⟩
      refine ⟨_, rfl, HS, ?_⟩
      simp only [Act.put, List.setIfInBounds_toArray, List.set_cons_zero, List.set_cons_succ]
      refine hk_val (i := 5) (oi := ⟨some 12, .indexAddr _ _ _, _, _, _, _⟩) (.pointer (some ⟨g, 2 * k, none⟩)) rfl (by kernel_rfl) (by kernel_rfl) (by kernel_rfl) (fun _ _ _ h => h) (by kernel_rfl) (fun _ _ => Hz.ex_indexA (z := 2) rfl rfl rfl rfl hk Tryd.underlying40 (by kernel_rfl) (by omega)) HS ?_
      simp only [Act.put, List.setIfInBounds_toArray, List.set_cons_zero, List.set_cons_succ]
      refine hk_val (i := 6) (oi := ⟨some 13, .load _ _, _, _, _, _⟩) (.agg #[.int .u64 (s.t k), .bool (s.b k)]) rfl (by kernel_rfl) (by kernel_rfl) (by kernel_rfl) (fun _ _ _ h => h) (by kernel_rfl) (fun x hx => Hz.ex_load_mid [.int .u64 (s.t k), .bool (s.b k)] rfl rfl hx.1 HJ.out Tryd.underlying39 rfl (by kernel_rfl)) HS ?_
      simp only [Act.put, List.setIfInBounds_toArray, List.set_cons_zero, List.set_cons_succ]
      refine Hz.any_one (i := 7) (by kernel_rfl) ?_
      refine Hz.alloc_op (oi := ⟨some 6, .alloc _, _, _, _, _⟩) (cs := #[.int .u64 0, .bool false]) rfl rfl rfl (by kernel_rfl) ?_
      have HS4 := HS.on (BW.new (Below.refl _ w3) (.cells #[.int .u64 0, .bool false] 39))
      have HN4 := Blk.new #[.int .u64 0, .bool false] 39 w3
      refine ⟨HS4, ?_⟩
      simp only [Act.put, List.setIfInBounds_toArray, List.set_cons_zero, List.set_cons_succ]
      refine Hz.any_one (i := 8) (by kernel_rfl) ?_
      refine Hz.store_op (oi := ⟨none, .store _ _ _, _, _, _, _⟩) (n := 2) rfl rfl rfl 39 (.tmp 6) (.tmp 13) rfl rfl rfl (by kernel_rfl) rfl (by intro v hv; simp at hv; rcases hv with rfl | rfl <;> rfl) (Has.of HN4 rfl) ?_
      intro w6 hb6 hk6
      have HS6 := HS4.fr hk6 (Below.size HS.2) hlt
      refine ⟨HS6, ?_⟩
      refine wpAnyH_done (by kernel_rfl) ?_ _
      go_wp2
      go_meet
      case rel => exact ⟨_, rfl, HS6.2, hb6⟩
    · refine Hz.alloc_op (oi := ⟨some 6, .alloc _, _, _, _, _⟩) (cs := #[.int .u64 0, .bool false]) rfl rfl rfl (by kernel_rfl) ?_
      have HS4 := HS.on (BW.new (Below.refl _ w3) (.cells #[.int .u64 0, .bool false] 39))
      have HN4 := Blk.new #[.int .u64 0, .bool false] 39 w3
      refine ⟨HS4, ?_⟩
      simp only [Act.put, List.setIfInBounds_toArray, List.set_cons_zero, List.set_cons_succ]
      refine Hz.any_one (i := 2) (by kernel_rfl) ?_
      refine Hz.call_op (oi := ⟨some 9, .call _, _, _, _, _⟩) rfl (by kernel_rfl) (by first | rfl | kernel_rfl) (KN _) ?_
      rintro e w4 ⟨rfl, rfl⟩
      refine ⟨_, rfl, HS4, ?_⟩
      simp only [Act.put, List.setIfInBounds_toArray, List.set_cons_zero, List.set_cons_succ]
      refine hk_val (i := 5) (oi := ⟨some 12, .indexAddr _ _ _, _, _, _, _⟩) (.pointer (some ⟨g, 2 * k, none⟩)) rfl (by kernel_rfl) (by kernel_rfl) (by kernel_rfl) (fun _ _ _ h => h) (by kernel_rfl) (fun _ _ => Hz.ex_indexA (z := 2) rfl rfl rfl rfl hk Tryd.underlying40 (by kernel_rfl) (by omega)) HS4 ?_
      simp only [Act.put, List.setIfInBounds_toArray, List.set_cons_zero, List.set_cons_succ]
      refine hk_val (i := 6) (oi := ⟨some 13, .load _ _, _, _, _, _⟩) (.agg #[.int .u64 (s.t k), .bool (s.b k)]) rfl (by kernel_rfl) (by kernel_rfl) (by kernel_rfl) (fun _ _ _ h => h) (by kernel_rfl) (fun x hx => Hz.ex_load_mid [.int .u64 (s.t k), .bool (s.b k)] rfl rfl hx.1 HJ.out Tryd.underlying39 rfl (by kernel_rfl)) HS4 ?_
      simp only [Act.put, List.setIfInBounds_toArray, List.set_cons_zero, List.set_cons_succ]
      refine Hz.any_one (i := 8) (by kernel_rfl) ?_
      refine Hz.store_op (oi := ⟨none, .store _ _ _, _, _, _, _⟩) (n := 2) rfl rfl rfl 39 (.tmp 6) (.tmp 13) rfl rfl rfl (by kernel_rfl) rfl (by intro v hv; simp at hv; rcases hv with rfl | rfl <;> rfl) (Has.of HN4 rfl) ?_
      intro w6 hb6 hk6
      have HS6 := HS4.fr hk6 (Below.size HS.2) hlt
      refine ⟨HS6, ?_⟩
      refine wpAnyH_done (by kernel_rfl) ?_ _
      go_wp2
      go_meet
      case rel => exact ⟨_, rfl, HS6.2, hb6⟩
  case rest =>
    obtain ⟨b, rfl, HH⟩ := hcut
    have hbk := HH.out.2
    have q0 : World.cell? _ ⟨b, 0, none⟩ = some (.int .u64 (s.t k)) := hbk.cell 0
    have q1 : World.cell? _ ⟨b, 1, none⟩ = some (.bool (s.b k)) := hbk.cell 1
    clear hbk
    go_wp2_with (fail)
    go_quiet (fail)
    go_wp2
    go_ret2
    exact ⟨rfl, below_drewN' HH.out.1 _⟩
theorem part_store {P : Program} {w : World} {s : Gst} {g : Nat} {t ty : TypeId} (hb : Blk (gCells s) t g w) (hz : (P.info? ty).map (·.size) = some 2) {k : Nat} (hk : k < 16) (v : Int) (d : Bool) :
    ∃ w', (Instr.storeAt ty (.pointer (some ⟨g, 2 * k, none⟩)) (.agg #[.int .u64 v, .bool d])).run P w = .ok () w' ∧ Blk (gCells ⟨updK s.t k v, updK s.b k d, s.c⟩) t g w' ∧ Fr [g] w w' := by
  obtain ⟨w', e, b, kk⟩ := Hz.part (P := P) hb (2 * k) [.int .u64 v, .bool d] (by show 2 * k + 2 ≤ 48; omega) (by intro v hv; simp at hv; rcases hv with rfl | rfl <;> rfl)
  rw [gCells_setT s v d hk] at b
  exact ⟨w', Hz.run_store_part (P := P) hz e, b, (Fr.refl [g] w).grown kk (by intro i hi; left; simpa using hi.symm)⟩
set_option maxHeartbeats 4000000 in
theorem went_c {s : Gst} {g : Nat} {w : World} (h : GAt s g w) (pc next : Int) (h0 : 0 ≤ pc) (h1 : pc ≤ 18446744073709551615) : Calls Tryd.prog 16 #[.pointer (some ⟨g, 0, none⟩), .int .u64 pc, .int .u64 next] w fun e w' => e = .returned (.tuple #[]) ∧ GAt (wentG s pc next) g w' ∧ Fr [g] w w' := by
  have KN := number_c pc h0 h1
  unfold wentG
  have hk := numG_lt pc
  generalize numG pc = k at *
  have HS0 : GS s g w w := ⟨h, Below.refl _ _⟩
  clear h h0 h1
  go_enter Tryd.func16, Tryd.ntmps16
  refine wp_region_P (S := GS s g w) (c := 8) (by kernel_rfl) ?_
  change wpAnyP _ _ _ _ _ _ _ _ _ (World.drew _)
  have HS := HS0.on (Below.drew (Below.refl _ _))
  clear HS0
  generalize World.drew _ = w3 at *
  refine hp_val (i := 0) (oi := ⟨some 6, .move _, _, _, _, _⟩) [8] (.pointer (some ⟨g, 0, none⟩)) rfl (by kernel_rfl) (by kernel_rfl) (by kernel_rfl) (by kernel_rfl) (by kernel_rfl) rfl (fun _ _ _ h => h) (by kernel_rfl) (fun _ _ => rfl) HS ?_
  simp only [Act.put, List.setIfInBounds_toArray, List.set_cons_zero, List.set_cons_succ]
  refine hp_val (i := 1) (oi := ⟨some 7, .move _, _, _, _, _⟩) [8] (.int .u64 pc) rfl (by kernel_rfl) (by kernel_rfl) (by kernel_rfl) (by kernel_rfl) (by kernel_rfl) rfl (fun _ _ _ h => h) (by kernel_rfl) (fun _ _ => rfl) HS ?_
  simp only [Act.put, List.setIfInBounds_toArray, List.set_cons_zero, List.set_cons_succ]
  refine hp_val (i := 3) (oi := ⟨some 9, .move _, _, _, _, _⟩) [8] (.int .u64 next) rfl (by kernel_rfl) (by kernel_rfl) (by kernel_rfl) (by kernel_rfl) (by kernel_rfl) rfl (fun _ _ _ h => h) (by kernel_rfl) (fun _ _ => rfl) HS ?_
  simp only [Act.put, List.setIfInBounds_toArray, List.set_cons_zero, List.set_cons_succ]
  refine hp_val (i := 4) (oi := ⟨some 10, .build _ _, _, _, _, _⟩) [8] (.agg #[.int .u64 next, .bool true]) rfl (by kernel_rfl) (by kernel_rfl) (by kernel_rfl) (by kernel_rfl) (by kernel_rfl) rfl (fun _ _ _ h => h) (by kernel_rfl) (fun _ _ => by kernel_rfl) HS ?_
  simp only [Act.put, List.setIfInBounds_toArray, List.set_cons_zero, List.set_cons_succ]
  refine hp_val (i := 5) (oi := ⟨some 11, .nilCheck _, _, _, _, _⟩) [6, 7, 8] (.pointer (some ⟨g, 0, none⟩)) rfl (by kernel_rfl) (by kernel_rfl) (by kernel_rfl) (by kernel_rfl) (by kernel_rfl) rfl (fun _ _ _ h => h) (by kernel_rfl) (fun _ _ => rfl) HS ?_
  simp only [Act.put, List.setIfInBounds_toArray, List.set_cons_zero, List.set_cons_succ]
  refine hp_val (i := 6) (oi := ⟨some 12, .fieldAddr _ _ _, _, _, _, _⟩) [7, 8] (.pointer (some ⟨g, 0, none⟩)) rfl (by kernel_rfl) (by kernel_rfl) (by kernel_rfl) (by kernel_rfl) (by kernel_rfl) rfl (fun _ _ _ h => h) (by kernel_rfl) (fun _ _ => by kernel_rfl) HS ?_
  simp only [Act.put, List.setIfInBounds_toArray, List.set_cons_zero, List.set_cons_succ]
  refine heldP_call (i := 2) (oi := ⟨some 8, .call _, _, _, _, _⟩) (by kernel_rfl) rfl rfl (by first | rfl | kernel_rfl) (KN _) ?_
  rintro e w4 ⟨rfl, rfl⟩
  refine ⟨_, rfl, .inr HS, ?_⟩
  simp only [Act.put, List.setIfInBounds_toArray, List.set_cons_zero, List.set_cons_succ]
  refine hp_val (i := 7) (oi := ⟨some 13, .indexAddr _ _ _, _, _, _, _⟩) [8] (.pointer (some ⟨g, 2 * k, none⟩)) rfl (by kernel_rfl) (by kernel_rfl) (by kernel_rfl) (by kernel_rfl) (by kernel_rfl) rfl (fun _ _ _ h => h) (by kernel_rfl) (fun _ _ => Hz.ex_indexA (z := 2) rfl rfl rfl rfl hk Tryd.underlying40 (by kernel_rfl) (by omega)) HS ?_
  simp only [Act.put, List.setIfInBounds_toArray, List.set_cons_zero, List.set_cons_succ]
  refine hp_last (i := 8) (oi := ⟨none, .store _ _ _, _, _, _, _⟩) (by kernel_rfl) rfl (by kernel_rfl) (by kernel_rfl) ?_
  obtain ⟨w5, e5, b5, k5⟩ := part_store (P := Tryd.prog) (ty := 39) HS.1 (by kernel_rfl) hk next true
  refine wp_store_cell rfl rfl rfl rfl e5 ?_
  refine wpAnyH_done (by kernel_rfl) ?_ _
  go_wp2
  go_end0
  exact ⟨rfl, b5, (Fr.of [g] HS.2).trans k5 (fun i hi => .inl hi)⟩
end Go.Proofs.YtdcmpmmbmjaaiaaDoor
