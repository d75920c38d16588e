/- The contract of the document's Places. -/
import Derived.Test.YtolmecnjolfjgaaGreatDoorRows
import Derived.Test.YtolmecnjolfjgaaGreatDoorBk4
import Derived.WalkKit
import Derived.WalkLawsBesides
import Derived.Deep.QuietTactic
import Derived.BigQuiet
import Derived.WalkSmall
import Derived.WalkSpells
import Derived.Lib.Hide
import Derived.Below
import Derived.Deep.Cut
import Derived.LoopTactic
import Derived.OwnWalk
set_option maxRecDepth 100000
namespace Go.Proofs.YtolmecnjolfjgaaGreatDoor
open Go.RowKit

/-- The array at a block. -/
def Row (W : World) (g : Nat) (w : World) (xs : List Value) : Prop := w.ownsRow W.heap.size 138 1 (.slice (some ⟨g, 0, none⟩) 32 32) 32 xs
theorem Row.put {W w : World} {g k : Nat} {f x : Int} (h : Row W g w (plcs f k ++ zer (32 - k))) (hk : k < 32) (hx : plc f k = x) : Row W g (w.setCell ⟨g, k, none⟩ (.int .i64 x)) (plcs f (k + 1) ++ zer (32 - (k + 1))) := by
  have := (World.ownsRow.stored h k (.int .i64 x)).1
  rw [← hx, plcs_set f k hk] at this
  rw [← hx]; exact this
theorem Row.other {W w : World} {g g' k : Nat} {x : Value} {xs ys : List Value} (h : Row W g w xs) (h' : Row W g' w ys) (hne : g' ≠ g) : Row W g' (w.setCell ⟨g, k, none⟩ x) ys :=
  World.ownsRow.kept h' (World.ownsRow.stored h k x).2 (.inr (by simpa [Value.ownBlock] using hne))
theorem Row.load {P : Program} {W w : World} {g : Nat} {xs : List Value} (h : Row W g w xs) : (loadCellsFrom ⟨g, 0, none⟩ 0 32 #[]).run P w = .ok xs.toArray w := by
  have hl : xs.length = 32 := by have := h.1; omega
  have := run_loadCells_list (P := P) w ⟨g, 0, none⟩ xs (fun j v hv => World.ownsRow.cells h rfl j v hv)
  rw [hl] at this
  exact this
theorem Row.store {P : Program} {W w : World} {g : Nat} {xs : List Value} (h : Row W g w xs) (ys : List Value) (hy : ys.length = 32) (h1 : ∀ v ∈ ys, v.oneCell' = true) :
    ∃ w', (storeCells ⟨g, 0, none⟩ ys 0).run P w = .ok () w' ∧ Row W g w' ys ∧ w.grownBy w' (some g) := by
  rcases h with ⟨hl, ⟨h', _⟩ | ⟨g', cap, cur, h', hb, hg, hnc, hcm, hcs, _⟩⟩
  · cases h'
  · cases h'
    have hc : cur.size = 32 := by omega
    have hr := run_storeCells_at (P := P) g 0 138 ys 0 cur w hg (by omega) h1
    have he : (cur.toList.take (0 + 0) ++ ys ++ cur.toList.drop (0 + 0 + ys.length)) = ys := by
      rw [List.take_zero, List.nil_append, List.drop_of_length_le (by rw [Array.length_toList]; omega), List.append_nil]
    rw [he] at hr
    refine ⟨_, hr, ⟨by omega, .inr ⟨g, 32, ys.toArray, rfl, hb, setRow_heap w g cur ys.toArray _ _ hg, Nat.le_refl _, hcm, by simpa using hy, by rw [List.toList_toArray, List.take_of_length_le (by omega)]⟩⟩, ?_⟩
    exact ⟨rfl, rfl, rfl, by simp, fun k _ hk => setRow_other w g k _ (fun e => hk (by rw [e]))⟩
theorem Row.start (W w : World) (xs : List Value) (hb : W.heap.size ≤ w.heap.size) (hx : xs.length = 32) : Row W w.heap.size (w.alloc (.cells xs.toArray 138)) xs :=
  ⟨by omega, .inr ⟨w.heap.size, 32, xs.toArray, rfl, hb, heap_alloc_new w _, Nat.le_refl _, by unfold maxLen; omega, by simpa using hx, by rw [List.toList_toArray, List.take_of_length_le (by omega)]⟩⟩
theorem Row.kept {W w w' : World} {g g' : Nat} {xs : List Value} (h : Row W g w xs) (hg : w.grownBy w' (some g')) (hne : g ≠ g') : Row W g w' xs :=
  World.ownsRow.kept h hg (.inr (by simpa [Value.ownBlock] using hne))
theorem Row.alloc {W w : World} {g : Nat} {xs : List Value} (h : Row W g w xs) (o : Obj) : Row W g (w.alloc o) xs := World.ownsRow.alloc h o
theorem Row.var {P : Program} {W w : World} {g : Nat} {xs : List Value} (h : Row W g w xs) (hu : P.underlying 138 = some (.array 32 3)) (hi : (P.info? 138).map (·.size) = some 32) : (loadVar 138 ⟨g, 0, none⟩).run P w = .ok (.agg xs.toArray) w := by
  rcases h with ⟨hl, ⟨h', _⟩ | ⟨g', cap, cur, h', hb, hg, hnc, hcm, hcs, ht⟩⟩
  · cases h'
  · cases h'
    have hc : cur.size = 32 := by omega
    have e : xs.toArray = cur := by
      rw [← ht, List.take_of_length_le (by rw [Array.length_toList]; omega)]
    rw [e]
    exact run_loadVar_row w g _ _ cur (0, 0) _ hg hu rfl (by rw [hi, hc])
theorem load_row32 {P : Program} {W w : World} {ops : Array Oper} {rest : List Oper} {o : Oper} {a : Act} {Q : Exit → Act → World → Prop} (hgd : o.guard = none) (x : Operand) (ho : o.op = .load 138 x) (g : Nat) (hx : a.eval x = .pointer (some ⟨g, 0, none⟩))
    {xs : List Value} (hr : Row W g w xs) (hu : P.underlying 138 = some (.array 32 3)) (hi : (P.info? 138).map (·.size) = some 32) (h : wpList P ops Q rest (a.put o.dst (.agg xs.toArray)) w) : wpList P ops Q (o :: rest) a w :=
  wpList_plain hgd fun K hK => by
    unfold Oper.wp execOp
    simp only [ho, hx, Instr.loadAt, Instr.sureAddr, Sem.run_bind, Sem.run_pure, Result.andThen_ok, Row.var hr hu hi]
    exact hK _ _ h
theorem res_cell32 {P : Program} {fn : Func} {t : Tmp} {ty : TypeId} (h : fn.results = #[.cell t ty]) {tmps : Array Value} {g : Nat} {v : Value} {w : World} (ht : tmps.getD t undef = .pointer (some ⟨g, 0, none⟩)) (hl : (loadVar ty ⟨g, 0, none⟩).run P w = .ok v w) :
    (results fn tmps).run P w = .ok v w := by
  rw [Array.getD_eq_getD_getElem?] at ht
  simp [results, h, ht, asAddr, hl]
theorem plcs_one (f : Int) (k : Nat) : ∀ v ∈ plcs f k, v.oneCell' = true := by
  intro v hv
  obtain ⟨i, _, rfl⟩ := List.mem_map.1 hv
  rfl

set_option maxHeartbeats 4000000 in
set_option maxRecDepth 100000 in
theorem places_one (f : Int) (w : World) (hf : f = 1 ∨ f = 2 ∨ f = 3 ∨ f = 4 ∨ f = 5 ∨ ¬ (1 ≤ f ∧ f ≤ 5)) :
    Calls Tryz.prog 122 #[.int .i64 f] w fun e w' => e = .returned (.agg (plcV f)) ∧ Below w.heap.size w w' := by
  rcases hf with hf | hf | hf | hf | hf | hf
  all_goals
      first | (have b1 : (f == 1) = true := by simp; omega) | (have b1 : (f == 1) = false := by simp; omega)
      first | (have b2 : (f == 2) = true := by simp; omega) | (have b2 : (f == 2) = false := by simp; omega)
      first | (have b3 : (f == 3) = true := by simp; omega) | (have b3 : (f == 3) = false := by simp; omega)
      first | (have b4 : (f == 4) = true := by simp; omega) | (have b4 : (f == 4) = false := by simp; omega)
      first | (have b5 : (f == 5) = true := by simp; omega) | (have b5 : (f == 5) = false := by simp; omega)
      have HF := Lib.hid hf
      clear hf
      go_enter Tryz.func122, Tryz.ntmps122
      go_wp2_with fail
      go_loopg [4] 32 (fun gg v4 wr => Below w.heap.size w wr ∧ ∃ k : Nat, v4 = .int .i64 k ∧ k + gg = 32 ∧ Hid (Row w (w.heap.size + 1) wr (plcs f k ++ zer (32 - k))) ∧ Hid (Row w w.heap.size wr (zer 32)))
      case atStart =>
        have h1 := Row.start w w (zer 32) (Nat.le_refl _) (by simp [zer])
        have h2 := Row.start w (w.alloc (.cells (zer 32).toArray 138)) (zer 32) (by simp) (by simp [zer])
        have e : (w.alloc (.cells (zer 32).toArray 138)).heap.size = w.heap.size + 1 := by simp
        rw [e] at h2
        exact ⟨((Below.refl _ _).alloc (Nat.le_refl _) _).alloc (by simp) _, 0, rfl, by omega, h2, h1.alloc _⟩
      case round =>
        obtain ⟨hb, k, rfl, hk, HO, HZ⟩ := hrel
        by_cases hk32 : k < 32
        · have hk32' : (k : Int) < 32 := by omega
          have hcell := World.ownsRow.cellAt HO.out k (by omega)
          have hfz := World.ownsRow.frozenAt HO.out k
          obtain ⟨u, hu⟩ : ∃ u, (plcs f k ++ zer (32 - k))[k]? = some u := ⟨_, List.getElem?_eq_getElem (by simp [plcs, zer]; omega)⟩
          rw [hu] at hcell
          clear hu
          have hkk : k = 7 ∨ k = 20 ∨ k = 31 ∨ (k ≠ 7 ∧ k ≠ 20 ∧ k ≠ 31) := by omega
          rcases hkk with hkk | hkk | hkk | hkk
          all_goals
            first | (have q7 : ((k : Int) == 7) = true := by simp; omega) | (have q7 : ((k : Int) == 7) = false := by simp; omega)
            first | (have q20 : ((k : Int) == 20) = true := by simp; omega) | (have q20 : ((k : Int) == 20) = false := by simp; omega)
            first | (have q31 : ((k : Int) == 31) = true := by simp; omega) | (have q31 : ((k : Int) == 31) = false := by simp; omega)
            have HKK := Lib.hid hkk
            clear hkk
            go_wp2_with fail
            all_goals go_roundg (32 - (k + 1))
            all_goals try (case measure => omega)
            all_goals
              refine ⟨hb.setCell (by simp) _, k + 1, by go_num, by omega, (show Hid _ from Row.put HO.out hk32 ?_), (show Hid _ from Row.other HO.out HZ.out (by omega))⟩
            all_goals
              have hf := HF.out
              have hkk := HKK.out
              first
                | (have hp := plc_f1 hf k; omega)
                | (have hp := plc_f2 hf k; omega)
                | (have hp := plc_f3 hf k; omega)
                | (have hp := plc_f4 hf k; omega)
                | (have hp := plc_f5 hf k; omega)
                | exact plc_no hf k
        · obtain rfl : k = 32 := by omega
          have hO : Row w (w.heap.size + 1) wr (plcs f 32) := by have := HO.out; rwa [show plcs f 32 ++ zer (32 - 32) = plcs f 32 by simp [zer]] at this
          obtain ⟨w2, hs, hr2, hgr⟩ := Row.store (P := Tryz.prog) HZ.out (plcs f 32) (plcs_len f 32) (plcs_one f 32)
          go_upto_region 37 with (fail)
          go_wp2_with (with_reducible refine load_row32 (o := ⟨some 82, _, _, _, _, _⟩) rfl (.tmp 3) rfl (w.heap.size + 1) rfl hO Tryz.underlying138 (by kernel_rfl) ?_)
          exact bodyPost_ret (res_cell32 rfl rfl (Row.var hr2 Tryz.underlying138 (by kernel_rfl))) rfl ⟨rfl, hb.grown hgr hb.size (fun q hq => by cases hq; exact Nat.le_refl _)⟩
theorem places_any (f : Int) (w : World) :
    Calls Tryz.prog 122 #[.int .i64 f] w fun e w' => e = .returned (.agg (plcV f)) ∧ Below w.heap.size w w' := places_one f w (by omega)
end Go.Proofs.YtolmecnjolfjgaaGreatDoor
