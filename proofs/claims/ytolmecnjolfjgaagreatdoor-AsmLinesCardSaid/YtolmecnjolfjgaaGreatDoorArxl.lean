/- What the program reads in a line: an instruction's text, a number's line, halt, nothing. What the program reads in a number's line. What the program reads in the line halt, and in an empty one. What the program reads in a byte's line. Labels' names: the document's Name. The program's IsName. What the program reads in a label's line, and in an instruction's that leads to a label. -/
import Derived.Test.YtolmecnjolfjgaaGreatDoorAasl
import Derived.Test.YtolmecnjolfjgaaGreatDoorKr9l
import Derived.Test.YtolmecnjolfjgaaGreatDoorRows
import Derived.WalkKit
import Derived.WalkLawsBesides
import Derived.Deep.QuietTactic
import Derived.BigQuiet
import Derived.WalkSmall
import Derived.WalkSpells
import Derived.Lib.Hide
import Derived.Below
import Derived.LoopTactic
import Derived.Deep.LoopGhost
import Derived.Outline
import Derived.Test.YtolmecnjolfjgaaGreatDoorKn9l
import Derived.Deep.RegionHeld3
set_option maxRecDepth 100000
namespace Go.Proofs.YtolmecnjolfjgaaGreatDoor
open Go.RowKit

theorem Blk.kept {cs : Array Value} {t : TypeId} {g h : Nat} {X Y : World} (hb : Blk cs t g X) (hg : X.grownBy Y (some h)) (hne : g ≠ h) : Blk cs t g Y := (hg.block g hb.lt (by simpa using hne)).trans hb
/-- An arm of the walk: a whole value is stored. -/
theorem outStore {P : Program} {ops : Array Oper} {rest : List Oper} {o : Oper} {a : Act} {w : World} {Q : Exit → Act → World → Prop} {cs ys : Array Value} {t : TypeId} {g : Nat} (hgd : o.guard = none) (hdst : o.dst = none) (ty : TypeId) (x y : Operand) (ho : o.op = .store ty x y) (hb : Blk cs t g w)
    (hx : a.eval x = .pointer (some ⟨g, 0, none⟩)) (hy : a.eval y = .agg ys) (hi : (P.info? ty).map (·.size) = some ys.size) (hs : (P.info? ty).map (·.size) = some cs.size) (h1 : ∀ v ∈ ys.toList, v.oneCell' = true)
    (h : ∀ w', Blk ys t g w' → w.grownBy w' (some g) → wpList P ops Q rest a w') : wpList P ops Q (o :: rest) a w := by
  have hse : cs.size = ys.size := Option.some.inj (hs.symm.trans hi)
  obtain ⟨w', hr, hb', hg⟩ := hb.store (P := P) ys.toList (by rw [Array.length_toList, hse]) h1
  refine wpList_plain hgd fun K hK => ?_
  unfold Oper.wp execOp
  have hsz : (sizeOf ty).run P w = .ok ys.size w := by
    obtain ⟨i, hi1, hi2⟩ := Option.map_eq_some_iff.1 hi
    simp [sizeOf, typeInfo, hi1, hi2]
  simp only [ho, hx, hy, Instr.storeAt, Instr.sureAddr, storeVar, Value.cells, Sem.run_bind, Sem.run_pure, Result.andThen_ok, hsz, ne_eq, not_true_eq_false, if_false, hr]
  have hp : a.put o.dst undef = a := by rw [hdst]; rfl
  exact hK _ _ (hp.symm ▸ h w' (by simpa using hb') hg)
theorem st_ones (s : Stm) : ∀ v ∈ (stCells s).toList, v.oneCell' = true := by
  intro v hv
  simp [stCells] at hv
  rcases hv with rfl | rfl | rfl | rfl | rfl | rfl | rfl | rfl | rfl | rfl | rfl | rfl | rfl | rfl | rfl <;> rfl
def instS (i : Ins) : Stm := ⟨[], false, 0, 4, 0, i, []⟩
theorem ofInst_c (i : Ins) (w : World) : Calls Tryz.prog 132 #[insV i] w fun e w' => e = .returned (stV (instS i)) ∧ Below w.heap.size w w' := by
  have HB : ∀ o o' , Below w.heap.size w ((w.alloc o).alloc o') := fun o o' => ((Below.refl _ w).alloc (Nat.le_refl _) o).alloc (by simp) o'
  obtain ⟨op, rd, rs1, rs2, imm, aq, rl, pred, succ⟩ := i
  unfold insV stV instS
  simp only
  go_enter Tryz.func132, Tryz.ntmps132
  go_upto_region 1 with (fail)
  have hz := Blk.new (stCells noStm) 79 (w.alloc (.cells #[.int .i64 op, .int .i64 rd, .int .i64 rs1, .int .i64 rs2, .int .i64 imm, .bool aq, .bool rl, .int .i64 pred, .int .i64 succ] 40))
  have hcs : stCells noStm = #[.string ⟨#[]⟩, .bool false, .int .i64 0, .int .i64 0, .int .u64 0, .int .i64 0, .int .i64 0, .int .i64 0, .int .i64 0, .int .i64 0, .bool false, .bool false, .int .i64 0, .int .i64 0, .string ⟨#[]⟩] := rfl
  rw [World.size_alloc, hcs] at hz
  have HB1 := Lib.hid (HB (.cells #[.int .i64 op, .int .i64 rd, .int .i64 rs1, .int .i64 rs2, .int .i64 imm, .bool aq, .bool rl, .int .i64 pred, .int .i64 succ] 40) (.cells (stCells noStm) 79))
  rw [hcs] at HB1
  have ho := st_ones (instS ⟨op, rd, rs1, rs2, imm, aq, rl, pred, succ⟩)
  unfold stCells instS at ho
  have e0 : tx [] = .string ⟨#[]⟩ := rfl
  rw [e0] at ho
  have hlt : w.heap.size < ((w.alloc (.cells #[.int .i64 op, .int .i64 rd, .int .i64 rs1, .int .i64 rs2, .int .i64 imm, .bool aq, .bool rl, .int .i64 pred, .int .i64 succ] 40)).alloc (.cells #[.string ⟨#[]⟩, .bool false, .int .i64 0, .int .i64 0, .int .u64 0, .int .i64 0, .int .i64 0, .int .i64 0, .int .i64 0, .int .i64 0, .bool false, .bool false, .int .i64 0, .int .i64 0, .string ⟨#[]⟩] 79)).heap.size := by simp; omega
  go_wp2_with (with_reducible refine outStore (o := ⟨none, _, _, _, _, _⟩) rfl rfl 79 (.tmp 2) (.tmp 4) rfl hz rfl rfl (by kernel_rfl) (by kernel_rfl) ho ?_; intro w4 hb4 hg4)
  exact bodyPost_ret (results_blk1 rfl rfl hb4 Tryz.underlying79 rfl (by kernel_rfl)) rfl ⟨rfl, Below.stored HB1.out hg4 (Nat.le_succ _) (Nat.le_of_lt hlt)⟩
set_option maxHeartbeats 1000000 in
theorem read_inst (S : List UInt8) (hl : S.length ≤ 100000) (s : Stm) (hc : Lib.hasSuffix S [58] = false) (hk : ∀ K ∈ ([[], [46, 111, 114, 103], [46, 98, 121, 116, 101], [46, 104, 97, 108, 102], [46, 119, 111, 114, 100], [46, 100, 119, 111, 114, 100], [46, 122, 101, 114, 111], [110, 111, 112], [104, 97, 108, 116], [108, 105], [106]] : List (List UInt8)), befT 32 S ≠ K)
    (w : World) (KI : ∀ x, Below w.heap.size w x → Calls Tryz.prog 135 #[tx S] x fun e w' => e = .returned (.tuple #[stV (s), .bool true]) ∧ Below x.heap.size x w') :
    Calls Tryz.prog 83 #[tx S] w fun e w' => e = .returned (.tuple #[stV (s), .bool true]) ∧ Below w.heap.size w w' := by
  have KC := fun x => cutsuf_any S hl x
  have KU := fun x => cut_any 32 S hl x
  rw [hc] at KC
  unfold CutR at KU
  generalize befT 32 S = F at *
  generalize aftT 32 S = G at *
  generalize decide (32 ∈ S) = bb at *
  generalize Lib.trimSuffix S [58] = Z at *
  have q0 : (bs F).toList.isEmpty = false := by
    cases F with
    | nil => exact absurd rfl (hk [] (by simp))
    | cons a F => rw [bs_list]; rfl
  have q1 : ((bs F).toList == [46, 111, 114, 103]) = false := by rw [bs_list]; exact beq_eq_false_iff_ne.2 (hk [46, 111, 114, 103] (by simp))
  have q2 : ((bs F).toList == [46, 98, 121, 116, 101]) = false := by rw [bs_list]; exact beq_eq_false_iff_ne.2 (hk [46, 98, 121, 116, 101] (by simp))
  have q3 : ((bs F).toList == [46, 104, 97, 108, 102]) = false := by rw [bs_list]; exact beq_eq_false_iff_ne.2 (hk [46, 104, 97, 108, 102] (by simp))
  have q4 : ((bs F).toList == [46, 119, 111, 114, 100]) = false := by rw [bs_list]; exact beq_eq_false_iff_ne.2 (hk [46, 119, 111, 114, 100] (by simp))
  have q5 : ((bs F).toList == [46, 100, 119, 111, 114, 100]) = false := by rw [bs_list]; exact beq_eq_false_iff_ne.2 (hk [46, 100, 119, 111, 114, 100] (by simp))
  have q6 : ((bs F).toList == [46, 122, 101, 114, 111]) = false := by rw [bs_list]; exact beq_eq_false_iff_ne.2 (hk [46, 122, 101, 114, 111] (by simp))
  have q7 : ((bs F).toList == [110, 111, 112]) = false := by rw [bs_list]; exact beq_eq_false_iff_ne.2 (hk [110, 111, 112] (by simp))
  have q8 : ((bs F).toList == [104, 97, 108, 116]) = false := by rw [bs_list]; exact beq_eq_false_iff_ne.2 (hk [104, 97, 108, 116] (by simp))
  have q9 : ((bs F).toList == [108, 105]) = false := by rw [bs_list]; exact beq_eq_false_iff_ne.2 (hk [108, 105] (by simp))
  have q10 : ((bs F).toList == [106]) = false := by rw [bs_list]; exact beq_eq_false_iff_ne.2 (hk [106] (by simp))
  unfold tx at *
  clear hk
  generalize bs F = q at *
  have hz := Blk.new #[.string ⟨#[]⟩, .bool false, .int .i64 0, .int .i64 0, .int .u64 0, .int .i64 0, .int .i64 0, .int .i64 0, .int .i64 0, .int .i64 0, .bool false, .bool false, .int .i64 0, .int .i64 0, .string ⟨#[]⟩] 79 w
  have HB : Hid (Below w.heap.size w (w.alloc (.cells #[.string ⟨#[]⟩, .bool false, .int .i64 0, .int .i64 0, .int .u64 0, .int .i64 0, .int .i64 0, .int .i64 0, .int .i64 0, .int .i64 0, .bool false, .bool false, .int .i64 0, .int .i64 0, .string ⟨#[]⟩] 79))) := Lib.hid ((Below.refl _ w).alloc (Nat.le_refl _) _)
  have hst : stV (s) = .agg (stCells (s)) := rfl
  have hsz : (stCells (s)).size = 15 := rfl
  have hone := st_ones (s)
  rw [hst] at KI ⊢
  clear hst
  generalize stCells (s) = ys at *
  go_enter Tryz.func83, Tryz.ntmps83
  go_wp2_with (first
    | (go_at_call 129; refine (KC _).mono ?_; rintro e w2 ⟨rfl, rfl⟩)
    | (go_at_call 127; refine (KU _).mono ?_; rintro e w3 ⟨rfl, hb3⟩; have HB3 := Lib.hid (HB.out.trans (hb3.mono HB.out.size)); have HZ3 := hz.on hb3; clear hb3)
    | (go_at_call 135; refine (KI _ HB3.out).mono ?_; rintro e w4 ⟨rfl, hb4⟩; have HB4 := Lib.hid (HB3.out.trans (hb4.mono HB3.out.size)); have HZ4 := HZ3.on hb4; clear hb4)
    | (with_reducible refine outStore (o := ⟨none, _, _, _, _, _⟩) rfl rfl 79 (.tmp 2) (.tmp 81) rfl HZ4 rfl rfl (by rw [hsz]; kernel_rfl) (by kernel_rfl) hone ?_; intro w5 hb5 hg5))
  exact bodyPost_ret (results_blk rfl rfl hb5 Tryz.underlying79 rfl (by rw [hsz]; kernel_rfl)) rfl ⟨rfl, Below.stored HB4.out hg5 (Nat.le_refl _) HB4.out.size⟩
set_option maxHeartbeats 1000000 in
theorem readInst_c (S : List UInt8) (hl : S.length ≤ 100000) (i : Ins) (h : readC S = some i) (w : World) (T : Tab9 w) :
    Calls Tryz.prog 135 #[tx S] w fun e w' => e = .returned (.tuple #[stV (instS i), .bool true]) ∧ Below w.heap.size w w' := by
  have KR := fun x (hb : Below w.heap.size w x) => read_fill S hl x (T.below hb)
  rw [h] at KR
  unfold RetRd at KR
  have e1 : insV ((some i).getD noIns) = insV i := rfl
  have e2 : (if (some i).isSome then (0 : Int) else 5) = 0 := rfl
  rw [e1, e2] at KR
  have KO := fun x => ofInst_c i x
  clear h T e1 e2
  have hst : stV (instS i) = .agg (stCells (instS i)) := rfl
  have hsz : (stCells (instS i)).size = 15 := rfl
  have hone := st_ones (instS i)
  rw [hst] at KO ⊢
  clear hst
  generalize stCells (instS i) = ys at *
  have hin : insV i = .agg (insCells i) := rfl
  have hisz : (insCells i).size = 9 := rfl
  have hio : ∀ v ∈ (insCells i).toList, v.oneCell' = true := ins_one i
  rw [hin] at KR KO
  clear hin
  generalize insCells i = zs at *
  generalize tx S = sv at *
  have hz := Blk.new #[.string ⟨#[]⟩, .bool false, .int .i64 0, .int .i64 0, .int .u64 0, .int .i64 0, .int .i64 0, .int .i64 0, .int .i64 0, .int .i64 0, .bool false, .bool false, .int .i64 0, .int .i64 0, .string ⟨#[]⟩] 79 w
  have HB : Hid (Below w.heap.size w (w.alloc (.cells #[.string ⟨#[]⟩, .bool false, .int .i64 0, .int .i64 0, .int .u64 0, .int .i64 0, .int .i64 0, .int .i64 0, .int .i64 0, .int .i64 0, .bool false, .bool false, .int .i64 0, .int .i64 0, .string ⟨#[]⟩] 79))) := Lib.hid ((Below.refl _ w).alloc (Nat.le_refl _) _)
  go_enter Tryz.func135, Tryz.ntmps135
  go_wp2_with (first
    | (go_at_call 179; refine (KR _ HB.out).mono ?_; rintro e w2 ⟨rfl, hb2⟩; have HB2 := Lib.hid (HB.out.trans (hb2.mono HB.out.size)); have HZ2 := hz.on hb2; have HI2 := Blk.new #[.int .i64 0, .int .i64 0, .int .i64 0, .int .i64 0, .int .i64 0, .bool false, .bool false, .int .i64 0, .int .i64 0] 40 w2; clear hb2)
    | (with_reducible refine outStore (o := ⟨none, _, _, _, _, _⟩) rfl rfl 40 (.tmp 4) (.tmp 12) rfl HI2 rfl rfl (by rw [hisz]; kernel_rfl) (by kernel_rfl) hio ?_; intro w3 hb3 hg3; have HB3 := Lib.hid (Below.stored (HB2.out.alloc HB2.out.size _) hg3 HB2.out.size (by have := HB2.out.size; simp; omega)); have HZ3 := (HZ2.alloc _).kept hg3 (by have := HB2.out.size; have := HZ2.lt; simp; omega); clear HZ2 hg3)
    | (with_reducible refine load_blk (o := ⟨some 16, _, _, _, _, _⟩) rfl 40 (.tmp 4) rfl hb3 rfl Tryz.underlying40 rfl (by rw [hisz]; kernel_rfl) ?_)
    | (go_at_call 132; refine (KO _).mono ?_; rintro e w4 ⟨rfl, hb4⟩; have HB4 := Lib.hid (HB3.out.trans (hb4.mono HB3.out.size)); have HZ4 := HZ3.on hb4; clear hb4)
    | (with_reducible refine outStore (o := ⟨none, _, _, _, _, _⟩) rfl rfl 79 (.tmp 2) (.tmp 17) rfl HZ4 rfl rfl (by rw [hsz]; kernel_rfl) (by kernel_rfl) hone ?_; intro w5 hb5 hg5))
  exact bodyPost_ret (results_blk rfl rfl hb5 Tryz.underlying79 rfl (by rw [hsz]; kernel_rfl)) rfl ⟨rfl, Below.stored HB4.out hg5 (Nat.le_refl _) HB4.out.size⟩
end Go.Proofs.YtolmecnjolfjgaaGreatDoor
namespace Go.Proofs.YtolmecnjolfjgaaGreatDoor
open Go.RowKit

/-- A struct of fifteen cells, written cell by cell. -/
theorem blk15 {o0 o1 o2 o3 o4 o5 o6 o7 o8 o9 o10 o11 o12 o13 o14 v0 v1 v2 v3 v4 v5 v6 v7 v8 v9 v10 v11 v12 v13 v14 : Value} {t : TypeId} {g : Nat} {X : World} (h : Blk #[o0, o1, o2, o3, o4, o5, o6, o7, o8, o9, o10, o11, o12, o13, o14] t g X) : Blk #[v0, v1, v2, v3, v4, v5, v6, v7, v8, v9, v10, v11, v12, v13, v14] t g (((((((((((((((X.setCell ⟨g, 0, none⟩ (v0)).setCell ⟨g, 1, none⟩ (v1)).setCell ⟨g, 2, none⟩ (v2)).setCell ⟨g, 3, none⟩ (v3)).setCell ⟨g, 4, none⟩ (v4)).setCell ⟨g, 5, none⟩ (v5)).setCell ⟨g, 6, none⟩ (v6)).setCell ⟨g, 7, none⟩ (v7)).setCell ⟨g, 8, none⟩ (v8)).setCell ⟨g, 9, none⟩ (v9)).setCell ⟨g, 10, none⟩ (v10)).setCell ⟨g, 11, none⟩ (v11)).setCell ⟨g, 12, none⟩ (v12)).setCell ⟨g, 13, none⟩ (v13)).setCell ⟨g, 14, none⟩ (v14)) := by
  have := (((((((((((((((h.set 0 v0).set 1 v1).set 2 v2).set 3 v3).set 4 v4).set 5 v5).set 6 v6).set 7 v7).set 8 v8).set 9 v9).set 10 v10).set 11 v11).set 12 v12).set 13 v13).set 14 v14)
  simpa using this
theorem below15 {v0 v1 v2 v3 v4 v5 v6 v7 v8 v9 v10 v11 v12 v13 v14 : Value} {g : Nat} {X : World} : Below g X (((((((((((((((X.setCell ⟨g, 0, none⟩ (v0)).setCell ⟨g, 1, none⟩ (v1)).setCell ⟨g, 2, none⟩ (v2)).setCell ⟨g, 3, none⟩ (v3)).setCell ⟨g, 4, none⟩ (v4)).setCell ⟨g, 5, none⟩ (v5)).setCell ⟨g, 6, none⟩ (v6)).setCell ⟨g, 7, none⟩ (v7)).setCell ⟨g, 8, none⟩ (v8)).setCell ⟨g, 9, none⟩ (v9)).setCell ⟨g, 10, none⟩ (v10)).setCell ⟨g, 11, none⟩ (v11)).setCell ⟨g, 12, none⟩ (v12)).setCell ⟨g, 13, none⟩ (v13)).setCell ⟨g, 14, none⟩ (v14)) := ((((((((((((((((Below.refl g X).setCell (p := ⟨g, 0, none⟩) (Nat.le_refl _) v0).setCell (p := ⟨g, 1, none⟩) (Nat.le_refl _) v1).setCell (p := ⟨g, 2, none⟩) (Nat.le_refl _) v2).setCell (p := ⟨g, 3, none⟩) (Nat.le_refl _) v3).setCell (p := ⟨g, 4, none⟩) (Nat.le_refl _) v4).setCell (p := ⟨g, 5, none⟩) (Nat.le_refl _) v5).setCell (p := ⟨g, 6, none⟩) (Nat.le_refl _) v6).setCell (p := ⟨g, 7, none⟩) (Nat.le_refl _) v7).setCell (p := ⟨g, 8, none⟩) (Nat.le_refl _) v8).setCell (p := ⟨g, 9, none⟩) (Nat.le_refl _) v9).setCell (p := ⟨g, 10, none⟩) (Nat.le_refl _) v10).setCell (p := ⟨g, 11, none⟩) (Nat.le_refl _) v11).setCell (p := ⟨g, 12, none⟩) (Nat.le_refl _) v12).setCell (p := ⟨g, 13, none⟩) (Nat.le_refl _) v13).setCell (p := ⟨g, 14, none⟩) (Nat.le_refl _) v14)
end Go.Proofs.YtolmecnjolfjgaaGreatDoor
namespace Go.Proofs.YtolmecnjolfjgaaGreatDoor
open Go.RowKit

def haltI : Ins := ⟨53, 0, 0, 0, 0, false, false, 0, 0⟩
set_option maxHeartbeats 1000000 in
theorem read_halt (w : World) : Calls Tryz.prog 83 #[tx [104, 97, 108, 116]] w fun e w' => e = .returned (.tuple #[stV (instS haltI), .bool true]) ∧ Below w.heap.size w w' := by
  have KC := fun x => cutsuf_any [104, 97, 108, 116] (by decide) x
  have KU := fun x => cut_any 32 [104, 97, 108, 116] (by decide) x
  have e1 : Lib.hasSuffix [104, 97, 108, 116] [58] = false := by decide
  have e2 : befT 32 [104, 97, 108, 116] = [104, 97, 108, 116] := by decide
  rw [e1] at KC
  unfold CutR at KU
  rw [e2] at KU
  have KO := fun x => ofInst_c haltI x
  generalize aftT 32 [104, 97, 108, 116] = G at *
  generalize decide (32 ∈ ([104, 97, 108, 116] : List UInt8)) = bb at *
  generalize Lib.trimSuffix [104, 97, 108, 116] [58] = Z at *
  clear e1 e2
  unfold tx at *
  have ef : bs [104, 97, 108, 116] = ⟨#[104, 97, 108, 116]⟩ := rfl
  rw [ef] at KU KC ⊢
  have hst : stV (instS haltI) = .agg (stCells (instS haltI)) := rfl
  have hsz : (stCells (instS haltI)).size = 15 := rfl
  have hone := st_ones (instS haltI)
  rw [hst] at KO ⊢
  clear hst
  generalize stCells (instS haltI) = ys at *
  unfold insV haltI at KO
  simp only at KO
  have hz := Blk.new #[.string ⟨#[]⟩, .bool false, .int .i64 0, .int .i64 0, .int .u64 0, .int .i64 0, .int .i64 0, .int .i64 0, .int .i64 0, .int .i64 0, .bool false, .bool false, .int .i64 0, .int .i64 0, .string ⟨#[]⟩] 79 w
  have HB : Hid (Below w.heap.size w (w.alloc (.cells #[.string ⟨#[]⟩, .bool false, .int .i64 0, .int .i64 0, .int .u64 0, .int .i64 0, .int .i64 0, .int .i64 0, .int .i64 0, .int .i64 0, .bool false, .bool false, .int .i64 0, .int .i64 0, .string ⟨#[]⟩] 79))) := Lib.hid ((Below.refl _ w).alloc (Nat.le_refl _) _)
  go_enter Tryz.func83, Tryz.ntmps83
  go_wp2_with (first
    | (go_at_call 129; refine (KC _).mono ?_; rintro e w2 ⟨rfl, rfl⟩)
    | (go_at_call 127; refine (KU _).mono ?_; rintro e w3 ⟨rfl, hb3⟩; have HB3 := Lib.hid (HB.out.trans (hb3.mono HB.out.size)); have HZ3 := hz.on hb3; clear hb3)
    | (go_at_call 132; refine (KO _).mono ?_; rintro e w4 ⟨rfl, hb4⟩; have HB4 := Lib.hid (HB3.out.trans (hb4.mono HB3.out.size)); have HZ4 := HZ3.on hb4; clear hb4)
    | (with_reducible refine outStore (o := ⟨none, _, _, _, _, _⟩) rfl rfl 79 (.tmp 2) (.tmp 63) rfl HZ4 rfl rfl (by rw [hsz]; kernel_rfl) (by kernel_rfl) hone ?_; intro w5 hb5 hg5))
  exact bodyPost_ret (results_blk rfl rfl hb5 Tryz.underlying79 rfl (by rw [hsz]; kernel_rfl)) rfl ⟨rfl, Below.stored HB4.out hg5 (Nat.le_refl _) HB4.out.size⟩
end Go.Proofs.YtolmecnjolfjgaaGreatDoor
namespace Go.Proofs.YtolmecnjolfjgaaGreatDoor
open Go.RowKit

end Go.Proofs.YtolmecnjolfjgaaGreatDoor
namespace Go.Proofs.YtolmecnjolfjgaaGreatDoor
open Go.RowKit

/-- May this byte stand in a name, k bytes behind its first? -/
def nmC (k : Nat) (c : UInt8) : Prop := (97 ≤ c.toNat ∧ c.toNat ≤ 122) ∨ (0 < k ∧ ((48 ≤ c.toNat ∧ c.toNat ≤ 57) ∨ c.toNat = 95))
instance (k : Nat) (c : UInt8) : Decidable (nmC k c) := by unfold nmC; infer_instance
/-- A label's name. -/
def NameT (q : ByteArray) : Prop := (1 ≤ q.size ∧ q.size ≤ 16) ∧ ∀ (j : Nat) (h : j < q.size), nmC j q[j]
instance (q : ByteArray) : Decidable (NameT q) := by unfold NameT; infer_instance
theorem nameT_short {q : ByteArray} (h : q.size < 1 ∨ 16 < q.size) : decide (NameT q) = false := decide_eq_false (fun g => by have := g.1; omega)
theorem nameT_bad {q : ByteArray} (k : Nat) (hk : k < q.size) (h : ¬ nmC k q[k]) : decide (NameT q) = false := decide_eq_false (fun g => h (g.2 k hk))

theorem rname10_any (q : ByteArray) (w : World) : Calls Tryz.prog 15 #[.string q] w fun e w' => e = .returned (.bool (decide (NameT q))) ∧ w = w' := by
  by_cases z1 : q.size < 1
  · have HR := Lib.hid (nameT_short (.inl z1))
    have g1 : decide ((q.size : Int) < 1) = true := decide_eq_true (by omega)
    clear z1
    go_enter Tryz.func15, Tryz.ntmps15
    go_wp2
    go_ret
    exact ⟨by rw [HR.out]; rfl, rfl⟩
  have g1 : decide ((q.size : Int) < 1) = false := decide_eq_false (by omega)
  by_cases z2 : 16 < q.size
  · have HR := Lib.hid (nameT_short (.inr z2))
    have g2 : decide (16 < (q.size : Int)) = true := decide_eq_true (by omega)
    clear z1 z2
    go_enter Tryz.func15, Tryz.ntmps15
    go_wp2
    go_ret
    exact ⟨by rw [HR.out]; rfl, rfl⟩
  have g2 : decide (16 < (q.size : Int)) = false := decide_eq_false (by omega)
  have hS : 1 ≤ q.size ∧ q.size ≤ 16 := by omega
  clear z1 z2
  go_enter Tryz.func15, Tryz.ntmps15
  go_wp2
  clear g1 g2
  go_loop [3] (fun i => ∃ k : Nat, k ≤ q.size ∧ i = .int .i64 k ∧ Hid (∀ (j : Nat) (h : j < q.size), j < k → nmC j q[j])) (fun i => q.size - (intOf i).toNat)
  case atStart => exact ⟨0, Nat.zero_le _, rfl, Lib.hid (fun j _ h => absurd h (Nat.not_lt_zero j))⟩
  case round =>
    obtain ⟨k, hk, rfl, hall⟩ := hrel
    by_cases hlt : k < q.size
    · have GN : Hid (nmC k q[k] → ∀ (j : Nat) (h : j < q.size), j < k + 1 → nmC j q[j]) := Lib.hid (fun hc j hj h => by
        by_cases e : j = k
        · subst e; exact hc
        · exact hall.out j hj (by omega))
      have GB : Hid (¬ nmC k q[k] → decide (NameT q) = false) := Lib.hid (fun hc => nameT_bad k hlt hc)
      have hU := UInt8.toNat_lt q[k]
      have HU : Hid (∀ c : Nat, q[k].toNat = c → (nmC k q[k] ↔ (97 ≤ c ∧ c ≤ 122) ∨ (0 < k ∧ ((48 ≤ c ∧ c ≤ 57) ∨ c = 95)))) := Lib.hid (fun c hc => by rw [← hc]; exact Iff.rfl)
      by_cases c1 : 97 ≤ q[k].toNat
      · by_cases c2 : q[k].toNat ≤ 122
        · have f1 : decide (97 ≤ (q[k].toNat : Int)) = true := decide_eq_true (by omega)
          have f2 : decide ((q[k].toNat : Int) ≤ 122) = true := decide_eq_true (by omega)
          have HG := Lib.hid (GN.out ((HU.out _ rfl).2 (by omega)))
          clear GN GB HU hU c1 c2
          go_wp2
          exact ⟨⟨k + 1, by omega, by go_num, HG⟩, by simp [intOf]; omega⟩
        · by_cases c3 : 0 < k
          · by_cases c4 : 48 ≤ q[k].toNat
            · by_cases c5 : q[k].toNat ≤ 57
              · omega
              · by_cases c6 : q[k].toNat = 95
                · omega
                · have f1 : decide (97 ≤ (q[k].toNat : Int)) = true := decide_eq_true (by omega)
                  have f2 : decide ((q[k].toNat : Int) ≤ 122) = false := decide_eq_false (by omega)
                  have f3 : decide (0 < (k : Int)) = true := decide_eq_true (by omega)
                  have f4 : decide (48 ≤ (q[k].toNat : Int)) = true := decide_eq_true (by omega)
                  have f5 : decide ((q[k].toNat : Int) ≤ 57) = false := decide_eq_false (by omega)
                  have f6 : ((q[k].toNat : Int) == 95) = false := by rw [beq_eq_false_iff_ne]; omega
                  have HG := Lib.hid (GB.out (fun h => by have h := (HU.out _ rfl).1 h; omega))
                  clear GN GB HU hU c1 c2 c4 c5 c6
                  go_wp2
                  go_ret
                  exact ⟨by rw [HG.out]; rfl, rfl⟩
            · omega
          · have f1 : decide (97 ≤ (q[k].toNat : Int)) = true := decide_eq_true (by omega)
            have f2 : decide ((q[k].toNat : Int) ≤ 122) = false := decide_eq_false (by omega)
            have f3 : decide (0 < (k : Int)) = false := decide_eq_false (by omega)
            have HG := Lib.hid (GB.out (fun h => by have h := (HU.out _ rfl).1 h; omega))
            clear GN GB HU hU c1 c2
            go_wp2
            go_ret
            exact ⟨by rw [HG.out]; rfl, rfl⟩
      · by_cases c3 : 0 < k
        · by_cases c4 : 48 ≤ q[k].toNat
          · by_cases c5 : q[k].toNat ≤ 57
            · have f1 : decide (97 ≤ (q[k].toNat : Int)) = false := decide_eq_false (by omega)
              have f3 : decide (0 < (k : Int)) = true := decide_eq_true (by omega)
              have f4 : decide (48 ≤ (q[k].toNat : Int)) = true := decide_eq_true (by omega)
              have f5 : decide ((q[k].toNat : Int) ≤ 57) = true := decide_eq_true (by omega)
              have HG := Lib.hid (GN.out ((HU.out _ rfl).2 (by omega)))
              clear GN GB HU hU c1 c4 c5
              go_wp2
              exact ⟨⟨k + 1, by omega, by go_num, HG⟩, by simp [intOf]; omega⟩
            · by_cases c6 : q[k].toNat = 95
              · have f1 : decide (97 ≤ (q[k].toNat : Int)) = false := decide_eq_false (by omega)
                have f3 : decide (0 < (k : Int)) = true := decide_eq_true (by omega)
                have f4 : decide (48 ≤ (q[k].toNat : Int)) = true := decide_eq_true (by omega)
                have f5 : decide ((q[k].toNat : Int) ≤ 57) = false := decide_eq_false (by omega)
                have f6 : ((q[k].toNat : Int) == 95) = true := by rw [beq_iff_eq]; omega
                have HG := Lib.hid (GN.out ((HU.out _ rfl).2 (by omega)))
                clear GN GB HU hU c1 c4 c5 c6
                go_wp2
                exact ⟨⟨k + 1, by omega, by go_num, HG⟩, by simp [intOf]; omega⟩
              · have f1 : decide (97 ≤ (q[k].toNat : Int)) = false := decide_eq_false (by omega)
                have f3 : decide (0 < (k : Int)) = true := decide_eq_true (by omega)
                have f4 : decide (48 ≤ (q[k].toNat : Int)) = true := decide_eq_true (by omega)
                have f5 : decide ((q[k].toNat : Int) ≤ 57) = false := decide_eq_false (by omega)
                have f6 : ((q[k].toNat : Int) == 95) = false := by rw [beq_eq_false_iff_ne]; omega
                have HG := Lib.hid (GB.out (fun h => by have h := (HU.out _ rfl).1 h; omega))
                clear GN GB HU hU c1 c4 c5 c6
                go_wp2
                go_ret
                exact ⟨by rw [HG.out]; rfl, rfl⟩
          · by_cases c6 : q[k].toNat = 95
            · omega
            · have f1 : decide (97 ≤ (q[k].toNat : Int)) = false := decide_eq_false (by omega)
              have f3 : decide (0 < (k : Int)) = true := decide_eq_true (by omega)
              have f4 : decide (48 ≤ (q[k].toNat : Int)) = false := decide_eq_false (by omega)
              have f6 : ((q[k].toNat : Int) == 95) = false := by rw [beq_eq_false_iff_ne]; omega
              have HG := Lib.hid (GB.out (fun h => by have h := (HU.out _ rfl).1 h; omega))
              clear GN GB HU hU c1 c4 c6
              go_wp2
              go_ret
              exact ⟨by rw [HG.out]; rfl, rfl⟩
        · have f1 : decide (97 ≤ (q[k].toNat : Int)) = false := decide_eq_false (by omega)
          have f3 : decide (0 < (k : Int)) = false := decide_eq_false (by omega)
          have HG := Lib.hid (GB.out (fun h => by have h := (HU.out _ rfl).1 h; omega))
          clear GN GB HU hU c1
          go_wp2
          go_ret
          exact ⟨by rw [HG.out]; rfl, rfl⟩
    · have HE : decide (NameT q) = true := decide_eq_true ⟨hS, fun j hj => hall.out j hj (by omega)⟩
      have HE := Lib.hid HE
      go_wp2
      go_ret
      exact ⟨rfl, rfl⟩

end Go.Proofs.YtolmecnjolfjgaaGreatDoor
namespace Go.Proofs.YtolmecnjolfjgaaGreatDoor
open Go.RowKit

theorem nameT_long {D : List UInt8} (h : D.length < 1 ∨ 16 < D.length) : decide (NameT (bs D)) = false := nameT_short h
theorem nameT_sour {D : List UInt8} (k : Nat) (hk : k < D.length) (h : ¬ nmC k D[k]) : decide (NameT (bs D)) = false := nameT_bad (q := bs D) k hk h
set_option maxHeartbeats 2000000 in
theorem isName_c (D : List UInt8) (w : World) : Calls Tryz.prog 14 #[tx D] w fun e w' => e = .returned (.bool (decide (NameT (bs D)))) ∧ Below w.heap.size w w' := by
  have HB : Below w.heap.size w w := Below.refl _ _
  have hE : ((bs D).toList.isEmpty) = D.isEmpty := by rw [bs_list]
  have hs : (bs D).size = D.length := rfl
  by_cases z1 : D.length < 1
  · have HR := Lib.hid (nameT_long (.inl z1))
    have hD : D.isEmpty = true := by cases D with | nil => rfl | cons a t => simp at z1
    rw [hD] at hE
    clear z1 hD
    unfold tx
    generalize bs D = q at *
    go_enter Tryz.func14, Tryz.ntmps14
    go_wp2
    go_ret
    exact ⟨by rw [HR.out]; rfl, HB⟩
  have hD : D.isEmpty = false := by cases D with | nil => simp at z1 | cons a t => rfl
  rw [hD] at hE
  by_cases z2 : 16 < D.length
  · have HR := Lib.hid (nameT_long (.inr z2))
    have g2 : decide (16 < (D.length : Int)) = true := decide_eq_true (by omega)
    clear z1 z2 hD
    unfold tx
    rw [← hs] at g2
    generalize bs D = q at *
    clear hs
    go_enter Tryz.func14, Tryz.ntmps14
    go_wp2
    go_ret
    exact ⟨by rw [HR.out]; rfl, HB⟩
  have g2 : decide (16 < (D.length : Int)) = false := decide_eq_false (by omega)
  have hS : 1 ≤ D.length ∧ D.length ≤ 16 := by omega
  obtain ⟨cap, w1, hconv, hB1, hg1, hcells⟩ := conv_bytes D w
  have HCL := Lib.hid hcells
  have HB1 := Lib.hid hB1
  have HG : Hid (∀ k (hk : k < D.length), ¬ nmC k D[k] → decide (NameT (bs D)) = false) := Lib.hid (fun k hk h => nameT_sour k hk h)
  have HY : Hid ((∀ (j : Nat) (h : j < D.length), nmC j D[j]) → decide (NameT (bs D)) = true) := Lib.hid (fun h => decide_eq_true ⟨hS, h⟩)
  generalize decide (NameT (bs D)) = nt at *
  unfold tx
  rw [← hs] at g2
  generalize bs D = q at *
  clear z1 z2 hD hcells hB1
  go_enter Tryz.func14, Tryz.ntmps14
  go_wp2
  go_loop [15] (fun i => ∃ k : Nat, k ≤ D.length ∧ i = .int .i64 k ∧ Hid (∀ (j : Nat) (h : j < D.length), j < k → nmC j D[j])) (fun i => D.length - (intOf i).toNat)
  case atStart => exact ⟨0, Nat.zero_le _, rfl, Lib.hid (fun j _ h => absurd h (Nat.not_lt_zero j))⟩
  case round =>
    obtain ⟨k, hk, rfl, hall⟩ := hrel
    by_cases hlt : k < D.length
    · have GN : Hid (nmC k D[k] → ∀ (j : Nat) (h : j < D.length), j < k + 1 → nmC j D[j]) := Lib.hid (fun hc j hj h => by
        by_cases e : j = k
        · subst e; exact hc
        · exact hall.out j hj (by omega))
      have GB : Hid (¬ nmC k D[k] → nt = false) := Lib.hid (fun hc => HG.out k hlt hc)
      have hc0 := HCL.out k hlt
      have hkI : (k : Int) < D.length := by omega
      have hU := UInt8.toNat_lt D[k]
      have HU : Hid (∀ c : Nat, D[k].toNat = c → (nmC k D[k] ↔ (97 ≤ c ∧ c ≤ 122) ∨ (0 < k ∧ ((48 ≤ c ∧ c ≤ 57) ∨ c = 95)))) := Lib.hid (fun c hc => by rw [← hc]; exact Iff.rfl)
      by_cases c1 : 97 ≤ D[k].toNat
      · by_cases c2 : D[k].toNat ≤ 122
        · have f1 : decide (97 ≤ (D[k].toNat : Int)) = true := decide_eq_true (by omega)
          have f2 : decide ((D[k].toNat : Int) ≤ 122) = true := decide_eq_true (by omega)
          have HG := Lib.hid (GN.out ((HU.out _ rfl).2 (by omega)))
          clear GN GB HU hU c1 c2
          go_wp2
          exact ⟨⟨k + 1, by omega, by go_num, HG⟩, by simp [intOf]; omega⟩
        · by_cases c3 : 0 < k
          · by_cases c4 : 48 ≤ D[k].toNat
            · by_cases c5 : D[k].toNat ≤ 57
              · omega
              · by_cases c6 : D[k].toNat = 95
                · omega
                · have f1 : decide (97 ≤ (D[k].toNat : Int)) = true := decide_eq_true (by omega)
                  have f2 : decide ((D[k].toNat : Int) ≤ 122) = false := decide_eq_false (by omega)
                  have f3 : decide (0 < (k : Int)) = true := decide_eq_true (by omega)
                  have f4 : decide (48 ≤ (D[k].toNat : Int)) = true := decide_eq_true (by omega)
                  have f5 : decide ((D[k].toNat : Int) ≤ 57) = false := decide_eq_false (by omega)
                  have f6 : ((D[k].toNat : Int) == 95) = false := by rw [beq_eq_false_iff_ne]; omega
                  have HGx := Lib.hid (GB.out (fun h => by have h := (HU.out _ rfl).1 h; omega))
                  clear GN GB HU hU c1 c2 c4 c5 c6
                  go_wp2
                  go_ret
                  exact ⟨by rw [HGx.out]; rfl, HB1.out⟩
            · omega
          · have f1 : decide (97 ≤ (D[k].toNat : Int)) = true := decide_eq_true (by omega)
            have f2 : decide ((D[k].toNat : Int) ≤ 122) = false := decide_eq_false (by omega)
            have f3 : decide (0 < (k : Int)) = false := decide_eq_false (by omega)
            have HGx := Lib.hid (GB.out (fun h => by have h := (HU.out _ rfl).1 h; omega))
            clear GN GB HU hU c1 c2
            go_wp2
            go_ret
            exact ⟨by rw [HGx.out]; rfl, HB1.out⟩
      · by_cases c3 : 0 < k
        · by_cases c4 : 48 ≤ D[k].toNat
          · by_cases c5 : D[k].toNat ≤ 57
            · have f1 : decide (97 ≤ (D[k].toNat : Int)) = false := decide_eq_false (by omega)
              have f3 : decide (0 < (k : Int)) = true := decide_eq_true (by omega)
              have f4 : decide (48 ≤ (D[k].toNat : Int)) = true := decide_eq_true (by omega)
              have f5 : decide ((D[k].toNat : Int) ≤ 57) = true := decide_eq_true (by omega)
              have HG := Lib.hid (GN.out ((HU.out _ rfl).2 (by omega)))
              clear GN GB HU hU c1 c4 c5
              go_wp2
              exact ⟨⟨k + 1, by omega, by go_num, HG⟩, by simp [intOf]; omega⟩
            · by_cases c6 : D[k].toNat = 95
              · have f1 : decide (97 ≤ (D[k].toNat : Int)) = false := decide_eq_false (by omega)
                have f3 : decide (0 < (k : Int)) = true := decide_eq_true (by omega)
                have f4 : decide (48 ≤ (D[k].toNat : Int)) = true := decide_eq_true (by omega)
                have f5 : decide ((D[k].toNat : Int) ≤ 57) = false := decide_eq_false (by omega)
                have f6 : ((D[k].toNat : Int) == 95) = true := by rw [beq_iff_eq]; omega
                have HG := Lib.hid (GN.out ((HU.out _ rfl).2 (by omega)))
                clear GN GB HU hU c1 c4 c5 c6
                go_wp2
                exact ⟨⟨k + 1, by omega, by go_num, HG⟩, by simp [intOf]; omega⟩
              · have f1 : decide (97 ≤ (D[k].toNat : Int)) = false := decide_eq_false (by omega)
                have f3 : decide (0 < (k : Int)) = true := decide_eq_true (by omega)
                have f4 : decide (48 ≤ (D[k].toNat : Int)) = true := decide_eq_true (by omega)
                have f5 : decide ((D[k].toNat : Int) ≤ 57) = false := decide_eq_false (by omega)
                have f6 : ((D[k].toNat : Int) == 95) = false := by rw [beq_eq_false_iff_ne]; omega
                have HGx := Lib.hid (GB.out (fun h => by have h := (HU.out _ rfl).1 h; omega))
                clear GN GB HU hU c1 c4 c5 c6
                go_wp2
                go_ret
                exact ⟨by rw [HGx.out]; rfl, HB1.out⟩
          · by_cases c6 : D[k].toNat = 95
            · omega
            · have f1 : decide (97 ≤ (D[k].toNat : Int)) = false := decide_eq_false (by omega)
              have f3 : decide (0 < (k : Int)) = true := decide_eq_true (by omega)
              have f4 : decide (48 ≤ (D[k].toNat : Int)) = false := decide_eq_false (by omega)
              have f6 : ((D[k].toNat : Int) == 95) = false := by rw [beq_eq_false_iff_ne]; omega
              have HGx := Lib.hid (GB.out (fun h => by have h := (HU.out _ rfl).1 h; omega))
              clear GN GB HU hU c1 c4 c6
              go_wp2
              go_ret
              exact ⟨by rw [HGx.out]; rfl, HB1.out⟩
        · have f1 : decide (97 ≤ (D[k].toNat : Int)) = false := decide_eq_false (by omega)
          have f3 : decide (0 < (k : Int)) = false := decide_eq_false (by omega)
          have HGx := Lib.hid (GB.out (fun h => by have h := (HU.out _ rfl).1 h; omega))
          clear GN GB HU hU c1
          go_wp2
          go_ret
          exact ⟨by rw [HGx.out]; rfl, HB1.out⟩
    · have HE := Lib.hid (HY.out (fun j hj => hall.out j hj (by omega)))
      go_wp2
      go_ret
      exact ⟨by rw [HE.out]; rfl, HB1.out⟩
end Go.Proofs.YtolmecnjolfjgaaGreatDoor
namespace Go.Proofs.YtolmecnjolfjgaaGreatDoor
open Go.RowKit

def lblS (N : List UInt8) : Stm := ⟨N, false, 0, 0, 0, ⟨0, 0, 0, 0, 0, false, false, 0, 0⟩, []⟩
def jumpS (i : Ins) (g : List UInt8) : Stm := ⟨[], false, 0, 4, 0, i, g⟩
set_option maxHeartbeats 1000000 in
theorem read_label (S N : List UInt8) (hl : S.length ≤ 100000) (hc : Lib.hasSuffix S [58] = true) (hN : Lib.trimSuffix S [58] = N) (hn : NameT (bs N)) (w : World) :
    Calls Tryz.prog 83 #[tx S] w fun e w' => e = .returned (.tuple #[stV (lblS N), .bool true]) ∧ Below w.heap.size w w' := by
  have KC := fun x => cutsuf_any S hl x
  rw [hc, hN] at KC
  have KN := fun x => isName_c N x
  rw [decide_eq_true hn] at KN
  have hone := st_ones (lblS N)
  have hcs : stCells (lblS N) = #[tx N, .bool false, .int .i64 0, .int .i64 0, .int .u64 0, .int .i64 0, .int .i64 0, .int .i64 0, .int .i64 0, .int .i64 0, .bool false, .bool false, .int .i64 0, .int .i64 0, .string ⟨#[]⟩] := rfl
  have hst : stV (lblS N) = .agg (stCells (lblS N)) := rfl
  rw [hcs] at hst hone
  rw [hst]
  clear hst hcs hn hN hc
  unfold tx at *
  generalize bs N = q at *
  have hz := Blk.new #[.string ⟨#[]⟩, .bool false, .int .i64 0, .int .i64 0, .int .u64 0, .int .i64 0, .int .i64 0, .int .i64 0, .int .i64 0, .int .i64 0, .bool false, .bool false, .int .i64 0, .int .i64 0, .string ⟨#[]⟩] 79 w
  have HB : Hid (Below w.heap.size w (w.alloc (.cells #[.string ⟨#[]⟩, .bool false, .int .i64 0, .int .i64 0, .int .u64 0, .int .i64 0, .int .i64 0, .int .i64 0, .int .i64 0, .int .i64 0, .bool false, .bool false, .int .i64 0, .int .i64 0, .string ⟨#[]⟩] 79))) := Lib.hid ((Below.refl _ w).alloc (Nat.le_refl _) _)
  go_enter Tryz.func83, Tryz.ntmps83
  go_wp2_with (first
    | (go_at_call 129; refine (KC _).mono ?_; rintro e w2 ⟨rfl, rfl⟩)
    | (go_at_call 14; refine (KN _).mono ?_; rintro e w3 ⟨rfl, hb3⟩; have HB3 := Lib.hid (HB.out.trans (hb3.mono HB.out.size)); have HZ3 := hz.on hb3; clear hb3)
    | (with_reducible refine outStore (o := ⟨none, _, _, _, _, _⟩) rfl rfl 79 (.tmp 2) (.tmp 19) rfl HZ3 rfl rfl (by kernel_rfl) (by kernel_rfl) hone ?_; intro w5 hb5 hg5))
  exact bodyPost_ret (results_blk rfl rfl hb5 Tryz.underlying79 rfl (by kernel_rfl)) rfl ⟨rfl, Below.stored HB3.out hg5 (Nat.le_refl _) HB3.out.size⟩
theorem ofJump_c (i : Ins) (g : List UInt8) (w : World) : Calls Tryz.prog 134 #[insV i, tx g] w fun e w' => e = .returned (stV (jumpS i g)) ∧ Below w.heap.size w w' := by
  have HB : ∀ o o' , Below w.heap.size w ((w.alloc o).alloc o') := fun o o' => ((Below.refl _ w).alloc (Nat.le_refl _) o).alloc (by simp) o'
  obtain ⟨op, rd, rs1, rs2, imm, aq, rl, pred, succ⟩ := i
  have ho : ∀ v ∈ (#[.string ⟨#[]⟩, .bool false, .int .i64 0, .int .i64 4, .int .u64 0, .int .i64 op, .int .i64 rd, .int .i64 rs1, .int .i64 rs2, .int .i64 imm, .bool aq, .bool rl, .int .i64 pred, .int .i64 succ, tx g] : Array Value).toList, v.oneCell' = true := st_ones (jumpS ⟨op, rd, rs1, rs2, imm, aq, rl, pred, succ⟩ g)
  have e0 : tx [] = .string ⟨#[]⟩ := rfl
  unfold insV stV jumpS
  simp only
  rw [e0]
  unfold tx at *
  generalize bs g = gq at *
  go_enter Tryz.func134, Tryz.ntmps134
  go_upto_region 1 with (fail)
  have hz := Blk.new (stCells noStm) 79 (w.alloc (.cells #[.int .i64 op, .int .i64 rd, .int .i64 rs1, .int .i64 rs2, .int .i64 imm, .bool aq, .bool rl, .int .i64 pred, .int .i64 succ] 40))
  have hcs : stCells noStm = #[.string ⟨#[]⟩, .bool false, .int .i64 0, .int .i64 0, .int .u64 0, .int .i64 0, .int .i64 0, .int .i64 0, .int .i64 0, .int .i64 0, .bool false, .bool false, .int .i64 0, .int .i64 0, .string ⟨#[]⟩] := rfl
  rw [World.size_alloc, hcs] at hz
  have HB1 := Lib.hid (HB (.cells #[.int .i64 op, .int .i64 rd, .int .i64 rs1, .int .i64 rs2, .int .i64 imm, .bool aq, .bool rl, .int .i64 pred, .int .i64 succ] 40) (.cells (stCells noStm) 79))
  rw [hcs] at HB1
  have hlt : w.heap.size < ((w.alloc (.cells #[.int .i64 op, .int .i64 rd, .int .i64 rs1, .int .i64 rs2, .int .i64 imm, .bool aq, .bool rl, .int .i64 pred, .int .i64 succ] 40)).alloc (.cells #[.string ⟨#[]⟩, .bool false, .int .i64 0, .int .i64 0, .int .u64 0, .int .i64 0, .int .i64 0, .int .i64 0, .int .i64 0, .int .i64 0, .bool false, .bool false, .int .i64 0, .int .i64 0, .string ⟨#[]⟩] 79)).heap.size := by simp; omega
  go_wp2_with (with_reducible refine outStore (o := ⟨none, _, _, _, _, _⟩) rfl rfl 79 (.tmp 4) (.tmp 7) rfl hz rfl rfl (by kernel_rfl) (by kernel_rfl) ho ?_; intro w4 hb4 hg4)
  exact bodyPost_ret (results_blk1 rfl rfl hb4 Tryz.underlying79 rfl (by kernel_rfl)) rfl ⟨rfl, Below.stored HB1.out hg4 (Nat.le_succ _) (Nat.le_of_lt hlt)⟩
/-- What is kept while a jump's text is read: the instruction that was read, the result's cells. -/
structure JR (w : World) (cs : Array Value) (g0 g7 : Nat) (X : World) : Prop where
  on : Below w.heap.size w X
  ins : Blk cs 40 g7 X
  out : Blk #[.string ⟨#[]⟩, .bool false, .int .i64 0, .int .i64 0, .int .u64 0, .int .i64 0, .int .i64 0, .int .i64 0, .int .i64 0, .int .i64 0, .bool false, .bool false, .int .i64 0, .int .i64 0, .string ⟨#[]⟩] 79 g0 X
theorem JR.next {w X Y : World} {cs : Array Value} {g0 g7 : Nat} (h : JR w cs g0 g7 X) (hb : Below X.heap.size X Y) : JR w cs g0 g7 Y := ⟨h.on.trans (hb.mono h.on.size), h.ins.on hb, h.out.on hb⟩
theorem JR.drew {w X : World} {cs : Array Value} {g0 g7 : Nat} (h : JR w cs g0 g7 X) : JR w cs g0 g7 X.drew := ⟨Below.drew h.on, h.ins.drew, h.out.drew⟩
theorem JR.facts {w X : World} {op rd rs1 rs2 imm pred succ : Int} {aq rl : Bool} {g0 g7 : Nat} (h : JR w #[.int .i64 op, .int .i64 rd, .int .i64 rs1, .int .i64 rs2, .int .i64 imm, .bool aq, .bool rl, .int .i64 pred, .int .i64 succ] g0 g7 X) : X.cell? ⟨g7, 0, none⟩ = some (.int .i64 op) ∧ X.cell? ⟨g7, 1, none⟩ = some (.int .i64 rd) ∧ X.cell? ⟨g7, 2, none⟩ = some (.int .i64 rs1) ∧ X.cell? ⟨g7, 3, none⟩ = some (.int .i64 rs2) ∧ X.cell? ⟨g7, 4, none⟩ = some (.int .i64 imm) ∧ X.cell? ⟨g7, 5, none⟩ = some (.bool aq) ∧ X.cell? ⟨g7, 6, none⟩ = some (.bool rl) ∧ X.cell? ⟨g7, 7, none⟩ = some (.int .i64 pred) ∧ X.cell? ⟨g7, 8, none⟩ = some (.int .i64 succ) ∧ X.cell? ⟨g0, 0, none⟩ = some (.string ⟨#[]⟩) ∧ X.frozen? ⟨g0, 0, none⟩ = false ∧ X.cell? ⟨g0, 1, none⟩ = some (.bool false) ∧ X.frozen? ⟨g0, 1, none⟩ = false ∧ X.cell? ⟨g0, 2, none⟩ = some (.int .i64 0) ∧ X.frozen? ⟨g0, 2, none⟩ = false ∧ X.cell? ⟨g0, 3, none⟩ = some (.int .i64 0) ∧ X.frozen? ⟨g0, 3, none⟩ = false ∧ X.cell? ⟨g0, 4, none⟩ = some (.int .u64 0) ∧ X.frozen? ⟨g0, 4, none⟩ = false ∧ X.cell? ⟨g0, 5, none⟩ = some (.int .i64 0) ∧ X.frozen? ⟨g0, 5, none⟩ = false ∧ X.cell? ⟨g0, 6, none⟩ = some (.int .i64 0) ∧ X.frozen? ⟨g0, 6, none⟩ = false ∧ X.cell? ⟨g0, 7, none⟩ = some (.int .i64 0) ∧ X.frozen? ⟨g0, 7, none⟩ = false ∧ X.cell? ⟨g0, 8, none⟩ = some (.int .i64 0) ∧ X.frozen? ⟨g0, 8, none⟩ = false ∧ X.cell? ⟨g0, 9, none⟩ = some (.int .i64 0) ∧ X.frozen? ⟨g0, 9, none⟩ = false ∧ X.cell? ⟨g0, 10, none⟩ = some (.bool false) ∧ X.frozen? ⟨g0, 10, none⟩ = false ∧ X.cell? ⟨g0, 11, none⟩ = some (.bool false) ∧ X.frozen? ⟨g0, 11, none⟩ = false ∧ X.cell? ⟨g0, 12, none⟩ = some (.int .i64 0) ∧ X.frozen? ⟨g0, 12, none⟩ = false ∧ X.cell? ⟨g0, 13, none⟩ = some (.int .i64 0) ∧ X.frozen? ⟨g0, 13, none⟩ = false ∧ X.cell? ⟨g0, 14, none⟩ = some (.string ⟨#[]⟩) ∧ X.frozen? ⟨g0, 14, none⟩ = false :=
  ⟨h.ins.cell 0, h.ins.cell 1, h.ins.cell 2, h.ins.cell 3, h.ins.cell 4, h.ins.cell 5, h.ins.cell 6, h.ins.cell 7, h.ins.cell 8, h.out.cell 0, h.out.free 0, h.out.cell 1, h.out.free 1, h.out.cell 2, h.out.free 2, h.out.cell 3, h.out.free 3, h.out.cell 4, h.out.free 4, h.out.cell 5, h.out.free 5, h.out.cell 6, h.out.free 6, h.out.cell 7, h.out.free 7, h.out.cell 8, h.out.free 8, h.out.cell 9, h.out.free 9, h.out.cell 10, h.out.free 10, h.out.cell 11, h.out.free 11, h.out.cell 12, h.out.free 12, h.out.cell 13, h.out.free 13, h.out.cell 14, h.out.free 14⟩
/-- What is kept beside the result's cells. -/
structure JK (w : World) (cs : Array Value) (g0 g7 : Nat) (X : World) : Prop where
  on : Below w.heap.size w X
  ins : Blk cs 40 g7 X
  out : ∃ zs : Array Value, Blk zs 79 g0 X
theorem JR.jk {w X : World} {cs : Array Value} {g0 g7 : Nat} (h : JR w cs g0 g7 X) : JK w cs g0 g7 X := ⟨h.on, h.ins, _, h.out⟩
theorem JK.drew {w X : World} {cs : Array Value} {g0 g7 : Nat} (h : JK w cs g0 g7 X) : JK w cs g0 g7 X.drew := ⟨Below.drew h.on, h.ins.drew, h.out.imp fun _ h => h.drew⟩
theorem JK.st {w X : World} {cs : Array Value} {g0 g7 : Nat} (h : JK w cs g0 g7 X) (hg : w.heap.size ≤ g0) (hne : g7 ≠ g0) (k : Nat) (v : Value) : JK w cs g0 g7 (X.setCell ⟨g0, k, none⟩ v) :=
  ⟨Below.setCell h.on hg v, (Below.heap_setCell X _ v g7 hne).trans h.ins, h.out.elim fun _ h => ⟨_, h.set k v⟩⟩
theorem JK.st15 {w X : World} {cs : Array Value} {g g7 : Nat} (h : JK w cs g g7 X) (hg : w.heap.size ≤ g) (hne : g7 ≠ g) (v0 v1 v2 v3 v4 v5 v6 v7 v8 v9 v10 v11 v12 v13 v14 : Value) : JK w cs g g7 (((((((((((((((X.setCell ⟨g, 0, none⟩ v0).setCell ⟨g, 1, none⟩ v1).setCell ⟨g, 2, none⟩ v2).setCell ⟨g, 3, none⟩ v3).setCell ⟨g, 4, none⟩ v4).setCell ⟨g, 5, none⟩ v5).setCell ⟨g, 6, none⟩ v6).setCell ⟨g, 7, none⟩ v7).setCell ⟨g, 8, none⟩ v8).setCell ⟨g, 9, none⟩ v9).setCell ⟨g, 10, none⟩ v10).setCell ⟨g, 11, none⟩ v11).setCell ⟨g, 12, none⟩ v12).setCell ⟨g, 13, none⟩ v13).setCell ⟨g, 14, none⟩ v14) :=
  ((((((((((((((h.st hg hne 0 v0).st hg hne 1 v1).st hg hne 2 v2).st hg hne 3 v3).st hg hne 4 v4).st hg hne 5 v5).st hg hne 6 v6).st hg hne 7 v7).st hg hne 8 v8).st hg hne 9 v9).st hg hne 10 v10).st hg hne 11 v11).st hg hne 12 v12).st hg hne 13 v13).st hg hne 14 v14
theorem cell15 {X : World} {g g7 : Nat} (hne : g7 ≠ g) (k : Nat) (v0 v1 v2 v3 v4 v5 v6 v7 v8 v9 v10 v11 v12 v13 v14 : Value) : ((((((((((((((((X.setCell ⟨g, 0, none⟩ v0).setCell ⟨g, 1, none⟩ v1).setCell ⟨g, 2, none⟩ v2).setCell ⟨g, 3, none⟩ v3).setCell ⟨g, 4, none⟩ v4).setCell ⟨g, 5, none⟩ v5).setCell ⟨g, 6, none⟩ v6).setCell ⟨g, 7, none⟩ v7).setCell ⟨g, 8, none⟩ v8).setCell ⟨g, 9, none⟩ v9).setCell ⟨g, 10, none⟩ v10).setCell ⟨g, 11, none⟩ v11).setCell ⟨g, 12, none⟩ v12).setCell ⟨g, 13, none⟩ v13).setCell ⟨g, 14, none⟩ v14)).cell? ⟨g7, k, none⟩ = X.cell? ⟨g7, k, none⟩ := by
  have h : ∀ (Y : World) (j : Nat) (v : Value), (Y.setCell ⟨g, j, none⟩ v).cell? ⟨g7, k, none⟩ = Y.cell? ⟨g7, k, none⟩ := fun Y j v => World.cell?_setCell_other _ _ _ _ (fun e => hne (congrArg Addr.block e).symm)
  rw [h, h, h, h, h, h, h, h, h, h, h, h, h, h, h]
set_option maxHeartbeats 40000000 in
theorem readInst_jump (S A G : List UInt8) (hl : S.length ≤ 50000) (i : Ins) (x : Int) (hx : Lib.lastIndex S [44, 32] = x) (hx0 : 0 ≤ x ∧ x + 2 ≤ S.length) (hA : S.take (x + 2).toNat = A) (hG : S.drop (x + 2).toNat = G) (hn : NameT (bs G))
    (h0 : readC S = none) (h1 : readC (A ++ [48]) = some i) (hop : i.op = 3 ∨ 5 ≤ i.op ∧ i.op ≤ 10) (w : World) (T : Tab9 w) :
    Calls Tryz.prog 135 #[tx S] w fun e w' => e = .returned (.tuple #[stV (jumpS i G), .bool true]) ∧ Below w.heap.size w w' := by
  have KR := fun x (hb : Below w.heap.size w x) => read_fill S (by omega) x (T.below hb)
  have hAl : A.length ≤ S.length := by rw [← hA, List.length_take]; omega
  have KR2 := fun x (hb : Below w.heap.size w x) => read_fill (A ++ [48]) (by simp; omega) x (T.below hb)
  rw [h0] at KR
  rw [h1] at KR2
  unfold RetRd at KR KR2
  have e1 : insV ((none : Option Ins).getD noIns) = .agg #[.int .i64 0, .int .i64 0, .int .i64 0, .int .i64 0, .int .i64 0, .bool false, .bool false, .int .i64 0, .int .i64 0] := rfl
  have e2 : (if (none : Option Ins).isSome then (0 : Int) else 5) = 5 := rfl
  have e3 : insV ((some i).getD noIns) = insV i := rfl
  have e4 : (if (some i).isSome then (0 : Int) else 5) = 0 := rfl
  rw [e1, e2] at KR
  rw [e3, e4] at KR2
  clear e1 e2 e3 e4 h0 h1
  have KL := fun x => lastidx_any S (by omega) x
  rw [hx] at KL
  have KN := fun x => isName_c G x
  rw [decide_eq_true hn] at KN
  obtain ⟨y, hy⟩ : ∃ y : Int, x + 2 = y := ⟨_, rfl⟩
  rw [hy] at hA hG
  have hw : IntKind.i64.wrap (x + 2) = y := by rw [IntKind.wrap_i64]; omega
  have hw2 : wrap64 (x + 2) = y := by rw [← hy]; exact sp_wrap (by omega)
  have d2 : decide (y < 2) = false := decide_eq_false (by omega)
  have hyl : y ≤ ((bs S).size : Int) := by show y ≤ ((S.length : Nat) : Int); omega
  have hy0 : 0 ≤ y := by omega
  have hex1 : (bs S).extract 0 y.toNat = bs A := by rw [ext_take, hA]
  have hex2 : (bs S).extract y.toNat (bs S).size = bs G := by rw [ext_drop, hG]
  have hj : ∀ w2 : World, (Op.stringOp .add (bs A) ⟨#[48]⟩).run Tryz.prog w2 = .ok (.string (bs (A ++ [48]))) w2 := fun w2 => run_string_add_lists w2 A [48] (by omega) (by decide)
  have KO := fun x => ofJump_c i G x
  have hsrt := srt_spec i.op
  have KS := fun x (hb : Below w.heap.size w x) => sort_c i.op (by unfold I64; omega) x (T.below hb).dec.lasts
  obtain ⟨sv, hsv⟩ : ∃ sv, srt i.op = sv := ⟨_, rfl⟩
  rw [hsv] at KS hsrt
  have HS : sv = 3 ∨ (i.op = 3 ∧ sv = 2) := by omega
  clear hn hA hG hAl hx hsrt hsv T hx0 hop hy
  obtain ⟨op, rd, rs1, rs2, imm, aq, rl, pred, succ⟩ := i
  unfold stV jumpS at KO ⊢
  unfold insV at KR2 KO
  simp only at KR2 KO KS HS ⊢
  have e0 : tx [] = .string ⟨#[]⟩ := rfl
  rw [e0] at KO ⊢
  clear e0
  unfold tx at KR KR2 KL KN KO ⊢
  generalize bs (A ++ [48]) = qz at *
  generalize bs A = qa at *
  generalize bs G = qg at *
  generalize bs S = q at *
  have hz := Blk.new #[.string ⟨#[]⟩, .bool false, .int .i64 0, .int .i64 0, .int .u64 0, .int .i64 0, .int .i64 0, .int .i64 0, .int .i64 0, .int .i64 0, .bool false, .bool false, .int .i64 0, .int .i64 0, .string ⟨#[]⟩] 79 w
  have HB : Hid (Below w.heap.size w (w.alloc (.cells #[.string ⟨#[]⟩, .bool false, .int .i64 0, .int .i64 0, .int .u64 0, .int .i64 0, .int .i64 0, .int .i64 0, .int .i64 0, .int .i64 0, .bool false, .bool false, .int .i64 0, .int .i64 0, .string ⟨#[]⟩] 79))) := Lib.hid ((Below.refl _ w).alloc (Nat.le_refl _) _)
  go_enter Tryz.func135, Tryz.ntmps135
  go_upto_region 4 with (first
    | (go_at_call 179; refine (KR _ HB.out).mono ?_; rintro e w2 ⟨rfl, hb2⟩; have HB2 := Lib.hid (HB.out.trans (hb2.mono HB.out.size)); have HZ2 := hz.on hb2; clear hb2))
  have HB3 := Lib.hid (HB2.out.alloc HB2.out.size (.cells #[.int .i64 0, .int .i64 0, .int .i64 0, .int .i64 0, .int .i64 0, .bool false, .bool false, .int .i64 0, .int .i64 0] 40))
  have HZ3 := HZ2.alloc (.cells #[.int .i64 0, .int .i64 0, .int .i64 0, .int .i64 0, .int .i64 0, .bool false, .bool false, .int .i64 0, .int .i64 0] 40)
  clear HB2 HZ2 KR HB hz
  generalize w2.alloc (.cells _ 40) = w3 at *
  go_upto_region 8 with (first
    | (go_at_call 180; refine (KL _).mono ?_; rintro e w3' ⟨rfl, rfl⟩)
    | (go_at_call 14; refine (KN _).mono ?_; rintro e w4 ⟨rfl, hb4⟩; have HB4 := Lib.hid (HB3.out.trans (hb4.mono HB3.out.size)); have HZ4 := HZ3.on hb4; clear hb4)
    | (go_at_call 179; refine (KR2 _ HB4.out).mono ?_; rintro e w5 ⟨rfl, hb5⟩; have HB5 := Lib.hid (HB4.out.trans (hb5.mono HB4.out.size)); have HZ5 := HZ4.on hb5; clear hb5))
  have HJ : JR w #[.int .i64 op, .int .i64 rd, .int .i64 rs1, .int .i64 rs2, .int .i64 imm, .bool aq, .bool rl, .int .i64 pred, .int .i64 succ] w.heap.size w5.heap.size (w5.alloc (.cells #[.int .i64 op, .int .i64 rd, .int .i64 rs1, .int .i64 rs2, .int .i64 imm, .bool aq, .bool rl, .int .i64 pred, .int .i64 succ] 40)) := ⟨HB5.out.alloc HB5.out.size _, Blk.new _ _ _, HZ5.alloc _⟩
  have hlt5 := HZ5.lt
  clear HB5 HZ5 HB4 HZ4 HB3 HZ3 KR2 KL KN hj hex1
  generalize w5.alloc (.cells _ 40) = w6 at *
  have hne0 : w5.heap.size ≠ w.heap.size := fun e => by have := hlt5; omega
  obtain ⟨g7, hg7⟩ : ∃ g, w5.heap.size = g := ⟨_, rfl⟩
  rw [hg7] at HJ hne0 ⊢
  clear hg7 hlt5
  obtain ⟨c0, c1, c2, c3, c4, c5, c6, c7, c8, _⟩ := HJ.facts
  have hne : g7 ≠ w.heap.size := hne0
  rcases HS with rfl | ⟨rfl, rfl⟩
  · have HK := HJ.jk
    first | (go_region_with
      (first
        | (go_at_call 134; refine (KO _).mono ?_; rintro e w7 ⟨rfl, hb7⟩; have HJa := HJ.drew.next hb7; clear hb7; obtain ⟨c0, c1, c2, c3, c4, c5, c6, c7, c8, d0, f0, d1, f1, d2, f2, d3, f3, d4, f4, d5, f5, d6, f6, d7, f7, d8, f8, d9, f9, d10, f10, d11, f11, d12, f12, d13, f13, d14, f14⟩ := HJa.facts)
        | (go_at_call 56; refine (KS _ HJa.on).mono ?_; rintro e w8 ⟨rfl, rfl⟩))) | skip
    all_goals
      go_wp2
      exact bodyPost_ret (results_blk rfl rfl (blk15 HJa.out) Tryz.underlying79 rfl (by kernel_rfl)) rfl ⟨rfl, HJa.on.trans below15⟩
  · have HK := HJ.jk
    first | (go_region_held3 (fun w' => JK w #[.int .i64 3, .int .i64 rd, .int .i64 rs1, .int .i64 rs2, .int .i64 imm, .bool aq, .bool rl, .int .i64 pred, .int .i64 succ] w.heap.size g7 w' ∧ w'.cell? ⟨g7, 0, none⟩ = some (.int .i64 3) ∧ w'.cell? ⟨g7, 1, none⟩ = some (.int .i64 rd) ∧ w'.cell? ⟨g7, 2, none⟩ = some (.int .i64 rs1) ∧ w'.cell? ⟨g7, 3, none⟩ = some (.int .i64 rs2) ∧ w'.cell? ⟨g7, 4, none⟩ = some (.int .i64 imm) ∧ w'.cell? ⟨g7, 5, none⟩ = some (.bool aq) ∧ w'.cell? ⟨g7, 6, none⟩ = some (.bool rl) ∧ w'.cell? ⟨g7, 7, none⟩ = some (.int .i64 pred) ∧ w'.cell? ⟨g7, 8, none⟩ = some (.int .i64 succ))
      (first | (with_reducible exact ⟨by assumption, by assumption, by assumption, by assumption, by assumption, by assumption, by assumption, by assumption, by assumption, by assumption⟩) | (with_reducible exact ⟨JK.drew (by assumption), (World.cell?_drew _ _).trans (by assumption), (World.cell?_drew _ _).trans (by assumption), (World.cell?_drew _ _).trans (by assumption), (World.cell?_drew _ _).trans (by assumption), (World.cell?_drew _ _).trans (by assumption), (World.cell?_drew _ _).trans (by assumption), (World.cell?_drew _ _).trans (by assumption), (World.cell?_drew _ _).trans (by assumption), (World.cell?_drew _ _).trans (by assumption)⟩) | (with_reducible exact ⟨HJa.jk, by assumption, by assumption, by assumption, by assumption, by assumption, by assumption, by assumption, by assumption, by assumption⟩) | (with_reducible exact ⟨JK.st15 HJa.jk (Nat.le_refl _) hne _ _ _ _ _ _ _ _ _ _ _ _ _ _ _, (cell15 hne 0 _ _ _ _ _ _ _ _ _ _ _ _ _ _ _).trans (by assumption), (cell15 hne 1 _ _ _ _ _ _ _ _ _ _ _ _ _ _ _).trans (by assumption), (cell15 hne 2 _ _ _ _ _ _ _ _ _ _ _ _ _ _ _).trans (by assumption), (cell15 hne 3 _ _ _ _ _ _ _ _ _ _ _ _ _ _ _).trans (by assumption), (cell15 hne 4 _ _ _ _ _ _ _ _ _ _ _ _ _ _ _).trans (by assumption), (cell15 hne 5 _ _ _ _ _ _ _ _ _ _ _ _ _ _ _).trans (by assumption), (cell15 hne 6 _ _ _ _ _ _ _ _ _ _ _ _ _ _ _).trans (by assumption), (cell15 hne 7 _ _ _ _ _ _ _ _ _ _ _ _ _ _ _).trans (by assumption), (cell15 hne 8 _ _ _ _ _ _ _ _ _ _ _ _ _ _ _).trans (by assumption)⟩))
      (first
        | (go_at_call 134; refine (KO _).mono ?_; rintro e w7 ⟨rfl, hb7⟩; have HJa := HJ.drew.next hb7; clear hb7; obtain ⟨c0, c1, c2, c3, c4, c5, c6, c7, c8, d0, f0, d1, f1, d2, f2, d3, f3, d4, f4, d5, f5, d6, f6, d7, f7, d8, f8, d9, f9, d10, f10, d11, f11, d12, f12, d13, f13, d14, f14⟩ := HJa.facts)
        | (go_at_call 56; refine (KS _ HJa.on).mono ?_; rintro e w8 ⟨rfl, rfl⟩))) | skip
    all_goals
      go_wp2
      exact bodyPost_ret (results_blk rfl rfl (blk15 HJa.out) Tryz.underlying79 rfl (by kernel_rfl)) rfl ⟨rfl, HJa.on.trans below15⟩
end Go.Proofs.YtolmecnjolfjgaaGreatDoor
