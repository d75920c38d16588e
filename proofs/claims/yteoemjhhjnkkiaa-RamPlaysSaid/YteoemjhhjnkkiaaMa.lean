/- The shared memory: which places may be, who is a hart, reservations: the program's functions. -/
import Derived.Test.YteoemjhhjnkkiaaMm
import Derived.Test.YteoemjhhjnkkiaaHk
import Derived.WalkLawsBesides
import Derived.WalkSpells
import Derived.WalkSmall
import Derived.Lib.Hide
import Derived.Deep.LoopGhost
import Derived.Deep.QuietTactic
import Derived.BigQuiet
import Derived.StillTailTactics
import Derived.Deep.RegionHeld3
import Derived.RegionTactic
set_option maxRecDepth 100000
set_option linter.unusedVariables false
namespace Go.Proofs.Yteoemjhhjnkkiaa
open Go.RowKit

theorem isHart_any (h : Int) (w : World) : Calls Try.prog 30 #[.int .i64 h] w fun e w' => e = .returned (.bool (isHt h)) ∧ w = w' := by
  by_cases h0 : 0 ≤ h
  · go_enter Try.func30, Try.ntmps30
    go_wp2
    go_ret
    exact ⟨ret_bool (by unfold isHt; rw [decide_eq_true h0]; simp), rfl⟩
  · go_enter Try.func30, Try.ntmps30
    go_wp2
    go_ret
    exact ⟨ret_bool (by unfold isHt; rw [decide_eq_false (by omega : ¬ 0 ≤ h)]; simp), rfl⟩
theorem mayP_no {n a z : Int} (h : alg a z = false) : mayP n a z = false := by unfold mayP; rw [h]; rfl
theorem mayP_yes {n a z : Int} (h : alg a z = true) : mayP n a z = decide (a ≤ n - z) := by unfold mayP; rw [h]; rfl
theorem alg_out {a z : Int} (h : alg a z = true) : (z = 1 ∨ z = 2 ∨ z = 4 ∨ z = 8) ∧ 0 ≤ a := by
  unfold alg at h
  have := of_decide_eq_true h
  exact ⟨this.1, this.2.1⟩
/-- A pointer to a memory, or none. -/
theorem has_nil (a z : Int) (w : World) : Calls Try.prog 29 #[.pointer none, .agg #[.int .i64 a, .int .i64 z]] w fun e w' => e = .returned (.bool false) ∧ BW w w' := by
  go_enter Try.func29, Try.ntmps29
  go_wp2
  go_quiet (fail)
  go_wp2
  go_ret
  exact ⟨rfl, below_drewN' (BW.new (Below.refl _ _) _) _⟩
theorem has_c {s : Mst} {p : Pla} {w : World} (h : RamAt s p w) (hn : s.b0.length ≤ 1024) (a z : Int) (ha : a ≤ 9223372036854775807) :
    Calls Try.prog 29 #[.pointer (some ⟨p.g, 0, none⟩), .agg #[.int .i64 a, .int .i64 z]] w fun e w' => e = .returned (.bool (mayP s.n a z)) ∧ BW w w' := by
  have hc : w.cell? ⟨p.g, 0, none⟩ = some (.slice p.Ab s.b0.length p.cb) := h.head.cell 0
  have hk := aligned_any a z ha
  unfold Mst.n
  obtain ⟨g, hg⟩ : ∃ g, p.g = g := ⟨_, rfl⟩
  obtain ⟨n, hn'⟩ : ∃ n, s.b0.length = n := ⟨_, rfl⟩
  have hlt : g < w.heap.size := by rw [← hg]; exact h.head.lt
  rw [hg, hn'] at hc
  rw [hg, hn']
  rw [hn'] at hn
  clear h hg hn'
  have HK := Lib.hid hk; clear hk
  cases hal : alg a z with
  | false =>
    have HM := Lib.hid (mayP_no (n := (n : Int)) hal)
    rw [hal] at HK
    clear hal
    go_enter Try.func29, Try.ntmps29
    go_wp2
    go_quiet (first | (go_at_call 46; refine Calls.quiet_of_same ((HK.out _).mono fun _ _ h => ⟨h.1, h.2.symm⟩)))
    go_wp2
    go_ret
    exact ⟨ret_bool HM.out.symm, below_drewN' (BW.new (Below.refl _ _) _) _⟩
  | true =>
    have HM := Lib.hid (mayP_yes (n := (n : Int)) hal)
    have hal' := alg_out hal
    rw [hal] at HK
    clear hal
    have hz1 : 1 ≤ z ∧ z ≤ 8 := by omega
    have hz2 := hal'.2
    clear hal'
    go_enter Try.func29, Try.ntmps29
    go_wp2
    go_quiet (first | (go_at_call 46; refine Calls.quiet_of_same ((HK.out _).mono fun _ _ h => ⟨h.1, h.2.symm⟩)))
    go_wp2
    go_ret
    exact ⟨ret_bool HM.out.symm, below_drewN' (BW.new (Below.refl _ _) _) _⟩
def resCell (s : Mst) (h : Nat) (g : Nat) (x : World) : Prop := x.cell? ⟨g, 3 + 2 * h, none⟩ = some (.int .i64 (s.r (2 * h))) ∧ x.cell? ⟨g, 4 + 2 * h, none⟩ = some (.int .i64 (s.r (2 * h + 1)))
theorem run_eql_pl (a b c d : Int) (w : World) : (binOp .eql 57 (.agg #[.int .i64 a, .int .i64 b]) (.agg #[.int .i64 c, .int .i64 d])).run Try.prog w = .ok (.bool ((a == c) && (b == d))) w := by
  have e : ((Try.prog.fieldsOf 57).toList.all fun f => f.name == "_" || cellEq (#[Value.int .i64 a, .int .i64 b])[f.offset]? (#[Value.int .i64 c, .int .i64 d])[f.offset]?) = ((a == c) && ((b == d) && true)) := by kernel_rfl
  rw [run_eql_flat w 57 (by kernel_rfl) (by kernel_rfl) (by kernel_rfl), e, Bool.and_true]
theorem cell_on {x y : World} {a : Addr} {v : Value} (h : x.cell? a = some v) (k : BW x y) : y.cell? a = some v := (Below.cell k (World.block_lt_of_cell? x a h)).trans h
/-- The place asked for lies in the first new block; the memory is as it was. -/
def SP (s : Mst) (p : Pla) (a z : Int) (w x : World) : Prop := BW w x ∧ RamAt s p x ∧ Blk #[.int .i64 a, .int .i64 z] 57 w.heap.size x
theorem SP.on {s : Mst} {p : Pla} {a z : Int} {w x y : World} (h : SP s p a z w x) (k : BW x y) : SP s p a z w y := ⟨h.1.on k, h.2.1.on k, h.2.2.on k⟩
theorem SP.start {s : Mst} {p : Pla} {w : World} (h : RamAt s p w) (a z : Int) : SP s p a z w (w.alloc (.cells #[.int .i64 a, .int .i64 z] 57)).drew :=
  ⟨Below.drew (BW.new (Below.refl _ _) _), (h.on (BW.new (Below.refl _ _) _)).on (Below.drew (Below.refl _ _)), (Blk.new _ _ _).drew⟩
theorem isHt_three {h : Int} (k : isHt h = true) : h = 0 ∨ h = 1 ∨ h = 2 := by have := isHt_out k; omega
/-- Some cells of a block that is known whole, as a value. -/
theorem ex_load_mid {P : Program} {o : Oper} {a : Act} {w : World} {ty t : TypeId} {x : Operand} {g k : Nat} {ds : Array Value} (cs : List Value) (ho : o.op = .load ty x) (hx : a.eval x = .pointer (some ⟨g, k, none⟩)) (hb : Blk ds t g w) (hc : ∀ j v, cs[j]? = some v → ds[k + j]? = some v)
    {d : TypeDesc} (hu : P.underlying ty = some d) (hd : d.isRow = true) (hi : (P.info? ty).map (·.size) = some cs.length) : (execOp a.eval o).run P w = .ok (.value (.agg cs.toArray)) w := by
  have hr := run_loadAt_mid (P := P) w g k ty cs d (fun j v hv => (hb.cell (k + j)).trans (hc j v hv)) hu hd hi
  unfold execOp
  simp only [ho, hx, Sem.run_bind, Sem.run_pure, Result.andThen_ok, hr]
theorem exec_cmp {P : Program} {o : Oper} {a : Act} {w : World} {op : BinOp} {t u : TypeId} {x y : Operand} {xs ys : Array Value} {v : Value} (ho : o.op = .binOp op t x y u) (hm : P.eqGuardType P.depth t = false) (hx : a.eval x = .agg xs) (hy : a.eval y = .agg ys) (h : (binOp op t (.agg xs) (.agg ys)).run P w = .ok v w) :
    (execOp a.eval o).run P w = .ok (.value v) w := by
  have hg := run_eqGuard_agg (P := P) (w := w) op t x y xs ys hm
  unfold execOp
  simp only [ho, hx, hy, Sem.run_bind, Sem.run_pure, Result.andThen_ok, hg, h]
theorem pl_at (s : Mst) (p : Pla) (h : Fin 3) : ∀ j v, [Value.int .i64 (s.r (2 * h.1)), Value.int .i64 (s.r (2 * h.1 + 1))][j]? = some v → (ramCells (.slice p.Ab s.b0.length p.cb) (.slice p.At s.b0.length p.ct) p.vl s.r)[3 + 2 * h.1 + j]? = some v := by
  intro j v hv
  match h, j, hv with
  | 0, 0, hv => exact hv
  | 0, 1, hv => exact hv
  | 1, 0, hv => exact hv
  | 1, 1, hv => exact hv
  | 2, 0, hv => exact hv
  | 2, 1, hv => exact hv
theorem held_c {s : Mst} {p : Pla} {w : World} (h : RamAt s p w) (hn : s.b0.length ≤ 1024) (t a z : Int) (ha : a ≤ 9223372036854775807) :
    Calls Try.prog 20 #[.pointer (some ⟨p.g, 0, none⟩), .int .i64 t, .int .i64 a, .int .i64 z] w fun e w' => e = .returned (.bool (helM s t a z)) ∧ BW w w' := by
  have hk := fun (x : World) (hx : RamAt s p x) => has_c hx hn a z ha
  have ht := isHart_any t
  have HS := SP.start h a z
  clear h
  unfold helM
  cases hm : mayP s.n a z with
  | false =>
    rw [hm] at hk
    have HK := Lib.hid hk; clear hk hm ht
    go_enter Try.func20, Try.ntmps20
    go_wp2
    refine wp_region_held (S := SP s p a z w) (by kernel_rfl) ?_
    change wpAnyH _ _ _ _ _ _ _ _ (World.drew _)
    generalize World.drew _ = w0 at *
    refine hk_val (i := 0) (oi := ⟨some 13, .move _, _, _, _, _⟩) (.pointer (some ⟨p.g, 0, none⟩)) rfl (by kernel_rfl) (by kernel_rfl) (by kernel_rfl) (fun _ _ _ h => h) (by kernel_rfl) (fun _ _ => rfl) HS ?_
    simp only [Act.put, List.setIfInBounds_toArray, List.set_cons_zero, List.set_cons_succ]
    refine hk_load (i := 1) (oi := ⟨some 14, .load _ _, _, _, _, _⟩) rfl (by kernel_rfl) (by kernel_rfl) (by kernel_rfl) (fun _ _ _ h => h) (by kernel_rfl) _ _ rfl rfl (fun _ h => h.2.2) Try.underlying57 rfl (by kernel_rfl) HS ?_
    simp only [Act.put, List.setIfInBounds_toArray, List.set_cons_zero, List.set_cons_succ]
    refine hk_call (i := 2) (oi := ⟨some 15, .call _, _, _, _, _⟩) (by kernel_rfl) rfl (by kernel_rfl) (by first | rfl | kernel_rfl) (HK.out _ HS.2.1) ?_
    rintro e w1 ⟨rfl, hb⟩
    have HS1 := HS.on hb
    refine ⟨_, rfl, HS1, ?_⟩
    clear HS hb
    simp only [Act.put, List.setIfInBounds_toArray, List.set_cons_zero, List.set_cons_succ]
    refine hk_val (i := 3) (oi := ⟨some 16, .move _, _, _, _, _⟩) (.bool false) rfl (by kernel_rfl) (by kernel_rfl) (by kernel_rfl) (fun _ _ _ h => h) (by kernel_rfl) (fun _ _ => rfl) HS1 ?_
    simp only [Act.put, List.setIfInBounds_toArray, List.set_cons_zero, List.set_cons_succ]
    refine hk_skip (i := 4) (oi := ⟨some 17, .move _, _, _, _, _⟩) rfl (by kernel_rfl) (by kernel_rfl) (by kernel_rfl) (fun _ _ _ h => h) (by kernel_rfl) HS1 ?_
    simp only [Act.put, List.setIfInBounds_toArray, List.set_cons_zero, List.set_cons_succ]
    refine hk_skip (i := 5) (oi := ⟨some 18, .call _, _, _, _, _⟩) rfl (by kernel_rfl) (by kernel_rfl) (by kernel_rfl) (fun _ _ _ h => h) (by kernel_rfl) HS1 ?_
    simp only [Act.put, List.setIfInBounds_toArray, List.set_cons_zero, List.set_cons_succ]
    refine hk_val (i := 6) (oi := ⟨some 19, .pick _ _ _, _, _, _, _⟩) (.bool false) rfl (by kernel_rfl) (by kernel_rfl) (by kernel_rfl) (fun _ _ _ h => h) (by kernel_rfl) (fun _ _ => rfl) HS1 ?_
    simp only [Act.put, List.setIfInBounds_toArray, List.set_cons_zero, List.set_cons_succ]
    refine hk_val (i := 7) (oi := ⟨some 20, .move _, _, _, _, _⟩) (.bool false) rfl (by kernel_rfl) (by kernel_rfl) (by kernel_rfl) (fun _ _ _ h => h) (by kernel_rfl) (fun _ _ => rfl) HS1 ?_
    simp only [Act.put, List.setIfInBounds_toArray, List.set_cons_zero, List.set_cons_succ]
    refine hk_skip (i := 8) (oi := ⟨some 21, .move _, _, _, _, _⟩) rfl (by kernel_rfl) (by kernel_rfl) (by kernel_rfl) (fun _ _ _ h => h) (by kernel_rfl) HS1 ?_
    simp only [Act.put, List.setIfInBounds_toArray, List.set_cons_zero, List.set_cons_succ]
    refine hk_skip (i := 9) (oi := ⟨some 22, .move _, _, _, _, _⟩) rfl (by kernel_rfl) (by kernel_rfl) (by kernel_rfl) (fun _ _ _ h => h) (by kernel_rfl) HS1 ?_
    simp only [Act.put, List.setIfInBounds_toArray, List.set_cons_zero, List.set_cons_succ]
    refine hk_skip (i := 10) (oi := ⟨some 23, .nilCheck _, _, _, _, _⟩) rfl (by kernel_rfl) (by kernel_rfl) (by kernel_rfl) (fun _ _ _ h => h) (by kernel_rfl) HS1 ?_
    simp only [Act.put, List.setIfInBounds_toArray, List.set_cons_zero, List.set_cons_succ]
    refine hk_skip (i := 11) (oi := ⟨some 24, .fieldAddr _ _ _, _, _, _, _⟩) rfl (by kernel_rfl) (by kernel_rfl) (by kernel_rfl) (fun _ _ _ h => h) (by kernel_rfl) HS1 ?_
    simp only [Act.put, List.setIfInBounds_toArray, List.set_cons_zero, List.set_cons_succ]
    refine hk_skip (i := 12) (oi := ⟨some 25, .indexAddr _ _ _, _, _, _, _⟩) rfl (by kernel_rfl) (by kernel_rfl) (by kernel_rfl) (fun _ _ _ h => h) (by kernel_rfl) HS1 ?_
    simp only [Act.put, List.setIfInBounds_toArray, List.set_cons_zero, List.set_cons_succ]
    refine hk_skip (i := 13) (oi := ⟨some 26, .load _ _, _, _, _, _⟩) rfl (by kernel_rfl) (by kernel_rfl) (by kernel_rfl) (fun _ _ _ h => h) (by kernel_rfl) HS1 ?_
    simp only [Act.put, List.setIfInBounds_toArray, List.set_cons_zero, List.set_cons_succ]
    refine hk_skip (i := 14) (oi := ⟨some 27, .load _ _, _, _, _, _⟩) rfl (by kernel_rfl) (by kernel_rfl) (by kernel_rfl) (fun _ _ _ h => h) (by kernel_rfl) HS1 ?_
    simp only [Act.put, List.setIfInBounds_toArray, List.set_cons_zero, List.set_cons_succ]
    refine hk_skip (i := 15) (oi := ⟨some 28, .binOp _ _ _ _ _, _, _, _, _⟩) rfl (by kernel_rfl) (by kernel_rfl) (by kernel_rfl) (fun _ _ _ h => h) (by kernel_rfl) HS1 ?_
    simp only [Act.put, List.setIfInBounds_toArray, List.set_cons_zero, List.set_cons_succ]
    refine hk_val (i := 16) (oi := ⟨some 29, .pick _ _ _, _, _, _, _⟩) (.bool false) rfl (by kernel_rfl) (by kernel_rfl) (by kernel_rfl) (fun _ _ _ h => h) (by kernel_rfl) (fun _ _ => rfl) HS1 ?_
    simp only [Act.put, List.setIfInBounds_toArray, List.set_cons_zero, List.set_cons_succ]
    refine hk_val (i := 17) (oi := ⟨some 8, .assign _, _, _, _, _⟩) (.bool false) rfl (by kernel_rfl) (by kernel_rfl) (by kernel_rfl) (fun _ _ _ h => h) (by kernel_rfl) (fun _ _ => rfl) HS1 ?_
    simp only [Act.put, List.setIfInBounds_toArray, List.set_cons_zero, List.set_cons_succ]
    refine wpAnyH_done (by kernel_rfl) ?_ _
    go_wp2
    go_ret
    exact ⟨rfl, HS1.1⟩
  | true =>
    rw [hm] at hk
    have HK := Lib.hid hk; clear hk hm
    cases hh : isHt t with
    | false =>
      rw [hh] at ht
      have HT := Lib.hid ht; clear ht hh
      go_enter Try.func20, Try.ntmps20
      go_wp2
      refine wp_region_held (S := SP s p a z w) (by kernel_rfl) ?_
      change wpAnyH _ _ _ _ _ _ _ _ (World.drew _)
      generalize World.drew _ = w0 at *
      refine hk_val (i := 0) (oi := ⟨some 13, .move _, _, _, _, _⟩) (.pointer (some ⟨p.g, 0, none⟩)) rfl (by kernel_rfl) (by kernel_rfl) (by kernel_rfl) (fun _ _ _ h => h) (by kernel_rfl) (fun _ _ => rfl) HS ?_
      simp only [Act.put, List.setIfInBounds_toArray, List.set_cons_zero, List.set_cons_succ]
      refine hk_load (i := 1) (oi := ⟨some 14, .load _ _, _, _, _, _⟩) rfl (by kernel_rfl) (by kernel_rfl) (by kernel_rfl) (fun _ _ _ h => h) (by kernel_rfl) _ _ rfl rfl (fun _ h => h.2.2) Try.underlying57 rfl (by kernel_rfl) HS ?_
      simp only [Act.put, List.setIfInBounds_toArray, List.set_cons_zero, List.set_cons_succ]
      refine hk_call (i := 2) (oi := ⟨some 15, .call _, _, _, _, _⟩) (by kernel_rfl) rfl (by kernel_rfl) (by first | rfl | kernel_rfl) (HK.out _ HS.2.1) ?_
      rintro e w1 ⟨rfl, hb⟩
      have HS1 := HS.on hb
      refine ⟨_, rfl, HS1, ?_⟩
      clear HS hb
      simp only [Act.put, List.setIfInBounds_toArray, List.set_cons_zero, List.set_cons_succ]
      refine hk_val (i := 3) (oi := ⟨some 16, .move _, _, _, _, _⟩) (.bool true) rfl (by kernel_rfl) (by kernel_rfl) (by kernel_rfl) (fun _ _ _ h => h) (by kernel_rfl) (fun _ _ => rfl) HS1 ?_
      simp only [Act.put, List.setIfInBounds_toArray, List.set_cons_zero, List.set_cons_succ]
      refine hk_val (i := 4) (oi := ⟨some 17, .move _, _, _, _, _⟩) (.int .i64 t) rfl (by kernel_rfl) (by kernel_rfl) (by kernel_rfl) (fun _ _ _ h => h) (by kernel_rfl) (fun _ _ => rfl) HS1 ?_
      simp only [Act.put, List.setIfInBounds_toArray, List.set_cons_zero, List.set_cons_succ]
      refine hk_call (i := 5) (oi := ⟨some 18, .call _, _, _, _, _⟩) (by kernel_rfl) rfl (by kernel_rfl) (by first | rfl | kernel_rfl) (HT.out _) ?_
      rintro e w2 ⟨rfl, rfl⟩
      refine ⟨_, rfl, HS1, ?_⟩
      simp only [Act.put, List.setIfInBounds_toArray, List.set_cons_zero, List.set_cons_succ]
      refine hk_val (i := 6) (oi := ⟨some 19, .pick _ _ _, _, _, _, _⟩) (.bool false) rfl (by kernel_rfl) (by kernel_rfl) (by kernel_rfl) (fun _ _ _ h => h) (by kernel_rfl) (fun _ _ => rfl) HS1 ?_
      simp only [Act.put, List.setIfInBounds_toArray, List.set_cons_zero, List.set_cons_succ]
      refine hk_val (i := 7) (oi := ⟨some 20, .move _, _, _, _, _⟩) (.bool false) rfl (by kernel_rfl) (by kernel_rfl) (by kernel_rfl) (fun _ _ _ h => h) (by kernel_rfl) (fun _ _ => rfl) HS1 ?_
      simp only [Act.put, List.setIfInBounds_toArray, List.set_cons_zero, List.set_cons_succ]
      refine hk_skip (i := 8) (oi := ⟨some 21, .move _, _, _, _, _⟩) rfl (by kernel_rfl) (by kernel_rfl) (by kernel_rfl) (fun _ _ _ h => h) (by kernel_rfl) HS1 ?_
      simp only [Act.put, List.setIfInBounds_toArray, List.set_cons_zero, List.set_cons_succ]
      refine hk_skip (i := 9) (oi := ⟨some 22, .move _, _, _, _, _⟩) rfl (by kernel_rfl) (by kernel_rfl) (by kernel_rfl) (fun _ _ _ h => h) (by kernel_rfl) HS1 ?_
      simp only [Act.put, List.setIfInBounds_toArray, List.set_cons_zero, List.set_cons_succ]
      refine hk_skip (i := 10) (oi := ⟨some 23, .nilCheck _, _, _, _, _⟩) rfl (by kernel_rfl) (by kernel_rfl) (by kernel_rfl) (fun _ _ _ h => h) (by kernel_rfl) HS1 ?_
      simp only [Act.put, List.setIfInBounds_toArray, List.set_cons_zero, List.set_cons_succ]
      refine hk_skip (i := 11) (oi := ⟨some 24, .fieldAddr _ _ _, _, _, _, _⟩) rfl (by kernel_rfl) (by kernel_rfl) (by kernel_rfl) (fun _ _ _ h => h) (by kernel_rfl) HS1 ?_
      simp only [Act.put, List.setIfInBounds_toArray, List.set_cons_zero, List.set_cons_succ]
      refine hk_skip (i := 12) (oi := ⟨some 25, .indexAddr _ _ _, _, _, _, _⟩) rfl (by kernel_rfl) (by kernel_rfl) (by kernel_rfl) (fun _ _ _ h => h) (by kernel_rfl) HS1 ?_
      simp only [Act.put, List.setIfInBounds_toArray, List.set_cons_zero, List.set_cons_succ]
      refine hk_skip (i := 13) (oi := ⟨some 26, .load _ _, _, _, _, _⟩) rfl (by kernel_rfl) (by kernel_rfl) (by kernel_rfl) (fun _ _ _ h => h) (by kernel_rfl) HS1 ?_
      simp only [Act.put, List.setIfInBounds_toArray, List.set_cons_zero, List.set_cons_succ]
      refine hk_skip (i := 14) (oi := ⟨some 27, .load _ _, _, _, _, _⟩) rfl (by kernel_rfl) (by kernel_rfl) (by kernel_rfl) (fun _ _ _ h => h) (by kernel_rfl) HS1 ?_
      simp only [Act.put, List.setIfInBounds_toArray, List.set_cons_zero, List.set_cons_succ]
      refine hk_skip (i := 15) (oi := ⟨some 28, .binOp _ _ _ _ _, _, _, _, _⟩) rfl (by kernel_rfl) (by kernel_rfl) (by kernel_rfl) (fun _ _ _ h => h) (by kernel_rfl) HS1 ?_
      simp only [Act.put, List.setIfInBounds_toArray, List.set_cons_zero, List.set_cons_succ]
      refine hk_val (i := 16) (oi := ⟨some 29, .pick _ _ _, _, _, _, _⟩) (.bool false) rfl (by kernel_rfl) (by kernel_rfl) (by kernel_rfl) (fun _ _ _ h => h) (by kernel_rfl) (fun _ _ => rfl) HS1 ?_
      simp only [Act.put, List.setIfInBounds_toArray, List.set_cons_zero, List.set_cons_succ]
      refine hk_val (i := 17) (oi := ⟨some 8, .assign _, _, _, _, _⟩) (.bool false) rfl (by kernel_rfl) (by kernel_rfl) (by kernel_rfl) (fun _ _ _ h => h) (by kernel_rfl) (fun _ _ => rfl) HS1 ?_
      simp only [Act.put, List.setIfInBounds_toArray, List.set_cons_zero, List.set_cons_succ]
      refine wpAnyH_done (by kernel_rfl) ?_ _
      go_wp2
      go_ret
      exact ⟨rfl, HS1.1⟩
    | true =>
      rw [hh] at ht
      have HT := Lib.hid ht; clear ht
      rcases isHt_three hh with rfl | rfl | rfl
      · clear hh
        go_enter Try.func20, Try.ntmps20
        go_wp2
        refine wp_region_held (S := SP s p a z w) (by kernel_rfl) ?_
        change wpAnyH _ _ _ _ _ _ _ _ (World.drew _)
        generalize World.drew _ = w0 at *
        refine hk_val (i := 0) (oi := ⟨some 13, .move _, _, _, _, _⟩) (.pointer (some ⟨p.g, 0, none⟩)) rfl (by kernel_rfl) (by kernel_rfl) (by kernel_rfl) (fun _ _ _ h => h) (by kernel_rfl) (fun _ _ => rfl) HS ?_
        simp only [Act.put, List.setIfInBounds_toArray, List.set_cons_zero, List.set_cons_succ]
        refine hk_load (i := 1) (oi := ⟨some 14, .load _ _, _, _, _, _⟩) rfl (by kernel_rfl) (by kernel_rfl) (by kernel_rfl) (fun _ _ _ h => h) (by kernel_rfl) _ _ rfl rfl (fun _ h => h.2.2) Try.underlying57 rfl (by kernel_rfl) HS ?_
        simp only [Act.put, List.setIfInBounds_toArray, List.set_cons_zero, List.set_cons_succ]
        refine hk_call (i := 2) (oi := ⟨some 15, .call _, _, _, _, _⟩) (by kernel_rfl) rfl (by kernel_rfl) (by first | rfl | kernel_rfl) (HK.out _ HS.2.1) ?_
        rintro e w1 ⟨rfl, hb⟩
        have HS1 := HS.on hb
        refine ⟨_, rfl, HS1, ?_⟩
        clear HS hb
        simp only [Act.put, List.setIfInBounds_toArray, List.set_cons_zero, List.set_cons_succ]
        refine hk_val (i := 3) (oi := ⟨some 16, .move _, _, _, _, _⟩) (.bool true) rfl (by kernel_rfl) (by kernel_rfl) (by kernel_rfl) (fun _ _ _ h => h) (by kernel_rfl) (fun _ _ => rfl) HS1 ?_
        simp only [Act.put, List.setIfInBounds_toArray, List.set_cons_zero, List.set_cons_succ]
        refine hk_val (i := 4) (oi := ⟨some 17, .move _, _, _, _, _⟩) (.int .i64 0) rfl (by kernel_rfl) (by kernel_rfl) (by kernel_rfl) (fun _ _ _ h => h) (by kernel_rfl) (fun _ _ => rfl) HS1 ?_
        simp only [Act.put, List.setIfInBounds_toArray, List.set_cons_zero, List.set_cons_succ]
        refine hk_call (i := 5) (oi := ⟨some 18, .call _, _, _, _, _⟩) (by kernel_rfl) rfl (by kernel_rfl) (by first | rfl | kernel_rfl) (HT.out _) ?_
        rintro e w2 ⟨rfl, rfl⟩
        refine ⟨_, rfl, HS1, ?_⟩
        simp only [Act.put, List.setIfInBounds_toArray, List.set_cons_zero, List.set_cons_succ]
        refine hk_val (i := 6) (oi := ⟨some 19, .pick _ _ _, _, _, _, _⟩) (.bool true) rfl (by kernel_rfl) (by kernel_rfl) (by kernel_rfl) (fun _ _ _ h => h) (by kernel_rfl) (fun _ _ => rfl) HS1 ?_
        simp only [Act.put, List.setIfInBounds_toArray, List.set_cons_zero, List.set_cons_succ]
        refine hk_val (i := 7) (oi := ⟨some 20, .move _, _, _, _, _⟩) (.bool true) rfl (by kernel_rfl) (by kernel_rfl) (by kernel_rfl) (fun _ _ _ h => h) (by kernel_rfl) (fun _ _ => rfl) HS1 ?_
        simp only [Act.put, List.setIfInBounds_toArray, List.set_cons_zero, List.set_cons_succ]
        refine hk_val (i := 8) (oi := ⟨some 21, .move _, _, _, _, _⟩) (.pointer (some ⟨p.g, 0, none⟩)) rfl (by kernel_rfl) (by kernel_rfl) (by kernel_rfl) (fun _ _ _ h => h) (by kernel_rfl) (fun _ _ => rfl) HS1 ?_
        simp only [Act.put, List.setIfInBounds_toArray, List.set_cons_zero, List.set_cons_succ]
        refine hk_val (i := 9) (oi := ⟨some 22, .move _, _, _, _, _⟩) (.int .i64 0) rfl (by kernel_rfl) (by kernel_rfl) (by kernel_rfl) (fun _ _ _ h => h) (by kernel_rfl) (fun _ _ => rfl) HS1 ?_
        simp only [Act.put, List.setIfInBounds_toArray, List.set_cons_zero, List.set_cons_succ]
        refine hk_val (i := 10) (oi := ⟨some 23, .nilCheck _, _, _, _, _⟩) (.pointer (some ⟨p.g, 0, none⟩)) rfl (by kernel_rfl) (by kernel_rfl) (by kernel_rfl) (fun _ _ _ h => h) (by kernel_rfl) (fun _ _ => rfl) HS1 ?_
        simp only [Act.put, List.setIfInBounds_toArray, List.set_cons_zero, List.set_cons_succ]
        refine hk_val (i := 11) (oi := ⟨some 24, .fieldAddr _ _ _, _, _, _, _⟩) (.pointer (some ⟨p.g, 3, none⟩)) rfl (by kernel_rfl) (by kernel_rfl) (by kernel_rfl) (fun _ _ _ h => h) (by kernel_rfl) (fun _ _ => by kernel_rfl) HS1 ?_
        simp only [Act.put, List.setIfInBounds_toArray, List.set_cons_zero, List.set_cons_succ]
        refine hk_val (i := 12) (oi := ⟨some 25, .indexAddr _ _ _, _, _, _, _⟩) (.pointer (some ⟨p.g, 3, none⟩)) rfl (by kernel_rfl) (by kernel_rfl) (by kernel_rfl) (fun _ _ _ h => h) (by kernel_rfl) (fun _ _ => by kernel_rfl) HS1 ?_
        simp only [Act.put, List.setIfInBounds_toArray, List.set_cons_zero, List.set_cons_succ]
        refine hk_val (i := 13) (oi := ⟨some 26, .load _ _, _, _, _, _⟩) (.agg #[.int .i64 (s.r 0), .int .i64 (s.r 1)]) rfl (by kernel_rfl) (by kernel_rfl) (by kernel_rfl) (fun _ _ _ h => h) (by kernel_rfl) (fun x h => ex_load_mid [.int .i64 (s.r 0), .int .i64 (s.r 1)] rfl rfl h.2.1.head (pl_at s p 0) Try.underlying57 rfl (by kernel_rfl)) HS1 ?_
        simp only [Act.put, List.setIfInBounds_toArray, List.set_cons_zero, List.set_cons_succ]
        refine hk_load (i := 14) (oi := ⟨some 27, .load _ _, _, _, _, _⟩) rfl (by kernel_rfl) (by kernel_rfl) (by kernel_rfl) (fun _ _ _ h => h) (by kernel_rfl) _ _ rfl rfl (fun _ h => h.2.2) Try.underlying57 rfl (by kernel_rfl) HS1 ?_
        simp only [Act.put, List.setIfInBounds_toArray, List.set_cons_zero, List.set_cons_succ]
        refine hk_val (i := 15) (oi := ⟨some 28, .binOp _ _ _ _ _, _, _, _, _⟩) (.bool ((s.r 0 == a) && (s.r 1 == z))) rfl (by kernel_rfl) (by kernel_rfl) (by kernel_rfl) (fun _ _ _ h => h) (by kernel_rfl) (fun x _ => exec_cmp rfl (by kernel_rfl) rfl rfl (run_eql_pl _ _ _ _ x)) HS1 ?_
        simp only [Act.put, List.setIfInBounds_toArray, List.set_cons_zero, List.set_cons_succ]
        refine hk_val (i := 16) (oi := ⟨some 29, .pick _ _ _, _, _, _, _⟩) (.bool ((s.r 0 == a) && (s.r 1 == z))) rfl (by kernel_rfl) (by kernel_rfl) (by kernel_rfl) (fun _ _ _ h => h) (by kernel_rfl) (fun _ _ => rfl) HS1 ?_
        simp only [Act.put, List.setIfInBounds_toArray, List.set_cons_zero, List.set_cons_succ]
        refine hk_val (i := 17) (oi := ⟨some 8, .assign _, _, _, _, _⟩) (.bool ((s.r 0 == a) && (s.r 1 == z))) rfl (by kernel_rfl) (by kernel_rfl) (by kernel_rfl) (fun _ _ _ h => h) (by kernel_rfl) (fun _ _ => rfl) HS1 ?_
        simp only [Act.put, List.setIfInBounds_toArray, List.set_cons_zero, List.set_cons_succ]
        refine wpAnyH_done (by kernel_rfl) ?_ _
        go_wp2
        go_ret
        exact ⟨rfl, HS1.1⟩
      · clear hh
        go_enter Try.func20, Try.ntmps20
        go_wp2
        refine wp_region_held (S := SP s p a z w) (by kernel_rfl) ?_
        change wpAnyH _ _ _ _ _ _ _ _ (World.drew _)
        generalize World.drew _ = w0 at *
        refine hk_val (i := 0) (oi := ⟨some 13, .move _, _, _, _, _⟩) (.pointer (some ⟨p.g, 0, none⟩)) rfl (by kernel_rfl) (by kernel_rfl) (by kernel_rfl) (fun _ _ _ h => h) (by kernel_rfl) (fun _ _ => rfl) HS ?_
        simp only [Act.put, List.setIfInBounds_toArray, List.set_cons_zero, List.set_cons_succ]
        refine hk_load (i := 1) (oi := ⟨some 14, .load _ _, _, _, _, _⟩) rfl (by kernel_rfl) (by kernel_rfl) (by kernel_rfl) (fun _ _ _ h => h) (by kernel_rfl) _ _ rfl rfl (fun _ h => h.2.2) Try.underlying57 rfl (by kernel_rfl) HS ?_
        simp only [Act.put, List.setIfInBounds_toArray, List.set_cons_zero, List.set_cons_succ]
        refine hk_call (i := 2) (oi := ⟨some 15, .call _, _, _, _, _⟩) (by kernel_rfl) rfl (by kernel_rfl) (by first | rfl | kernel_rfl) (HK.out _ HS.2.1) ?_
        rintro e w1 ⟨rfl, hb⟩
        have HS1 := HS.on hb
        refine ⟨_, rfl, HS1, ?_⟩
        clear HS hb
        simp only [Act.put, List.setIfInBounds_toArray, List.set_cons_zero, List.set_cons_succ]
        refine hk_val (i := 3) (oi := ⟨some 16, .move _, _, _, _, _⟩) (.bool true) rfl (by kernel_rfl) (by kernel_rfl) (by kernel_rfl) (fun _ _ _ h => h) (by kernel_rfl) (fun _ _ => rfl) HS1 ?_
        simp only [Act.put, List.setIfInBounds_toArray, List.set_cons_zero, List.set_cons_succ]
        refine hk_val (i := 4) (oi := ⟨some 17, .move _, _, _, _, _⟩) (.int .i64 1) rfl (by kernel_rfl) (by kernel_rfl) (by kernel_rfl) (fun _ _ _ h => h) (by kernel_rfl) (fun _ _ => rfl) HS1 ?_
        simp only [Act.put, List.setIfInBounds_toArray, List.set_cons_zero, List.set_cons_succ]
        refine hk_call (i := 5) (oi := ⟨some 18, .call _, _, _, _, _⟩) (by kernel_rfl) rfl (by kernel_rfl) (by first | rfl | kernel_rfl) (HT.out _) ?_
        rintro e w2 ⟨rfl, rfl⟩
        refine ⟨_, rfl, HS1, ?_⟩
        simp only [Act.put, List.setIfInBounds_toArray, List.set_cons_zero, List.set_cons_succ]
        refine hk_val (i := 6) (oi := ⟨some 19, .pick _ _ _, _, _, _, _⟩) (.bool true) rfl (by kernel_rfl) (by kernel_rfl) (by kernel_rfl) (fun _ _ _ h => h) (by kernel_rfl) (fun _ _ => rfl) HS1 ?_
        simp only [Act.put, List.setIfInBounds_toArray, List.set_cons_zero, List.set_cons_succ]
        refine hk_val (i := 7) (oi := ⟨some 20, .move _, _, _, _, _⟩) (.bool true) rfl (by kernel_rfl) (by kernel_rfl) (by kernel_rfl) (fun _ _ _ h => h) (by kernel_rfl) (fun _ _ => rfl) HS1 ?_
        simp only [Act.put, List.setIfInBounds_toArray, List.set_cons_zero, List.set_cons_succ]
        refine hk_val (i := 8) (oi := ⟨some 21, .move _, _, _, _, _⟩) (.pointer (some ⟨p.g, 0, none⟩)) rfl (by kernel_rfl) (by kernel_rfl) (by kernel_rfl) (fun _ _ _ h => h) (by kernel_rfl) (fun _ _ => rfl) HS1 ?_
        simp only [Act.put, List.setIfInBounds_toArray, List.set_cons_zero, List.set_cons_succ]
        refine hk_val (i := 9) (oi := ⟨some 22, .move _, _, _, _, _⟩) (.int .i64 1) rfl (by kernel_rfl) (by kernel_rfl) (by kernel_rfl) (fun _ _ _ h => h) (by kernel_rfl) (fun _ _ => rfl) HS1 ?_
        simp only [Act.put, List.setIfInBounds_toArray, List.set_cons_zero, List.set_cons_succ]
        refine hk_val (i := 10) (oi := ⟨some 23, .nilCheck _, _, _, _, _⟩) (.pointer (some ⟨p.g, 0, none⟩)) rfl (by kernel_rfl) (by kernel_rfl) (by kernel_rfl) (fun _ _ _ h => h) (by kernel_rfl) (fun _ _ => rfl) HS1 ?_
        simp only [Act.put, List.setIfInBounds_toArray, List.set_cons_zero, List.set_cons_succ]
        refine hk_val (i := 11) (oi := ⟨some 24, .fieldAddr _ _ _, _, _, _, _⟩) (.pointer (some ⟨p.g, 3, none⟩)) rfl (by kernel_rfl) (by kernel_rfl) (by kernel_rfl) (fun _ _ _ h => h) (by kernel_rfl) (fun _ _ => by kernel_rfl) HS1 ?_
        simp only [Act.put, List.setIfInBounds_toArray, List.set_cons_zero, List.set_cons_succ]
        refine hk_val (i := 12) (oi := ⟨some 25, .indexAddr _ _ _, _, _, _, _⟩) (.pointer (some ⟨p.g, 5, none⟩)) rfl (by kernel_rfl) (by kernel_rfl) (by kernel_rfl) (fun _ _ _ h => h) (by kernel_rfl) (fun _ _ => by kernel_rfl) HS1 ?_
        simp only [Act.put, List.setIfInBounds_toArray, List.set_cons_zero, List.set_cons_succ]
        refine hk_val (i := 13) (oi := ⟨some 26, .load _ _, _, _, _, _⟩) (.agg #[.int .i64 (s.r 2), .int .i64 (s.r 3)]) rfl (by kernel_rfl) (by kernel_rfl) (by kernel_rfl) (fun _ _ _ h => h) (by kernel_rfl) (fun x h => ex_load_mid [.int .i64 (s.r 2), .int .i64 (s.r 3)] rfl rfl h.2.1.head (pl_at s p 1) Try.underlying57 rfl (by kernel_rfl)) HS1 ?_
        simp only [Act.put, List.setIfInBounds_toArray, List.set_cons_zero, List.set_cons_succ]
        refine hk_load (i := 14) (oi := ⟨some 27, .load _ _, _, _, _, _⟩) rfl (by kernel_rfl) (by kernel_rfl) (by kernel_rfl) (fun _ _ _ h => h) (by kernel_rfl) _ _ rfl rfl (fun _ h => h.2.2) Try.underlying57 rfl (by kernel_rfl) HS1 ?_
        simp only [Act.put, List.setIfInBounds_toArray, List.set_cons_zero, List.set_cons_succ]
        refine hk_val (i := 15) (oi := ⟨some 28, .binOp _ _ _ _ _, _, _, _, _⟩) (.bool ((s.r 2 == a) && (s.r 3 == z))) rfl (by kernel_rfl) (by kernel_rfl) (by kernel_rfl) (fun _ _ _ h => h) (by kernel_rfl) (fun x _ => exec_cmp rfl (by kernel_rfl) rfl rfl (run_eql_pl _ _ _ _ x)) HS1 ?_
        simp only [Act.put, List.setIfInBounds_toArray, List.set_cons_zero, List.set_cons_succ]
        refine hk_val (i := 16) (oi := ⟨some 29, .pick _ _ _, _, _, _, _⟩) (.bool ((s.r 2 == a) && (s.r 3 == z))) rfl (by kernel_rfl) (by kernel_rfl) (by kernel_rfl) (fun _ _ _ h => h) (by kernel_rfl) (fun _ _ => rfl) HS1 ?_
        simp only [Act.put, List.setIfInBounds_toArray, List.set_cons_zero, List.set_cons_succ]
        refine hk_val (i := 17) (oi := ⟨some 8, .assign _, _, _, _, _⟩) (.bool ((s.r 2 == a) && (s.r 3 == z))) rfl (by kernel_rfl) (by kernel_rfl) (by kernel_rfl) (fun _ _ _ h => h) (by kernel_rfl) (fun _ _ => rfl) HS1 ?_
        simp only [Act.put, List.setIfInBounds_toArray, List.set_cons_zero, List.set_cons_succ]
        refine wpAnyH_done (by kernel_rfl) ?_ _
        go_wp2
        go_ret
        exact ⟨rfl, HS1.1⟩
      · clear hh
        go_enter Try.func20, Try.ntmps20
        go_wp2
        refine wp_region_held (S := SP s p a z w) (by kernel_rfl) ?_
        change wpAnyH _ _ _ _ _ _ _ _ (World.drew _)
        generalize World.drew _ = w0 at *
        refine hk_val (i := 0) (oi := ⟨some 13, .move _, _, _, _, _⟩) (.pointer (some ⟨p.g, 0, none⟩)) rfl (by kernel_rfl) (by kernel_rfl) (by kernel_rfl) (fun _ _ _ h => h) (by kernel_rfl) (fun _ _ => rfl) HS ?_
        simp only [Act.put, List.setIfInBounds_toArray, List.set_cons_zero, List.set_cons_succ]
        refine hk_load (i := 1) (oi := ⟨some 14, .load _ _, _, _, _, _⟩) rfl (by kernel_rfl) (by kernel_rfl) (by kernel_rfl) (fun _ _ _ h => h) (by kernel_rfl) _ _ rfl rfl (fun _ h => h.2.2) Try.underlying57 rfl (by kernel_rfl) HS ?_
        simp only [Act.put, List.setIfInBounds_toArray, List.set_cons_zero, List.set_cons_succ]
        refine hk_call (i := 2) (oi := ⟨some 15, .call _, _, _, _, _⟩) (by kernel_rfl) rfl (by kernel_rfl) (by first | rfl | kernel_rfl) (HK.out _ HS.2.1) ?_
        rintro e w1 ⟨rfl, hb⟩
        have HS1 := HS.on hb
        refine ⟨_, rfl, HS1, ?_⟩
        clear HS hb
        simp only [Act.put, List.setIfInBounds_toArray, List.set_cons_zero, List.set_cons_succ]
        refine hk_val (i := 3) (oi := ⟨some 16, .move _, _, _, _, _⟩) (.bool true) rfl (by kernel_rfl) (by kernel_rfl) (by kernel_rfl) (fun _ _ _ h => h) (by kernel_rfl) (fun _ _ => rfl) HS1 ?_
        simp only [Act.put, List.setIfInBounds_toArray, List.set_cons_zero, List.set_cons_succ]
        refine hk_val (i := 4) (oi := ⟨some 17, .move _, _, _, _, _⟩) (.int .i64 2) rfl (by kernel_rfl) (by kernel_rfl) (by kernel_rfl) (fun _ _ _ h => h) (by kernel_rfl) (fun _ _ => rfl) HS1 ?_
        simp only [Act.put, List.setIfInBounds_toArray, List.set_cons_zero, List.set_cons_succ]
        refine hk_call (i := 5) (oi := ⟨some 18, .call _, _, _, _, _⟩) (by kernel_rfl) rfl (by kernel_rfl) (by first | rfl | kernel_rfl) (HT.out _) ?_
        rintro e w2 ⟨rfl, rfl⟩
        refine ⟨_, rfl, HS1, ?_⟩
        simp only [Act.put, List.setIfInBounds_toArray, List.set_cons_zero, List.set_cons_succ]
        refine hk_val (i := 6) (oi := ⟨some 19, .pick _ _ _, _, _, _, _⟩) (.bool true) rfl (by kernel_rfl) (by kernel_rfl) (by kernel_rfl) (fun _ _ _ h => h) (by kernel_rfl) (fun _ _ => rfl) HS1 ?_
        simp only [Act.put, List.setIfInBounds_toArray, List.set_cons_zero, List.set_cons_succ]
        refine hk_val (i := 7) (oi := ⟨some 20, .move _, _, _, _, _⟩) (.bool true) rfl (by kernel_rfl) (by kernel_rfl) (by kernel_rfl) (fun _ _ _ h => h) (by kernel_rfl) (fun _ _ => rfl) HS1 ?_
        simp only [Act.put, List.setIfInBounds_toArray, List.set_cons_zero, List.set_cons_succ]
        refine hk_val (i := 8) (oi := ⟨some 21, .move _, _, _, _, _⟩) (.pointer (some ⟨p.g, 0, none⟩)) rfl (by kernel_rfl) (by kernel_rfl) (by kernel_rfl) (fun _ _ _ h => h) (by kernel_rfl) (fun _ _ => rfl) HS1 ?_
        simp only [Act.put, List.setIfInBounds_toArray, List.set_cons_zero, List.set_cons_succ]
        refine hk_val (i := 9) (oi := ⟨some 22, .move _, _, _, _, _⟩) (.int .i64 2) rfl (by kernel_rfl) (by kernel_rfl) (by kernel_rfl) (fun _ _ _ h => h) (by kernel_rfl) (fun _ _ => rfl) HS1 ?_
        simp only [Act.put, List.setIfInBounds_toArray, List.set_cons_zero, List.set_cons_succ]
        refine hk_val (i := 10) (oi := ⟨some 23, .nilCheck _, _, _, _, _⟩) (.pointer (some ⟨p.g, 0, none⟩)) rfl (by kernel_rfl) (by kernel_rfl) (by kernel_rfl) (fun _ _ _ h => h) (by kernel_rfl) (fun _ _ => rfl) HS1 ?_
        simp only [Act.put, List.setIfInBounds_toArray, List.set_cons_zero, List.set_cons_succ]
        refine hk_val (i := 11) (oi := ⟨some 24, .fieldAddr _ _ _, _, _, _, _⟩) (.pointer (some ⟨p.g, 3, none⟩)) rfl (by kernel_rfl) (by kernel_rfl) (by kernel_rfl) (fun _ _ _ h => h) (by kernel_rfl) (fun _ _ => by kernel_rfl) HS1 ?_
        simp only [Act.put, List.setIfInBounds_toArray, List.set_cons_zero, List.set_cons_succ]
        refine hk_val (i := 12) (oi := ⟨some 25, .indexAddr _ _ _, _, _, _, _⟩) (.pointer (some ⟨p.g, 7, none⟩)) rfl (by kernel_rfl) (by kernel_rfl) (by kernel_rfl) (fun _ _ _ h => h) (by kernel_rfl) (fun _ _ => by kernel_rfl) HS1 ?_
        simp only [Act.put, List.setIfInBounds_toArray, List.set_cons_zero, List.set_cons_succ]
        refine hk_val (i := 13) (oi := ⟨some 26, .load _ _, _, _, _, _⟩) (.agg #[.int .i64 (s.r 4), .int .i64 (s.r 5)]) rfl (by kernel_rfl) (by kernel_rfl) (by kernel_rfl) (fun _ _ _ h => h) (by kernel_rfl) (fun x h => ex_load_mid [.int .i64 (s.r 4), .int .i64 (s.r 5)] rfl rfl h.2.1.head (pl_at s p 2) Try.underlying57 rfl (by kernel_rfl)) HS1 ?_
        simp only [Act.put, List.setIfInBounds_toArray, List.set_cons_zero, List.set_cons_succ]
        refine hk_load (i := 14) (oi := ⟨some 27, .load _ _, _, _, _, _⟩) rfl (by kernel_rfl) (by kernel_rfl) (by kernel_rfl) (fun _ _ _ h => h) (by kernel_rfl) _ _ rfl rfl (fun _ h => h.2.2) Try.underlying57 rfl (by kernel_rfl) HS1 ?_
        simp only [Act.put, List.setIfInBounds_toArray, List.set_cons_zero, List.set_cons_succ]
        refine hk_val (i := 15) (oi := ⟨some 28, .binOp _ _ _ _ _, _, _, _, _⟩) (.bool ((s.r 4 == a) && (s.r 5 == z))) rfl (by kernel_rfl) (by kernel_rfl) (by kernel_rfl) (fun _ _ _ h => h) (by kernel_rfl) (fun x _ => exec_cmp rfl (by kernel_rfl) rfl rfl (run_eql_pl _ _ _ _ x)) HS1 ?_
        simp only [Act.put, List.setIfInBounds_toArray, List.set_cons_zero, List.set_cons_succ]
        refine hk_val (i := 16) (oi := ⟨some 29, .pick _ _ _, _, _, _, _⟩) (.bool ((s.r 4 == a) && (s.r 5 == z))) rfl (by kernel_rfl) (by kernel_rfl) (by kernel_rfl) (fun _ _ _ h => h) (by kernel_rfl) (fun _ _ => rfl) HS1 ?_
        simp only [Act.put, List.setIfInBounds_toArray, List.set_cons_zero, List.set_cons_succ]
        refine hk_val (i := 17) (oi := ⟨some 8, .assign _, _, _, _, _⟩) (.bool ((s.r 4 == a) && (s.r 5 == z))) rfl (by kernel_rfl) (by kernel_rfl) (by kernel_rfl) (fun _ _ _ h => h) (by kernel_rfl) (fun _ _ => rfl) HS1 ?_
        simp only [Act.put, List.setIfInBounds_toArray, List.set_cons_zero, List.set_cons_succ]
        refine wpAnyH_done (by kernel_rfl) ?_ _
        go_wp2
        go_ret
        exact ⟨rfl, HS1.1⟩
end Go.Proofs.Yteoemjhhjnkkiaa
