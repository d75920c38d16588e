/- The shared memory: reservations are given, dropped, ended. -/
import Derived.Test.YteoemjhhjnkkiaaMa
set_option maxRecDepth 100000
set_option linter.unusedVariables false
namespace Go.Proofs.Yteoemjhhjnkkiaa
open Go.RowKit

/-- Some cells are written over, in the midst of a block that is known whole. -/
theorem Blk.part {P : Program} {w : World} {ds : Array Value} {t : TypeId} {g : Nat} (hb : Blk ds t g w) (k : Nat) (cs : List Value) (hk : k + cs.length ≤ ds.size) (h1 : ∀ v ∈ cs, v.oneCell' = true) :
    ∃ w', (storeCells ⟨g, k, none⟩ cs 0).run P w = .ok () w' ∧ Blk (ds.toList.take k ++ cs ++ ds.toList.drop (k + cs.length)).toArray t g w' ∧ w.grownBy w' (some g) := by
  have hr := run_storeCells_at (P := P) g k t cs 0 ds w hb (by simpa using hk) h1
  simp only [Nat.add_zero] at hr
  exact ⟨_, hr, setRow_heap w g ds _ _ _ hb, ⟨rfl, rfl, rfl, by simp, fun j _ hj => setRow_other w g j _ (fun e => hj (by rw [e]))⟩⟩
theorem run_store_part {P : Program} {w w' : World} {ty : TypeId} {ad : Addr} {cs : List Value} (hz : (P.info? ty).map (·.size) = some cs.length) (h : (storeCells ad cs 0).run P w = .ok () w') : (Instr.storeAt ty (.pointer (some ad)) (.agg cs.toArray)).run P w = .ok () w' := by
  have h2 : (storeVar ty ad (.agg cs.toArray)).run P w = .ok () w' := by
    rw [← h]
    cases hq : P.info? ty with
    | none => simp [hq] at hz
    | some i =>
      have hs : i.size = cs.length := by simpa [hq] using hz
      simp [storeVar, sizeOf, typeInfo, hq, hs, Sem.run_bind, show (Value.agg cs.toArray).cells = cs.toArray from rfl]
  simp only [Instr.storeAt, Instr.sureAddr, Sem.run_bind, Sem.run_pure, Result.andThen_ok, h2]
theorem ram_set (vb vt vl : Value) (r : Nat → Int) (h : Fin 3) (a z : Int) : ((ramCells vb vt vl r).toList.take (3 + 2 * h.1) ++ [Value.int .i64 a, Value.int .i64 z] ++ (ramCells vb vt vl r).toList.drop (3 + 2 * h.1 + [Value.int .i64 a, Value.int .i64 z].length)).toArray = ramCells vb vt vl (setR h.1 a z r) := by
  match h with
  | 0 => rfl
  | 1 => rfl
  | 2 => rfl
/-- A reservation is written over. -/
theorem res_store {P : Program} {w : World} {vb vt vl : Value} {r : Nat → Int} {g : Nat} {t ty : TypeId} (hb : Blk (ramCells vb vt vl r) t g w) (hz : (P.info? ty).map (·.size) = some 2) (h : Fin 3) (a z : Int) :
    ∃ w', (Instr.storeAt ty (.pointer (some ⟨g, 3 + 2 * h.1, none⟩)) (.agg #[.int .i64 a, .int .i64 z])).run P w = .ok () w' ∧ Blk (ramCells vb vt vl (setR h.1 a z r)) t g w' ∧ Fr [g] w w' := by
  obtain ⟨w', e, b, k⟩ := hb.part (P := P) (3 + 2 * h.1) [.int .i64 a, .int .i64 z] (by have := h.2; show 3 + 2 * h.1 + 2 ≤ 9; omega) (by intro v hv; simp at hv; rcases hv with rfl | rfl <;> rfl)
  rw [ram_set] at b
  exact ⟨w', run_store_part (P := P) hz e, b, (Fr.refl [g] w).grown k (by intro i hi; left; simpa using hi.symm)⟩
theorem RamAt.res {s : Mst} {p : Pla} {w w' : World} {r : Nat → Int} (h : RamAt s p w) (b : Blk (ramCells (.slice p.Ab s.b0.length p.cb) (.slice p.At s.b0.length p.ct) p.vl r) 60 p.g w') (k : Fr [p.g] w w') : RamAt ⟨s.b0, s.l, r⟩ p w' := by
  refine ⟨b, h.cap, h.nil, ?_, k.row h.log fun i hi => by simpa using (h.apart i hi).1, h.apart⟩
  rcases h.bytes with h4 | ⟨a, b, c, d, e, e2, e3⟩
  · exact .inl h4
  · exact .inr ⟨a, b, c.fr k (by simpa using e), d.fr k (by simpa using e2), e, e2, e3⟩
/-- An arm of the walk: a store that is known. -/
theorem store_arm {P : Program} {ops : Array Oper} {Q : Exit → Act → World → Prop} {rest : List Oper} {o : Oper} {a : Act} {w w' : World} {ad : Addr} {v : Value} (hgd : o.guard = none) (ty : TypeId) (x y : Operand) (ho : o.op = .store ty x y) (hx : a.eval x = .pointer (some ad)) (hy : a.eval y = v)
    (hr : (Instr.storeAt ty (.pointer (some ad)) v).run P w = .ok () w') (hk : wpList P ops Q rest (a.put o.dst undef) w') : wpList P ops Q (o :: rest) a w :=
  wpList_plain hgd fun _ hK => by
    unfold Oper.wp execOp
    simp only [ho, hx, hy, Sem.run_bind, Sem.run_pure, Result.andThen_ok, hr, Oper.upon_skip]
    exact hK _ _ hk

theorem drop_nil (t : Int) (w : World) : Calls Try.prog 14 #[.pointer none, .int .i64 t] w fun e w' => e = .returned (.tuple #[]) ∧ w = w' := by
  go_enter Try.func14, Try.ntmps14
  go_wp2
  go_end0
  exact ⟨rfl, rfl⟩
set_option maxHeartbeats 2000000 in
theorem drop_c {s : Mst} {p : Pla} {w : World} (h : RamAt s p w) (t : Int) :
    Calls Try.prog 14 #[.pointer (some ⟨p.g, 0, none⟩), .int .i64 t] w fun e w' => e = .returned (.tuple #[]) ∧ RamAt (droM s t) p w' ∧ Fr [p.g] w w' := by
  have ht := isHart_any t
  unfold droM
  cases hh : isHt t with
  | false =>
    rw [hh] at ht
    have HT := Lib.hid ht; clear ht hh
    have HR := h; clear h
    go_enter Try.func14, Try.ntmps14
    go_wp2_with (first
      | (go_at_call 30; refine (HT.out _).mono ?_; rintro e w2 ⟨rfl, rfl⟩))
    go_end0
    exact ⟨rfl, HR, Fr.refl _ _⟩
  | true =>
    rw [hh] at ht
    have HT := Lib.hid ht; clear ht
    rcases isHt_three hh with rfl | rfl | rfl
    · obtain ⟨w1, e1, b1, k1⟩ := res_store (P := Try.prog) (ty := 57) h.head (by kernel_rfl) 0 0 0
      have HR := Lib.hid (h.res b1 k1); have HK := Lib.hid k1; clear h b1 k1 hh
      go_enter Try.func14, Try.ntmps14
      go_wp2_with (first
        | (go_at_call 30; refine (HT.out _).mono ?_; rintro e w2 ⟨rfl, rfl⟩)
        | (with_reducible refine store_arm (o := ⟨none, .store _ (.tmp 15) (.tmp 12), _, _, _, _⟩) rfl 57 (.tmp 15) (.tmp 12) rfl rfl rfl e1 ?_))
      go_end0
      exact ⟨rfl, HR.out, HK.out⟩
    · obtain ⟨w1, e1, b1, k1⟩ := res_store (P := Try.prog) (ty := 57) h.head (by kernel_rfl) 1 0 0
      have HR := Lib.hid (h.res b1 k1); have HK := Lib.hid k1; clear h b1 k1 hh
      go_enter Try.func14, Try.ntmps14
      go_wp2_with (first
        | (go_at_call 30; refine (HT.out _).mono ?_; rintro e w2 ⟨rfl, rfl⟩)
        | (with_reducible refine store_arm (o := ⟨none, .store _ (.tmp 15) (.tmp 12), _, _, _, _⟩) rfl 57 (.tmp 15) (.tmp 12) rfl rfl rfl e1 ?_))
      go_end0
      exact ⟨rfl, HR.out, HK.out⟩
    · obtain ⟨w1, e1, b1, k1⟩ := res_store (P := Try.prog) (ty := 57) h.head (by kernel_rfl) 2 0 0
      have HR := Lib.hid (h.res b1 k1); have HK := Lib.hid k1; clear h b1 k1 hh
      go_enter Try.func14, Try.ntmps14
      go_wp2_with (first
        | (go_at_call 30; refine (HT.out _).mono ?_; rintro e w2 ⟨rfl, rfl⟩)
        | (with_reducible refine store_arm (o := ⟨none, .store _ (.tmp 15) (.tmp 12), _, _, _, _⟩) rfl 57 (.tmp 15) (.tmp 12) rfl rfl rfl e1 ?_))
      go_end0
      exact ⟨rfl, HR.out, HK.out⟩
theorem reserve_nil (t a z : Int) (w : World) : Calls Try.prog 12 #[.pointer none, .int .i64 t, .int .i64 a, .int .i64 z] w fun e w' => e = .returned (.bool false) ∧ BW w w' := by
  have hk := has_nil a z
  have HK := Lib.hid hk; clear hk
  go_enter Try.func12, Try.ntmps12
  go_wp2_with (first
    | (go_at_call 29; refine (HK.out _).mono ?_; rintro e w1 ⟨rfl, hb⟩))
  go_ret
  exact ⟨rfl, (BW.new (Below.refl _ _) _).on hb⟩
theorem SP.start0 {s : Mst} {p : Pla} {w : World} (h : RamAt s p w) (a z : Int) : SP s p a z w (w.alloc (.cells #[.int .i64 a, .int .i64 z] 57)) :=
  ⟨BW.new (Below.refl _ _) _, h.on (BW.new (Below.refl _ _) _), Blk.new _ _ _⟩
theorem SP.drew {s : Mst} {p : Pla} {a z : Int} {w x : World} (h : SP s p a z w x) : SP s p a z w x.drew := h.on (Below.drew (Below.refl _ _))
set_option maxHeartbeats 4000000 in
theorem reserve_c {s : Mst} {p : Pla} {w : World} (h : RamAt s p w) (hn : s.b0.length ≤ 1024) (t a z : Int) (ha : a ≤ 9223372036854775807) :
    Calls Try.prog 12 #[.pointer (some ⟨p.g, 0, none⟩), .int .i64 t, .int .i64 a, .int .i64 z] w fun e w' => e = .returned (.bool (mayP s.n a z && isHt t)) ∧ RamAt (resM s t a z) p w' ∧ Fr [p.g] w w' := by
  have hk := fun (x : World) (hx : RamAt s p x) => has_c hx hn a z ha
  have ht := isHart_any t
  have HS := SP.start0 h a z
  clear h
  unfold resM
  cases hm : mayP s.n a z with
  | false =>
    rw [hm] at hk
    have HK := Lib.hid hk; clear hk hm ht
    go_enter Try.func12, Try.ntmps12
    go_wp2_with (first
      | (go_at_call 29; refine (HK.out _ HS.2.1).mono ?_; rintro e w1 ⟨rfl, hb⟩; have HS1 := HS.on hb; clear hb))
    go_ret
    exact ⟨rfl, HS1.2.1, Fr.of _ HS1.1⟩
  | true =>
    rw [hm] at hk
    have HK := Lib.hid hk; clear hk hm
    cases hh : isHt t with
    | false =>
      rw [hh] at ht
      have HT := Lib.hid ht; clear ht hh
      go_enter Try.func12, Try.ntmps12
      go_wp2_with (first
        | (go_at_call 29; refine (HK.out _ HS.2.1).mono ?_; rintro e w1 ⟨rfl, hb⟩; have HS1 := HS.on hb; clear hb)
        | (go_at_call 30; refine (HT.out _).mono ?_; rintro e w2 ⟨rfl, rfl⟩))
      go_ret
      exact ⟨rfl, HS1.2.1, Fr.of _ HS1.1⟩
    | true =>
      rw [hh] at ht
      have HT := Lib.hid ht; clear ht
      rcases isHt_three hh with rfl | rfl | rfl
      · clear hh
        go_enter Try.func12, Try.ntmps12
        go_wp2_with (first
              | (go_at_call 29; refine (HK.out _ HS.2.1).mono ?_; rintro e w1 ⟨rfl, hb⟩; have HS1 := HS.on hb; clear hb)
              | (go_at_call 30; refine (HT.out _).mono ?_; rintro e w2 ⟨rfl, rfl⟩))
        have HS2 := HS1.drew
        refine wp_region_P (S := SP s p a z w) (c := 6) (by kernel_rfl) ?_
        change wpAnyP _ _ _ _ _ _ _ _ _ (World.drew _)
        generalize World.drew _ = w4 at *
        clear HS1
        refine hp_val (i := 0) (oi := ⟨some 22, .move _, _, _, _, _⟩) [6] (.pointer (some ⟨p.g, 0, none⟩)) rfl (by kernel_rfl) (by kernel_rfl) (by kernel_rfl) (by kernel_rfl) (by kernel_rfl) rfl (fun _ _ _ h => h) (by kernel_rfl) (fun _ _ => rfl) HS2 ?_
        simp only [Act.put, List.setIfInBounds_toArray, List.set_cons_zero, List.set_cons_succ]
        refine hp_val (i := 1) (oi := ⟨some 23, .move _, _, _, _, _⟩) [6] (.int .i64 0) rfl (by kernel_rfl) (by kernel_rfl) (by kernel_rfl) (by kernel_rfl) (by kernel_rfl) rfl (fun _ _ _ h => h) (by kernel_rfl) (fun _ _ => rfl) HS2 ?_
        simp only [Act.put, List.setIfInBounds_toArray, List.set_cons_zero, List.set_cons_succ]
        refine hp_load (i := 2) (oi := ⟨some 24, .load _ _, _, _, _, _⟩) [6] rfl (by kernel_rfl) (by kernel_rfl) (by kernel_rfl) (by kernel_rfl) (by kernel_rfl) rfl (fun _ _ _ h => h) (by kernel_rfl) _ _ rfl rfl (fun _ h => h.2.2) Try.underlying57 rfl (by kernel_rfl) HS2 ?_
        simp only [Act.put, List.setIfInBounds_toArray, List.set_cons_zero, List.set_cons_succ]
        refine hp_val (i := 3) (oi := ⟨some 25, .nilCheck _, _, _, _, _⟩) [4, 5, 6] (.pointer (some ⟨p.g, 0, none⟩)) rfl (by kernel_rfl) (by kernel_rfl) (by kernel_rfl) (by kernel_rfl) (by kernel_rfl) rfl (fun _ _ _ h => h) (by kernel_rfl) (fun _ _ => rfl) HS2 ?_
        simp only [Act.put, List.setIfInBounds_toArray, List.set_cons_zero, List.set_cons_succ]
        refine hp_val (i := 4) (oi := ⟨some 26, .fieldAddr _ _ _, _, _, _, _⟩) [5, 6] (.pointer (some ⟨p.g, 3, none⟩)) rfl (by kernel_rfl) (by kernel_rfl) (by kernel_rfl) (by kernel_rfl) (by kernel_rfl) rfl (fun _ _ _ h => h) (by kernel_rfl) (fun _ _ => by kernel_rfl) HS2 ?_
        simp only [Act.put, List.setIfInBounds_toArray, List.set_cons_zero, List.set_cons_succ]
        refine hp_val (i := 5) (oi := ⟨some 27, .indexAddr _ _ _, _, _, _, _⟩) [6] (.pointer (some ⟨p.g, 3, none⟩)) rfl (by kernel_rfl) (by kernel_rfl) (by kernel_rfl) (by kernel_rfl) (by kernel_rfl) rfl (fun _ _ _ h => h) (by kernel_rfl) (fun _ _ => by kernel_rfl) HS2 ?_
        simp only [Act.put, List.setIfInBounds_toArray, List.set_cons_zero, List.set_cons_succ]
        refine hp_last (i := 6) (oi := ⟨none, .store _ _ _, _, _, _, _⟩) (by kernel_rfl) rfl (by kernel_rfl) (by kernel_rfl) ?_
        obtain ⟨w3, e3, b3, k3⟩ := res_store (P := Try.prog) (ty := 57) HS2.2.1.head (by kernel_rfl) 0 a z
        refine wp_store_cell rfl rfl rfl rfl e3 ?_
        refine wpAnyH_done (by kernel_rfl) ?_ _
        have HR := Lib.hid (HS2.2.1.res b3 k3); have HF := Lib.hid ((Fr.of [p.g] HS2.1).trans k3 (fun i hi => .inl hi)); clear HS2 b3 k3 e3
        go_wp2
        go_ret
        exact ⟨rfl, HR.out, HF.out⟩
      · clear hh
        go_enter Try.func12, Try.ntmps12
        go_wp2_with (first
              | (go_at_call 29; refine (HK.out _ HS.2.1).mono ?_; rintro e w1 ⟨rfl, hb⟩; have HS1 := HS.on hb; clear hb)
              | (go_at_call 30; refine (HT.out _).mono ?_; rintro e w2 ⟨rfl, rfl⟩))
        have HS2 := HS1.drew
        refine wp_region_P (S := SP s p a z w) (c := 6) (by kernel_rfl) ?_
        change wpAnyP _ _ _ _ _ _ _ _ _ (World.drew _)
        generalize World.drew _ = w4 at *
        clear HS1
        refine hp_val (i := 0) (oi := ⟨some 22, .move _, _, _, _, _⟩) [6] (.pointer (some ⟨p.g, 0, none⟩)) rfl (by kernel_rfl) (by kernel_rfl) (by kernel_rfl) (by kernel_rfl) (by kernel_rfl) rfl (fun _ _ _ h => h) (by kernel_rfl) (fun _ _ => rfl) HS2 ?_
        simp only [Act.put, List.setIfInBounds_toArray, List.set_cons_zero, List.set_cons_succ]
        refine hp_val (i := 1) (oi := ⟨some 23, .move _, _, _, _, _⟩) [6] (.int .i64 1) rfl (by kernel_rfl) (by kernel_rfl) (by kernel_rfl) (by kernel_rfl) (by kernel_rfl) rfl (fun _ _ _ h => h) (by kernel_rfl) (fun _ _ => rfl) HS2 ?_
        simp only [Act.put, List.setIfInBounds_toArray, List.set_cons_zero, List.set_cons_succ]
        refine hp_load (i := 2) (oi := ⟨some 24, .load _ _, _, _, _, _⟩) [6] rfl (by kernel_rfl) (by kernel_rfl) (by kernel_rfl) (by kernel_rfl) (by kernel_rfl) rfl (fun _ _ _ h => h) (by kernel_rfl) _ _ rfl rfl (fun _ h => h.2.2) Try.underlying57 rfl (by kernel_rfl) HS2 ?_
        simp only [Act.put, List.setIfInBounds_toArray, List.set_cons_zero, List.set_cons_succ]
        refine hp_val (i := 3) (oi := ⟨some 25, .nilCheck _, _, _, _, _⟩) [4, 5, 6] (.pointer (some ⟨p.g, 0, none⟩)) rfl (by kernel_rfl) (by kernel_rfl) (by kernel_rfl) (by kernel_rfl) (by kernel_rfl) rfl (fun _ _ _ h => h) (by kernel_rfl) (fun _ _ => rfl) HS2 ?_
        simp only [Act.put, List.setIfInBounds_toArray, List.set_cons_zero, List.set_cons_succ]
        refine hp_val (i := 4) (oi := ⟨some 26, .fieldAddr _ _ _, _, _, _, _⟩) [5, 6] (.pointer (some ⟨p.g, 3, none⟩)) rfl (by kernel_rfl) (by kernel_rfl) (by kernel_rfl) (by kernel_rfl) (by kernel_rfl) rfl (fun _ _ _ h => h) (by kernel_rfl) (fun _ _ => by kernel_rfl) HS2 ?_
        simp only [Act.put, List.setIfInBounds_toArray, List.set_cons_zero, List.set_cons_succ]
        refine hp_val (i := 5) (oi := ⟨some 27, .indexAddr _ _ _, _, _, _, _⟩) [6] (.pointer (some ⟨p.g, 5, none⟩)) rfl (by kernel_rfl) (by kernel_rfl) (by kernel_rfl) (by kernel_rfl) (by kernel_rfl) rfl (fun _ _ _ h => h) (by kernel_rfl) (fun _ _ => by kernel_rfl) HS2 ?_
        simp only [Act.put, List.setIfInBounds_toArray, List.set_cons_zero, List.set_cons_succ]
        refine hp_last (i := 6) (oi := ⟨none, .store _ _ _, _, _, _, _⟩) (by kernel_rfl) rfl (by kernel_rfl) (by kernel_rfl) ?_
        obtain ⟨w3, e3, b3, k3⟩ := res_store (P := Try.prog) (ty := 57) HS2.2.1.head (by kernel_rfl) 1 a z
        refine wp_store_cell rfl rfl rfl rfl e3 ?_
        refine wpAnyH_done (by kernel_rfl) ?_ _
        have HR := Lib.hid (HS2.2.1.res b3 k3); have HF := Lib.hid ((Fr.of [p.g] HS2.1).trans k3 (fun i hi => .inl hi)); clear HS2 b3 k3 e3
        go_wp2
        go_ret
        exact ⟨rfl, HR.out, HF.out⟩
      · clear hh
        go_enter Try.func12, Try.ntmps12
        go_wp2_with (first
              | (go_at_call 29; refine (HK.out _ HS.2.1).mono ?_; rintro e w1 ⟨rfl, hb⟩; have HS1 := HS.on hb; clear hb)
              | (go_at_call 30; refine (HT.out _).mono ?_; rintro e w2 ⟨rfl, rfl⟩))
        have HS2 := HS1.drew
        refine wp_region_P (S := SP s p a z w) (c := 6) (by kernel_rfl) ?_
        change wpAnyP _ _ _ _ _ _ _ _ _ (World.drew _)
        generalize World.drew _ = w4 at *
        clear HS1
        refine hp_val (i := 0) (oi := ⟨some 22, .move _, _, _, _, _⟩) [6] (.pointer (some ⟨p.g, 0, none⟩)) rfl (by kernel_rfl) (by kernel_rfl) (by kernel_rfl) (by kernel_rfl) (by kernel_rfl) rfl (fun _ _ _ h => h) (by kernel_rfl) (fun _ _ => rfl) HS2 ?_
        simp only [Act.put, List.setIfInBounds_toArray, List.set_cons_zero, List.set_cons_succ]
        refine hp_val (i := 1) (oi := ⟨some 23, .move _, _, _, _, _⟩) [6] (.int .i64 2) rfl (by kernel_rfl) (by kernel_rfl) (by kernel_rfl) (by kernel_rfl) (by kernel_rfl) rfl (fun _ _ _ h => h) (by kernel_rfl) (fun _ _ => rfl) HS2 ?_
        simp only [Act.put, List.setIfInBounds_toArray, List.set_cons_zero, List.set_cons_succ]
        refine hp_load (i := 2) (oi := ⟨some 24, .load _ _, _, _, _, _⟩) [6] rfl (by kernel_rfl) (by kernel_rfl) (by kernel_rfl) (by kernel_rfl) (by kernel_rfl) rfl (fun _ _ _ h => h) (by kernel_rfl) _ _ rfl rfl (fun _ h => h.2.2) Try.underlying57 rfl (by kernel_rfl) HS2 ?_
        simp only [Act.put, List.setIfInBounds_toArray, List.set_cons_zero, List.set_cons_succ]
        refine hp_val (i := 3) (oi := ⟨some 25, .nilCheck _, _, _, _, _⟩) [4, 5, 6] (.pointer (some ⟨p.g, 0, none⟩)) rfl (by kernel_rfl) (by kernel_rfl) (by kernel_rfl) (by kernel_rfl) (by kernel_rfl) rfl (fun _ _ _ h => h) (by kernel_rfl) (fun _ _ => rfl) HS2 ?_
        simp only [Act.put, List.setIfInBounds_toArray, List.set_cons_zero, List.set_cons_succ]
        refine hp_val (i := 4) (oi := ⟨some 26, .fieldAddr _ _ _, _, _, _, _⟩) [5, 6] (.pointer (some ⟨p.g, 3, none⟩)) rfl (by kernel_rfl) (by kernel_rfl) (by kernel_rfl) (by kernel_rfl) (by kernel_rfl) rfl (fun _ _ _ h => h) (by kernel_rfl) (fun _ _ => by kernel_rfl) HS2 ?_
        simp only [Act.put, List.setIfInBounds_toArray, List.set_cons_zero, List.set_cons_succ]
        refine hp_val (i := 5) (oi := ⟨some 27, .indexAddr _ _ _, _, _, _, _⟩) [6] (.pointer (some ⟨p.g, 7, none⟩)) rfl (by kernel_rfl) (by kernel_rfl) (by kernel_rfl) (by kernel_rfl) (by kernel_rfl) rfl (fun _ _ _ h => h) (by kernel_rfl) (fun _ _ => by kernel_rfl) HS2 ?_
        simp only [Act.put, List.setIfInBounds_toArray, List.set_cons_zero, List.set_cons_succ]
        refine hp_last (i := 6) (oi := ⟨none, .store _ _ _, _, _, _, _⟩) (by kernel_rfl) rfl (by kernel_rfl) (by kernel_rfl) ?_
        obtain ⟨w3, e3, b3, k3⟩ := res_store (P := Try.prog) (ty := 57) HS2.2.1.head (by kernel_rfl) 2 a z
        refine wp_store_cell rfl rfl rfl rfl e3 ?_
        refine wpAnyH_done (by kernel_rfl) ?_ _
        have HR := Lib.hid (HS2.2.1.res b3 k3); have HF := Lib.hid ((Fr.of [p.g] HS2.1).trans k3 (fun i hi => .inl hi)); clear HS2 b3 k3 e3
        go_wp2
        go_ret
        exact ⟨rfl, HR.out, HF.out⟩
end Go.Proofs.Yteoemjhhjnkkiaa
