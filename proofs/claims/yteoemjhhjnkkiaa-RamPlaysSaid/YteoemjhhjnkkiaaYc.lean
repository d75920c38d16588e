/- The document's memory: what is loaded; reservations. -/
import Derived.Test.YteoemjhhjnkkiaaYb
import Derived.Test.YteoemjhhjnkkiaaMb
set_option maxRecDepth 100000
set_option linter.unusedVariables false
namespace Go.Proofs.Yteoemjhhjnkkiaa
open Go.RowKit

/-! ### Reservations -/
theorem rr_set (va vl : Value) (r : Nat → Int) (h : Fin 3) (a z : Int) : ((rrCells va vl r).toList.take (2 + 4 * h.1) ++ [Value.int .i64 0, .int .i64 a, .int .i64 z, .int .u64 0] ++ (rrCells va vl r).toList.drop (2 + 4 * h.1 + [Value.int .i64 0, .int .i64 a, .int .i64 z, .int .u64 0].length)).toArray = rrCells va vl (setR h.1 a z r) := by
  match h with
  | 0 => rfl
  | 1 => rfl
  | 2 => rfl
theorem rres_store {P : Program} {w : World} {va vl : Value} {r : Nat → Int} {g : Nat} {t ty : TypeId} (hb : Blk (rrCells va vl r) t g w) (hz : (P.info? ty).map (·.size) = some 4) (h : Fin 3) (a z : Int) :
    ∃ w', (Instr.storeAt ty (.pointer (some ⟨g, 2 + 4 * h.1, none⟩)) (.agg #[.int .i64 0, .int .i64 a, .int .i64 z, .int .u64 0])).run P w = .ok () w' ∧ Blk (rrCells va vl (setR h.1 a z r)) t g w' ∧ Fr [g] w w' := by
  obtain ⟨w', e, b, k⟩ := hb.part (P := P) (2 + 4 * h.1) [.int .i64 0, .int .i64 a, .int .i64 z, .int .u64 0] (by have := h.2; show 2 + 4 * h.1 + 4 ≤ 14; omega) (by intro v hv; simp at hv; rcases hv with rfl | rfl | rfl | rfl <;> rfl)
  rw [rr_set] at b
  exact ⟨w', run_store_part (P := P) hz e, b, (Fr.refl [g] w).grown k (by intro i hi; left; simpa using hi.symm)⟩
theorem RrAt.res {s : Mst} {p : Plr} {w w' : World} {r : Nat → Int} (h : RrAt s p w) (b : Blk (rrCells p.va p.vl r) 63 p.g w') (k : Fr [p.g] w w') : RrAt ⟨s.b0, s.l, r⟩ p w' :=
  ⟨b, k.row h.byt fun i hi => by simpa using h.ap i hi, k.row h.log fun i hi => by simpa using (h.apl i hi).1, h.ap, h.apl⟩
theorem isHt_no {h : Int} (k : isHt h = false) : h < 0 ∨ (0 ≤ h ∧ 2 < h) := by
  unfold isHt at k
  simp at k
  omega
set_option maxHeartbeats 4000000 in
theorem rdrop_c {s : Mst} {p : Plr} {w : World} (h : RrAt s p w) (t : Int) : Calls Try.prog 15 #[.pointer (some ⟨p.g, 0, none⟩), .int .i64 t] w fun e w' => e = .returned (.tuple #[]) ∧ RrAt (droM s t) p w' ∧ Fr [p.g] w w' := by
  unfold droM
  cases hh : isHt t with
  | false =>
    have HR := Lib.hid h; clear h
    rcases isHt_no hh with h1 | ⟨h1, h2⟩
    all_goals
      clear hh
      go_enter Try.func15, Try.ntmps15
      go_wp2
      go_end0
      exact ⟨rfl, HR.out, Fr.refl _ _⟩
  | true =>
    rcases isHt_three hh with rfl | rfl | rfl
    · obtain ⟨w1, e1, b1, k1⟩ := rres_store (P := Try.prog) (ty := 31) h.head (by kernel_rfl) 0 0 0
      have HR := Lib.hid (h.res b1 k1); have HK := Lib.hid k1; clear h b1 k1 hh
      go_enter Try.func15, Try.ntmps15
      go_wp2_with (first
        | (with_reducible refine store_arm (o := ⟨none, .store _ (.tmp 15) (.tmp 12), _, _, _, _⟩) rfl 31 (.tmp 15) (.tmp 12) rfl rfl rfl e1 ?_))
      go_end0
      exact ⟨rfl, HR.out, HK.out⟩
    · obtain ⟨w1, e1, b1, k1⟩ := rres_store (P := Try.prog) (ty := 31) h.head (by kernel_rfl) 1 0 0
      have HR := Lib.hid (h.res b1 k1); have HK := Lib.hid k1; clear h b1 k1 hh
      go_enter Try.func15, Try.ntmps15
      go_wp2_with (first
        | (with_reducible refine store_arm (o := ⟨none, .store _ (.tmp 15) (.tmp 12), _, _, _, _⟩) rfl 31 (.tmp 15) (.tmp 12) rfl rfl rfl e1 ?_))
      go_end0
      exact ⟨rfl, HR.out, HK.out⟩
    · obtain ⟨w1, e1, b1, k1⟩ := rres_store (P := Try.prog) (ty := 31) h.head (by kernel_rfl) 2 0 0
      have HR := Lib.hid (h.res b1 k1); have HK := Lib.hid k1; clear h b1 k1 hh
      go_enter Try.func15, Try.ntmps15
      go_wp2_with (first
        | (with_reducible refine store_arm (o := ⟨none, .store _ (.tmp 15) (.tmp 12), _, _, _, _⟩) rfl 31 (.tmp 15) (.tmp 12) rfl rfl rfl e1 ?_))
      go_end0
      exact ⟨rfl, HR.out, HK.out⟩
set_option maxHeartbeats 8000000 in
theorem rreserve_c {s : Mst} {p : Plr} {w : World} (h : RrAt s p w) (hn : s.b0.length ≤ 1024) (t a z : Int) (ha : a ≤ 9223372036854775807) :
    Calls Try.prog 13 #[.pointer (some ⟨p.g, 0, none⟩), .int .i64 t, .int .i64 a, .int .i64 z] w fun e w' => e = .returned (.bool (mayP s.n a z && isHt t)) ∧ RrAt (resM s t a z) p w' ∧ Fr [p.g] w w' := by
  have hk := rmay_c h hn a z ha
  unfold resM
  cases hm : mayP s.n a z with
  | false =>
    rw [hm] at hk
    have HK := Lib.hid hk; have HR := Lib.hid h; clear hk hm h
    go_enter Try.func13, Try.ntmps13
    go_wp2_with (first
      | (go_at_call 17; refine HK.out.mono ?_; rintro e w2 ⟨rfl, rfl⟩))
    go_ret
    exact ⟨rfl, HR.out, Fr.refl _ _⟩
  | true =>
    rw [hm] at hk
    have HK := Lib.hid hk; clear hk hm
    cases hh : isHt t with
    | false =>
      have HR := Lib.hid h; clear h
      rcases isHt_no hh with h1 | ⟨h1, h2⟩
      all_goals
        clear hh
        go_enter Try.func13, Try.ntmps13
        go_wp2_with (first
          | (go_at_call 17; refine HK.out.mono ?_; rintro e w2 ⟨rfl, rfl⟩))
        go_ret
        exact ⟨rfl, HR.out, Fr.refl _ _⟩
    | true =>
      rcases isHt_three hh with rfl | rfl | rfl
      · obtain ⟨w1, e1, b1, k1⟩ := rres_store (P := Try.prog) (ty := 31) h.head (by kernel_rfl) 0 a z
        have HR := Lib.hid (h.res b1 k1); have HF := Lib.hid k1; clear h b1 k1 hh
        go_enter Try.func13, Try.ntmps13
        go_wp2_with (first
          | (go_at_call 17; refine HK.out.mono ?_; rintro e w2 ⟨rfl, rfl⟩)
          | (with_reducible refine store_arm (o := ⟨none, .store _ (.tmp 29) (.tmp 26), _, _, _, _⟩) rfl 31 (.tmp 29) (.tmp 26) rfl rfl rfl e1 ?_))
        go_ret
        exact ⟨rfl, HR.out, HF.out⟩
      · obtain ⟨w1, e1, b1, k1⟩ := rres_store (P := Try.prog) (ty := 31) h.head (by kernel_rfl) 1 a z
        have HR := Lib.hid (h.res b1 k1); have HF := Lib.hid k1; clear h b1 k1 hh
        go_enter Try.func13, Try.ntmps13
        go_wp2_with (first
          | (go_at_call 17; refine HK.out.mono ?_; rintro e w2 ⟨rfl, rfl⟩)
          | (with_reducible refine store_arm (o := ⟨none, .store _ (.tmp 29) (.tmp 26), _, _, _, _⟩) rfl 31 (.tmp 29) (.tmp 26) rfl rfl rfl e1 ?_))
        go_ret
        exact ⟨rfl, HR.out, HF.out⟩
      · obtain ⟨w1, e1, b1, k1⟩ := rres_store (P := Try.prog) (ty := 31) h.head (by kernel_rfl) 2 a z
        have HR := Lib.hid (h.res b1 k1); have HF := Lib.hid k1; clear h b1 k1 hh
        go_enter Try.func13, Try.ntmps13
        go_wp2_with (first
          | (go_at_call 17; refine HK.out.mono ?_; rintro e w2 ⟨rfl, rfl⟩)
          | (with_reducible refine store_arm (o := ⟨none, .store _ (.tmp 29) (.tmp 26), _, _, _, _⟩) rfl 31 (.tmp 29) (.tmp 26) rfl rfl rfl e1 ?_))
        go_ret
        exact ⟨rfl, HR.out, HF.out⟩
set_option maxHeartbeats 8000000 in
theorem rhas_c {s : Mst} {p : Plr} {w : World} (h : RrAt s p w) (hn : s.b0.length ≤ 1024) (t a z : Int) (ha : a ≤ 9223372036854775807) :
    Calls Try.prog 21 #[.pointer (some ⟨p.g, 0, none⟩), .int .i64 t, .int .i64 a, .int .i64 z] w fun e w' => e = .returned (.bool (helM s t a z)) ∧ w = w' := by
  have hk := rmay_c h hn a z ha
  unfold helM
  cases hm : mayP s.n a z with
  | false =>
    rw [hm] at hk
    have HK := Lib.hid hk; clear hk hm h
    go_enter Try.func21, Try.ntmps21
    go_wp2_with (first
      | (go_at_call 17; refine HK.out.mono ?_; rintro e w2 ⟨rfl, rfl⟩))
    go_ret
    exact ⟨rfl, rfl⟩
  | true =>
    rw [hm] at hk
    have HK := Lib.hid hk; clear hk hm
    cases hh : isHt t with
    | false =>
      clear h
      rcases isHt_no hh with h1 | ⟨h1, h2⟩
      all_goals
        clear hh
        go_enter Try.func21, Try.ntmps21
        go_wp2_with (first
          | (go_at_call 17; refine HK.out.mono ?_; rintro e w2 ⟨rfl, rfl⟩))
        go_ret
        exact ⟨rfl, rfl⟩
    | true =>
      rcases isHt_three hh with rfl | rfl | rfl
      · clear hh
        have c1 : w.cell? ⟨p.g, 3, none⟩ = some (.int .i64 (s.r 0)) := h.head.cell 3
        have c2 : w.cell? ⟨p.g, 4, none⟩ = some (.int .i64 (s.r 1)) := h.head.cell 4
        clear h
        show Calls _ _ _ _ (fun e w' => e = .returned (.bool (true && (true && ((s.r 0 == a) && (s.r 1 == z))))) ∧ w = w')
        cases e1 : (s.r 1 == z)
        · rw [Bool.and_false, Bool.and_false, Bool.and_false]
          go_enter Try.func21, Try.ntmps21
          go_wp2_with (first
            | (go_at_call 17; refine HK.out.mono ?_; rintro e w2 ⟨rfl, rfl⟩))
          go_ret
          exact ⟨rfl, rfl⟩
        · rw [Bool.and_true, Bool.true_and, Bool.true_and]
          go_enter Try.func21, Try.ntmps21
          go_wp2_with (first
            | (go_at_call 17; refine HK.out.mono ?_; rintro e w2 ⟨rfl, rfl⟩))
          go_ret
          exact ⟨rfl, rfl⟩
      · clear hh
        have c1 : w.cell? ⟨p.g, 7, none⟩ = some (.int .i64 (s.r 2)) := h.head.cell 7
        have c2 : w.cell? ⟨p.g, 8, none⟩ = some (.int .i64 (s.r 3)) := h.head.cell 8
        clear h
        show Calls _ _ _ _ (fun e w' => e = .returned (.bool (true && (true && ((s.r 2 == a) && (s.r 3 == z))))) ∧ w = w')
        cases e1 : (s.r 3 == z)
        · rw [Bool.and_false, Bool.and_false, Bool.and_false]
          go_enter Try.func21, Try.ntmps21
          go_wp2_with (first
            | (go_at_call 17; refine HK.out.mono ?_; rintro e w2 ⟨rfl, rfl⟩))
          go_ret
          exact ⟨rfl, rfl⟩
        · rw [Bool.and_true, Bool.true_and, Bool.true_and]
          go_enter Try.func21, Try.ntmps21
          go_wp2_with (first
            | (go_at_call 17; refine HK.out.mono ?_; rintro e w2 ⟨rfl, rfl⟩))
          go_ret
          exact ⟨rfl, rfl⟩
      · clear hh
        have c1 : w.cell? ⟨p.g, 11, none⟩ = some (.int .i64 (s.r 4)) := h.head.cell 11
        have c2 : w.cell? ⟨p.g, 12, none⟩ = some (.int .i64 (s.r 5)) := h.head.cell 12
        clear h
        show Calls _ _ _ _ (fun e w' => e = .returned (.bool (true && (true && ((s.r 4 == a) && (s.r 5 == z))))) ∧ w = w')
        cases e1 : (s.r 5 == z)
        · rw [Bool.and_false, Bool.and_false, Bool.and_false]
          go_enter Try.func21, Try.ntmps21
          go_wp2_with (first
            | (go_at_call 17; refine HK.out.mono ?_; rintro e w2 ⟨rfl, rfl⟩))
          go_ret
          exact ⟨rfl, rfl⟩
        · rw [Bool.and_true, Bool.true_and, Bool.true_and]
          go_enter Try.func21, Try.ntmps21
          go_wp2_with (first
            | (go_at_call 17; refine HK.out.mono ?_; rintro e w2 ⟨rfl, rfl⟩))
          go_ret
          exact ⟨rfl, rfl⟩
end Go.Proofs.Yteoemjhhjnkkiaa
