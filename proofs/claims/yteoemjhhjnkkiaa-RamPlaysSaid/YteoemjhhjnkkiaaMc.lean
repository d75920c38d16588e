/- The shared memory: the reservations of others end. -/
import Derived.Test.YteoemjhhjnkkiaaMb
import Derived.Deep.MidRow
set_option maxRecDepth 100000
set_option linter.unusedVariables false
namespace Go.Proofs.Yteoemjhhjnkkiaa
open Go.RowKit

/-- The first k harts' reservations have been looked at. -/
def endK (t a z : Int) (r : Nat → Int) (k : Nat) : Nat → Int := fun j => if j / 2 < k then endR t a z r j else r j
theorem endK_zero (t a z : Int) (r : Nat → Int) : endK t a z r 0 = r := by
  funext j
  unfold endK
  rw [if_neg (by omega)]
theorem endK_three (vb vt vl : Value) (t a z : Int) (r : Nat → Int) : ramCells vb vt vl (endK t a z r 3) = ramCells vb vt vl (endR t a z r) := rfl
theorem endK_same (t a z : Int) (r : Nat → Int) (k : Nat) (h : (k : Int) = t ∨ ovl (r (2 * k)) (r (2 * k + 1)) a z = false) : endK t a z r (k + 1) = endK t a z r k := by
  funext j
  unfold endK
  by_cases h1 : j / 2 < k
  · rw [if_pos h1, if_pos (by omega)]
  · rw [if_neg h1]
    by_cases h2 : j / 2 = k
    · rw [if_pos (by omega)]
      unfold endR
      rw [h2, if_neg]
      rcases h with h | h
      · exact fun x => x.1 h
      · rw [h]; exact fun x => by cases x.2
    · rw [if_neg (by omega)]
theorem endK_set (t a z : Int) (r : Nat → Int) (k : Nat) (h : (k : Int) ≠ t) (h2 : ovl (r (2 * k)) (r (2 * k + 1)) a z = true) : setR k 0 0 (endK t a z r k) = endK t a z r (k + 1) := by
  funext j
  by_cases h1 : j / 2 = k
  · have e1 : endK t a z r (k + 1) j = 0 := by
      unfold endK endR
      rw [if_pos (by omega), h1, if_pos ⟨h, h2⟩]
    have e2 : ∀ f, setR k 0 0 f j = 0 := fun f => by
      unfold setR
      split
      · rfl
      · rw [if_pos (by omega)]
    rw [e1, e2]
  · have e1 : endK t a z r (k + 1) j = endK t a z r k j := by
      unfold endK
      by_cases h3 : j / 2 < k
      · rw [if_pos h3, if_pos (by omega)]
      · rw [if_neg h3, if_neg (by omega)]
    have e2 : ∀ f, setR k 0 0 f j = f j := fun f => by
      unfold setR
      rw [if_neg (by omega), if_neg (by omega)]
    rw [e1, e2]
/-- An arm of the walk: some cells of a block that is known whole are loaded. -/
theorem load_mid {P : Program} {ops : Array Oper} {Q : Exit → Act → World → Prop} {rest : List Oper} {o : Oper} {a : Act} {w : World} {ds : Array Value} {t : TypeId} {g : Nat} (hgd : o.guard = none) (ty : TypeId) (x : Operand) (ho : o.op = .load ty x) (k : Nat) (hx : a.eval x = .pointer (some ⟨g, k, none⟩)) (hb : Blk ds t g w)
    (cs : List Value) (hc : ∀ j v, cs[j]? = some v → ds[k + j]? = some v) {d : TypeDesc} (hu : P.underlying ty = some d) (hd : d.isRow = true) (hi : (P.info? ty).map (·.size) = some cs.length)
    (h : wpList P ops Q rest (a.put o.dst (.agg cs.toArray)) w) : wpList P ops Q (o :: rest) a w :=
  wpList_plain hgd fun _ hK => by
    unfold Oper.wp
    rw [ex_load_mid cs ho hx hb hc hu hd hi]
    exact hK _ _ h
def resL (r : Nat → Int) : List Value := [.int .i64 (r 0), .int .i64 (r 1), .int .i64 (r 2), .int .i64 (r 3), .int .i64 (r 4), .int .i64 (r 5)]
theorem resL_at (vb vt vl : Value) (r : Nat → Int) : ∀ j v, (resL r)[j]? = some v → (ramCells vb vt vl r)[3 + j]? = some v := by
  intro j v hv
  match j, hv with
  | 0, hv => exact hv
  | 1, hv => exact hv
  | 2, hv => exact hv
  | 3, hv => exact hv
  | 4, hv => exact hv
  | 5, hv => exact hv
set_option maxHeartbeats 4000000 in
theorem endOthers_c {vb vt vl : Value} {r : Nat → Int} {g : Nat} {w : World} (hb : Blk (ramCells vb vt vl r) 60 g w) (t a z : Int) :
    Calls Try.prog 33 #[.pointer (some ⟨g, 0, none⟩), .int .i64 t, .agg #[.int .i64 a, .int .i64 z]] w fun e w' => e = .returned (.tuple #[]) ∧ Blk (ramCells vb vt vl (endR t a z r)) 60 g w' ∧ Fr [g] w w' := by
  have B1 := hb.alloc (.cells #[.int .i64 a, .int .i64 z] 57)
  have N1 : Blk #[.int .i64 a, .int .i64 z] 57 w.heap.size (w.alloc (.cells #[.int .i64 a, .int .i64 z] 57)) := Blk.new _ _ _
  have F1 : Fr [g] w (w.alloc (.cells #[.int .i64 a, .int .i64 z] 57)) := (Fr.refl _ _).alloc _
  have hlt := hb.lt
  have i0 : ∀ w, (Instr.index 58 (.agg (resL r).toArray) (.int .i64 0)).run Try.prog w = .ok (.agg #[.int .i64 (r 0), .int .i64 (r 1)]) w := fun _ => by kernel_rfl
  have i1 : ∀ w, (Instr.index 58 (.agg (resL r).toArray) (.int .i64 1)).run Try.prog w = .ok (.agg #[.int .i64 (r 2), .int .i64 (r 3)]) w := fun _ => by kernel_rfl
  have i2 : ∀ w, (Instr.index 58 (.agg (resL r).toArray) (.int .i64 2)).run Try.prog w = .ok (.agg #[.int .i64 (r 4), .int .i64 (r 5)]) w := fun _ => by kernel_rfl
  have HB := Lib.hid hb; clear hb
  go_enter Try.func33, Try.ntmps33
  go_wp2_with (first
    | (with_reducible refine load_mid (o := ⟨some 11, .load _ (.tmp 10), _, _, _, _⟩) rfl 58 (.tmp 10) rfl 3 rfl B1 (resL r) (resL_at _ _ _ _) Try.underlying58 rfl (by kernel_rfl) ?_))
  go_loopw [12] (fun i wx => ∃ (k : Nat) (q : Int), k ≤ 3 ∧ q = k ∧ i = .int .i64 q ∧ Blk (ramCells vb vt vl (endK t a z r k)) 60 g wx ∧ Fr [g] w wx ∧ Blk #[.int .i64 a, .int .i64 z] 57 w.heap.size wx) (fun i _ => 3 - (intOf i).toNat)
  case atStart => exact ⟨0, 0, by omega, rfl, rfl, by rw [endK_zero]; exact B1, F1, N1⟩
  case round =>
    obtain ⟨k, q, hk, hq, rfl, hbk, hf, hn⟩ := hrel
    clear B1 F1 N1
    have hz : w.heap.size < wr.heap.size := hn.lt
    have hgl : g < wr.heap.size := hbk.lt
    have c0 := hn.cell 0
    have c1 := hn.cell 1
    rcases (by omega : k = 0 ∨ k = 1 ∨ k = 2 ∨ k = 3) with rfl | rfl | rfl | rfl
    · obtain rfl : q = 0 := by omega
      clear hq hk
      by_cases ht : (0 : Int) = t
      · have b : ((0 : Int) != t) = false := by simp [ht]
        have e := endK_same t a z r 0 (.inl ht)
        rw [← e] at hbk
        have HBK := Lib.hid ((hbk.alloc (.cells #[.int .i64 (r 0), .int .i64 (r 1)] 57))); clear hbk e ht
        have HN := Lib.hid (hn.alloc (.cells #[.int .i64 (r 0), .int .i64 (r 1)] 57)); clear hn
        have HF := Lib.hid (hf.alloc (.cells #[.int .i64 (r 0), .int .i64 (r 1)] 57)); clear hf
        go_wp2
        go_roundw
        case rel => exact ⟨1, 1, by omega, rfl, rfl, HBK.out, HF.out, HN.out⟩
        case measure => simp [intOf]
      · have b : ((0 : Int) != t) = true := by simp [ht]
        have ko := overlap_any (r 0) (r 1) a z
        cases ho : ovl (r 0) (r 1) a z with
        | false =>
          rw [ho] at ko
          have e := endK_same t a z r 0 (.inr ho)
          rw [← e] at hbk
          have HBK := Lib.hid ((hbk.alloc (.cells #[.int .i64 (r 0), .int .i64 (r 1)] 57))); clear hbk e ht
          have HN := Lib.hid (hn.alloc (.cells #[.int .i64 (r 0), .int .i64 (r 1)] 57)); clear hn
          have HF := Lib.hid (hf.alloc (.cells #[.int .i64 (r 0), .int .i64 (r 1)] 57)); clear hf
          have KO := Lib.hid ko; clear ko ho
          go_wp2_with (first
            | (go_at_call 47; refine (KO.out _).mono ?_; rintro e w2 ⟨rfl, rfl⟩))
          go_roundw
          case rel => exact ⟨1, 1, by omega, rfl, rfl, HBK.out, HF.out, HN.out⟩
          case measure => simp [intOf]
        | true =>
          rw [ho] at ko
          have e := endK_set t a z r 0 ht ho
          obtain ⟨w3, e3, b3, k3⟩ := res_store (P := Try.prog) (ty := 57) (hbk.alloc (.cells #[.int .i64 (r 0), .int .i64 (r 1)] 57)) (by kernel_rfl) 0 0 0
          rw [show ((0 : Fin 3).1) = 0 from rfl, e] at b3
          have HBK := Lib.hid b3; clear hbk e ht b3
          have HN := Lib.hid (k3.blk (hn.alloc (.cells #[.int .i64 (r 0), .int .i64 (r 1)] 57)) (by simp; omega)); clear hn
          have HF := Lib.hid ((hf.alloc (.cells #[.int .i64 (r 0), .int .i64 (r 1)] 57)).trans k3 (fun i hi => .inl hi)); clear hf k3
          have KO := Lib.hid ko; clear ko ho
          go_wp2_with (first
            | (go_at_call 47; refine (KO.out _).mono ?_; rintro e w2 ⟨rfl, rfl⟩)
            | (with_reducible refine store_arm (o := ⟨none, .store _ (.tmp 35) (.tmp 32), _, _, _, _⟩) rfl 57 (.tmp 35) (.tmp 32) rfl rfl rfl e3 ?_))
          go_roundw
          case rel => exact ⟨1, 1, by omega, rfl, rfl, HBK.out, HF.out, HN.out⟩
          case measure => simp [intOf]
    · obtain rfl : q = 1 := by omega
      clear hq hk
      by_cases ht : (1 : Int) = t
      · have b : ((1 : Int) != t) = false := by simp [ht]
        have e := endK_same t a z r 1 (.inl ht)
        rw [← e] at hbk
        have HBK := Lib.hid ((hbk.alloc (.cells #[.int .i64 (r 2), .int .i64 (r 3)] 57))); clear hbk e ht
        have HN := Lib.hid (hn.alloc (.cells #[.int .i64 (r 2), .int .i64 (r 3)] 57)); clear hn
        have HF := Lib.hid (hf.alloc (.cells #[.int .i64 (r 2), .int .i64 (r 3)] 57)); clear hf
        go_wp2
        go_roundw
        case rel => exact ⟨2, 2, by omega, rfl, rfl, HBK.out, HF.out, HN.out⟩
        case measure => simp [intOf]
      · have b : ((1 : Int) != t) = true := by simp [ht]
        have ko := overlap_any (r 2) (r 3) a z
        cases ho : ovl (r 2) (r 3) a z with
        | false =>
          rw [ho] at ko
          have e := endK_same t a z r 1 (.inr ho)
          rw [← e] at hbk
          have HBK := Lib.hid ((hbk.alloc (.cells #[.int .i64 (r 2), .int .i64 (r 3)] 57))); clear hbk e ht
          have HN := Lib.hid (hn.alloc (.cells #[.int .i64 (r 2), .int .i64 (r 3)] 57)); clear hn
          have HF := Lib.hid (hf.alloc (.cells #[.int .i64 (r 2), .int .i64 (r 3)] 57)); clear hf
          have KO := Lib.hid ko; clear ko ho
          go_wp2_with (first
            | (go_at_call 47; refine (KO.out _).mono ?_; rintro e w2 ⟨rfl, rfl⟩))
          go_roundw
          case rel => exact ⟨2, 2, by omega, rfl, rfl, HBK.out, HF.out, HN.out⟩
          case measure => simp [intOf]
        | true =>
          rw [ho] at ko
          have e := endK_set t a z r 1 ht ho
          obtain ⟨w3, e3, b3, k3⟩ := res_store (P := Try.prog) (ty := 57) (hbk.alloc (.cells #[.int .i64 (r 2), .int .i64 (r 3)] 57)) (by kernel_rfl) 1 0 0
          rw [show ((1 : Fin 3).1) = 1 from rfl, e] at b3
          have HBK := Lib.hid b3; clear hbk e ht b3
          have HN := Lib.hid (k3.blk (hn.alloc (.cells #[.int .i64 (r 2), .int .i64 (r 3)] 57)) (by simp; omega)); clear hn
          have HF := Lib.hid ((hf.alloc (.cells #[.int .i64 (r 2), .int .i64 (r 3)] 57)).trans k3 (fun i hi => .inl hi)); clear hf k3
          have KO := Lib.hid ko; clear ko ho
          go_wp2_with (first
            | (go_at_call 47; refine (KO.out _).mono ?_; rintro e w2 ⟨rfl, rfl⟩)
            | (with_reducible refine store_arm (o := ⟨none, .store _ (.tmp 35) (.tmp 32), _, _, _, _⟩) rfl 57 (.tmp 35) (.tmp 32) rfl rfl rfl e3 ?_))
          go_roundw
          case rel => exact ⟨2, 2, by omega, rfl, rfl, HBK.out, HF.out, HN.out⟩
          case measure => simp [intOf]
    · obtain rfl : q = 2 := by omega
      clear hq hk
      by_cases ht : (2 : Int) = t
      · have b : ((2 : Int) != t) = false := by simp [ht]
        have e := endK_same t a z r 2 (.inl ht)
        rw [← e] at hbk
        have HBK := Lib.hid ((hbk.alloc (.cells #[.int .i64 (r 4), .int .i64 (r 5)] 57))); clear hbk e ht
        have HN := Lib.hid (hn.alloc (.cells #[.int .i64 (r 4), .int .i64 (r 5)] 57)); clear hn
        have HF := Lib.hid (hf.alloc (.cells #[.int .i64 (r 4), .int .i64 (r 5)] 57)); clear hf
        go_wp2
        go_roundw
        case rel => exact ⟨3, 3, by omega, rfl, rfl, HBK.out, HF.out, HN.out⟩
        case measure => simp [intOf]
      · have b : ((2 : Int) != t) = true := by simp [ht]
        have ko := overlap_any (r 4) (r 5) a z
        cases ho : ovl (r 4) (r 5) a z with
        | false =>
          rw [ho] at ko
          have e := endK_same t a z r 2 (.inr ho)
          rw [← e] at hbk
          have HBK := Lib.hid ((hbk.alloc (.cells #[.int .i64 (r 4), .int .i64 (r 5)] 57))); clear hbk e ht
          have HN := Lib.hid (hn.alloc (.cells #[.int .i64 (r 4), .int .i64 (r 5)] 57)); clear hn
          have HF := Lib.hid (hf.alloc (.cells #[.int .i64 (r 4), .int .i64 (r 5)] 57)); clear hf
          have KO := Lib.hid ko; clear ko ho
          go_wp2_with (first
            | (go_at_call 47; refine (KO.out _).mono ?_; rintro e w2 ⟨rfl, rfl⟩))
          go_roundw
          case rel => exact ⟨3, 3, by omega, rfl, rfl, HBK.out, HF.out, HN.out⟩
          case measure => simp [intOf]
        | true =>
          rw [ho] at ko
          have e := endK_set t a z r 2 ht ho
          obtain ⟨w3, e3, b3, k3⟩ := res_store (P := Try.prog) (ty := 57) (hbk.alloc (.cells #[.int .i64 (r 4), .int .i64 (r 5)] 57)) (by kernel_rfl) 2 0 0
          rw [show ((2 : Fin 3).1) = 2 from rfl, e] at b3
          have HBK := Lib.hid b3; clear hbk e ht b3
          have HN := Lib.hid (k3.blk (hn.alloc (.cells #[.int .i64 (r 4), .int .i64 (r 5)] 57)) (by simp; omega)); clear hn
          have HF := Lib.hid ((hf.alloc (.cells #[.int .i64 (r 4), .int .i64 (r 5)] 57)).trans k3 (fun i hi => .inl hi)); clear hf k3
          have KO := Lib.hid ko; clear ko ho
          go_wp2_with (first
            | (go_at_call 47; refine (KO.out _).mono ?_; rintro e w2 ⟨rfl, rfl⟩)
            | (with_reducible refine store_arm (o := ⟨none, .store _ (.tmp 35) (.tmp 32), _, _, _, _⟩) rfl 57 (.tmp 35) (.tmp 32) rfl rfl rfl e3 ?_))
          go_roundw
          case rel => exact ⟨3, 3, by omega, rfl, rfl, HBK.out, HF.out, HN.out⟩
          case measure => simp [intOf]
    · obtain rfl : q = 3 := by omega
      clear hq hk
      rw [endK_three] at hbk
      have HBK := Lib.hid hbk; clear hbk hn
      have HF := Lib.hid hf; clear hf
      go_wp2
      go_end0
      exact ⟨rfl, HBK.out, HF.out⟩
end Go.Proofs.Yteoemjhhjnkkiaa
