/- Layer 10: what is told of bytes assembles to them. -/
import Derived.Test.YtolmecnjolfjgaaGreatDoorLa10
import Derived.Test.YtolmecnjolfjgaaGreatDoorAbk
set_option maxRecDepth 100000
namespace Go.Proofs.YtolmecnjolfjgaaGreatDoor
open Go.RowKit

theorem row_slice {X : World} {base n s : Nat} {t : TypeId} {v : Value} {xs : List Value} (h : X.ownsRow base t s v n xs) : ∃ A c, v = .slice A n c := by
  rcases h.2 with ⟨rfl, rfl⟩ | ⟨r, c, cur, rfl, _⟩
  · exact ⟨none, 0, rfl⟩
  · exact ⟨_, c, rfl⟩
set_option maxHeartbeats 2000000 in
theorem back_law10 {W : World} (T : Tab9 W) (T7 : Tab7 W) (A : Option Addr) (cap : Nat) (B : List Int) (hb : Byts B) (hn : B.length ≤ 9223372036854775807) (hc : B.length ≤ cap) (hc2 : cap ≤ 9223372036854775807) (hr : Rd W W.heap.size A (cellsB B)) :
    Calls Tryz.prog 4 #[.slice A B.length cap] W fun e w' => e = .returned (.bool true) ∧ Below W.heap.size W w' := by
  have KA := fun x (hx : BW W x) => (alive10_any T T7 x hx).mono fun e w' ⟨h1, _, h3⟩ => (⟨h1, h3⟩ : _ ∧ Below x.heap.size x w')
  have HB : Hid (Below W.heap.size W W) := Below.refl _ _
  by_cases h1 : B.length ≤ 1024
  · have d1 : decide ((1024 : Int) < B.length) = false := decide_eq_false (by omega)
    have hg : ∀ j, 0 ≤ B.getD j 0 ∧ B.getD j 0 < 256 := fun j => by
      by_cases hj : j < B.length
      · exact byte_at hb hj
      · rw [List.getD_eq_getElem?_getD, List.getElem?_eq_none (by omega)]; exact ⟨by decide, by decide⟩
    have KL := fun x (hx : BW W x) => (lines_c A cap B x (T.below hx) (T7.below hx) hb (by omega) hc hc2 (hr.now hx)).mono fun e w' ⟨v, he, ho, hb⟩ => (he ▸ RetS.of_own ho hb : RetS x (linesL B) e w')
    have KM := fun x (hx : BW W x) => asm_told B hg h1 x (T.below hx) (T7.below hx)
    have KS := fun A1 c1 A2 c2 x (g1 : Rd x x.heap.size A1 (cellsB B)) (g2 : Rd x x.heap.size A2 (cellsB B)) => by
      have := same_any A1 A2 c1 c2 B B x hn g1 g2
      rw [decide_eq_true rfl] at this
      exact this
    have hll : (linesL B).length ≤ 300 := by rw [told_len]; omega
    have HOK := Lib.hid (fun l (h : ∀ x ∈ l, LineOk x) => join_len l h)
    have HLK := Lib.hid (linesL_ok B)
    have HR := Lib.hid hr
    unfold RetS at KL
    generalize linesL B = L at *
    clear T T7 hb hr hg
    go_enter Tryz.func4, Tryz.ntmps4
    go_upto_region 5 with (first
      | (go_at_call 10; refine (KA _ HB.out).mono ?_; rintro e w2 ⟨rfl, hb2⟩; have HB2 := Lib.hid (HB.out.trans hb2); clear hb2))
    go_upto_region 8 with (first
      | (go_at_call 12; refine (KL _ HB2.out).mono ?_; rintro e w4 ⟨A1, c1, rfl, g1, hb4⟩; have HB4 := Lib.hid (HB2.out.trans (hb4.mono HB2.out.size)); have HG1 := Lib.hid g1; clear hb4 g1))
    go_loopg [3, 5] L.length (fun gg v3 v5 wr => ∃ j : Nat, v5 = .int .i64 j ∧ j + gg = L.length ∧ v3 = .string (bs (joinT (L.take j))) ∧ w4 = wr)
    case atStart => exact ⟨0, rfl, by omega, rfl, rfl⟩
    case round =>
      obtain ⟨j, rfl, hj, rfl, rfl⟩ := hrel
      by_cases hjl : j < L.length
      · have hjI : (j : Int) < L.length := by omega
        have hlen : (joinT (L.take j)).length ≤ 100 * (L.take j).length := HOK.out _ (fun x hx => HLK.out x (List.mem_of_mem_take hx))
        have hlx := (HLK.out _ (List.getElem_mem hjl)).short
        have hsn : joinT (L.take (j + 1)) = joinT (L.take j) ++ L[j] ++ [10] := by rw [List.take_succ_eq_append_getElem hjl, joinT_snoc]
        obtain ⟨b1, off1, rfl, hb1, hc1⟩ := HG1.out.at (i := j) (by unfold txs; rw [List.length_map]; exact hjl)
        have hcx : w4.cell? ⟨b1, off1 + j, none⟩ = some (.string (bs L[j])) := by
          rw [hc1]; simp [txs, tx]
        rw [List.length_take] at hlen
        have hmin : min j L.length = j := by omega
        rw [hmin] at hlen
        generalize L[j] = x at *
        generalize joinT (L.take j) = Y at *
        have ha : ∀ w2 : World, (Op.stringOp .add (bs Y) (bs x)).run Tryz.prog w2 = .ok (.string (bs (Y ++ x))) w2 := fun w2 => run_string_add_lists w2 Y x (by omega) (by omega)
        have ha2 : ∀ w2 : World, (Op.stringOp .add (bs (Y ++ x)) ⟨#[10]⟩).run Tryz.prog w2 = .ok (.string (bs (Y ++ x ++ [10]))) w2 := fun w2 => run_string_add_lists w2 (Y ++ x) [10] (by rw [List.length_append]; omega) (by decide)
        obtain ⟨z3, hz3⟩ : ∃ z, bs (Y ++ x ++ [10]) = z := ⟨_, rfl⟩
        have HZ : Hid (Value.string z3 = .string (bs (joinT (L.take (j + 1))))) := by show _ = _; rw [hsn, hz3]
        rw [hz3] at ha2
        clear hsn hc1 hlen hmin hz3
        generalize bs (Y ++ x) = z2 at *
        generalize bs Y = z1 at *
        generalize bs x = z0 at *
        go_wp2
        go_roundg (L.length - (j + 1))
        case measure => omega
        case rel => exact ⟨j + 1, by go_num, by omega, HZ.out, rfl⟩
      · obtain rfl : j = L.length := by omega
        rw [List.take_length]
        unfold tx at KM
        generalize bs (joinT L) = z at *
        clear HOK HLK HG1
        go_upto_region 12 with (first
          | (go_at_call 16; refine (KM _ HB4.out).mono ?_; rintro e w5 ⟨g, v, rfl, hcl, hg, hrow, hb5⟩; obtain ⟨A9, c9, rfl⟩ := row_slice hrow; have HB5 := Lib.hid (HB4.out.trans (hb5.mono HB4.out.size)); have HR5 := Lib.hid (Rd.of_row hcl); clear hcl hg hrow hb5))
        go_wp2_with (first
          | (go_at_call 10; refine (KA _ HB5.out).mono ?_; rintro e w6 ⟨rfl, hb6⟩; have HB6 := Lib.hid (HB5.out.trans (hb6.mono HB5.out.size)); have HR6 := Lib.hid (HR5.out.now hb6); clear hb6)
          | (go_at_call 17; refine (KS _ _ _ _ _ (HR.out.now HB6.out) HR6.out).mono ?_; rintro e w7 ⟨rfl, hb7⟩; have HB7 := Lib.hid (HB6.out.trans (hb7.mono HB6.out.size)); clear hb7))
        go_ret
        exact ⟨rfl, HB7.out⟩
  · have d1 : decide ((1024 : Int) < B.length) = true := decide_eq_true (by omega)
    clear T T7 hb hr
    go_enter Tryz.func4, Tryz.ntmps4
    go_upto_region 4 with (first
      | (go_at_call 10; refine (KA _ HB.out).mono ?_; rintro e w2 ⟨rfl, hb2⟩; have HB2 := Lib.hid (HB.out.trans hb2); clear hb2))
    go_wp2_with (first
      | (go_at_call 10; refine (KA _ HB2.out).mono ?_; rintro e w3 ⟨rfl, hb3⟩; have HB3 := Lib.hid (HB2.out.trans (hb3.mono HB2.out.size)); clear hb3))
    go_ret
    exact ⟨rfl, HB3.out⟩
end Go.Proofs.YtolmecnjolfjgaaGreatDoor
