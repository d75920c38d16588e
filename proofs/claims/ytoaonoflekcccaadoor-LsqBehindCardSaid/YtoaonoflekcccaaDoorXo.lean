/- LsqBehind. -/
import Derived.Test.YtoaonoflekcccaaDoorXn
import Derived.Deep.AppendLies
import Derived.LoopTactic
set_option maxRecDepth 100000
set_option linter.unusedVariables false
namespace Go.Proofs.YtoaonoflekcccaaDoor
open Go.RowKit

theorem info_slot : (Tryd.prog.info? 29).map (fun i => (i.zero, i.size, i.bytes)) = some (some (.agg (sltC zSlt)), 18, 144) := by kernel_rfl
theorem slt_one (x : Slt) : ∀ v ∈ (sltC x).toList, v.oneCell' = true := by
  intro v hv
  simp [sltC] at hv
  rcases hv with rfl | rfl | rfl | rfl | rfl | rfl | rfl | rfl | rfl | rfl | rfl | rfl | rfl | rfl | rfl | rfl | rfl | rfl <;> rfl
theorem cellsS_len (l : List Slt) : (cellsS l).length = l.length * 18 := flat_len (fun x : Slt => (sltC x).toList) 18 (fun _ => rfl) l
theorem cellsS_one (l : List Slt) : ∀ v ∈ cellsS l, v.oneCell' = true := by
  intro v hv
  unfold cellsS at hv
  obtain ⟨x, _, hx⟩ := List.mem_flatMap.1 hv
  exact slt_one x v hx
theorem cellsS_at (l : List Slt) {a b : Nat} (ha : a < l.length) (hb : b < 18) : (cellsS l)[a * 18 + b]? = (sltC (sAt l a))[b]? := by
  have := flat_at (fun x : Slt => (sltC x).toList) 18 (fun _ => rfl) l a b hb
  rw [List.getElem?_eq_getElem ha] at this
  rw [sAt_eq ha]
  exact this.trans (by simp)
/-- Behind w: n slots lie in block g, whole or not. -/
structure PB (f : Nat → Slt) (n : Nat) (w : World) (g : Nat) (y : World) : Prop where
  low : BW w y
  ge : w.heap.size ≤ g
  ex : ∃ cur, Blk cur 29 g y ∧ ∀ a b v, a < n → (sltC (f a))[b]? = some v → cur[a * 18 + b]? = some v
theorem PB.on {f : Nat → Slt} {n : Nat} {w : World} {g : Nat} {y z : World} (h : PB f n w g y) (k : Below y.heap.size y z) : PB f n w g z := ⟨BW.on h.low k, h.ge, by obtain ⟨cur, hb, hc⟩ := h.ex; exact ⟨cur, hb.on k, hc⟩⟩
theorem own_cap {w : World} {base : Nat} {e : TypeId} {n cap : Nat} {g : Nat} {xs : List Value} (h : w.ownsRow base e 18 (.slice (some ⟨g, 0, none⟩) n cap) n xs) : n ≤ cap := by
  rcases h.2 with ⟨e, _⟩ | ⟨g', cap', cur, e, _, _, hn, _⟩
  · cases e
  · cases e; exact hn
def mixB (l : List Slt) (j : Nat) : Nat → Slt := fun a => if a < j then bndS (sAt l a) else sAt l a
theorem lt18 {x : Slt} {b : Nat} {v : Value} (h : (sltC x)[b]? = some v) : b < 18 := (Array.getElem?_eq_some_iff.1 h).1
theorem bnd_cells (x : Slt) (b : Nat) : (sltC (bndS x))[b]? = if b = 9 then some (.bool true) else (sltC x)[b]? := by
  by_cases h : b < 18
  · have : b = 0 ∨ b = 1 ∨ b = 2 ∨ b = 3 ∨ b = 4 ∨ b = 5 ∨ b = 6 ∨ b = 7 ∨ b = 8 ∨ b = 9 ∨ b = 10 ∨ b = 11 ∨ b = 12 ∨ b = 13 ∨ b = 14 ∨ b = 15 ∨ b = 16 ∨ b = 17 := by omega
    rcases this with rfl | rfl | rfl | rfl | rfl | rfl | rfl | rfl | rfl | rfl | rfl | rfl | rfl | rfl | rfl | rfl | rfl | rfl <;> rfl
  · rw [if_neg (by omega), Array.getElem?_eq_none (by show 18 ≤ b; omega), Array.getElem?_eq_none (by show 18 ≤ b; omega)]
theorem PB.cell {f : Nat → Slt} {n : Nat} {w : World} {g : Nat} {y : World} (h : PB f n w g y) {j : Nat} (hj : j < n) : y.cell? ⟨g, j * 18 + 9, none⟩ = some (.bool (f j).bound) ∧ y.frozen? ⟨g, j * 18 + 9, none⟩ = false := by
  obtain ⟨cur, hb, hc⟩ := h.ex
  exact ⟨(hb.cell _).trans (hc j 9 _ hj rfl), hb.free _⟩
theorem PB.put {l : List Slt} {n : Nat} {w : World} {g : Nat} {y : World} {j : Nat} (h : PB (mixB l j) n w g y) (hj : j < n) : PB (mixB l (j + 1)) n w g (y.setCell ⟨g, j * 18 + 9, none⟩ (.bool true)) := by
  obtain ⟨cur, hb, hc⟩ := h.ex
  refine ⟨Below.setCell h.low h.ge _, h.ge, _, hb.set _ _, fun a b v ha hv => ?_⟩
  have hb18 := lt18 hv
  have hsz : j * 18 + 9 < cur.size := (Array.getElem?_eq_some_iff.1 (hc j 9 _ hj rfl)).1
  rw [Array.getElem?_setIfInBounds]
  unfold mixB at hv hc
  by_cases haj : a = j
  · subst haj
    rw [if_pos (by omega), bnd_cells] at hv
    by_cases h9 : b = 9
    · subst h9
      rw [if_pos rfl] at hv
      rw [if_pos rfl, if_pos hsz]
      exact hv
    · rw [if_neg h9] at hv
      rw [if_neg (by omega)]
      exact hc a b v ha (by rw [if_neg (by omega)]; exact hv)
  · rw [if_neg (by omega)]
    refine hc a b v ha ?_
    by_cases hlt : a < j
    · rw [if_pos hlt]; rw [if_pos (by omega)] at hv; exact hv
    · rw [if_neg hlt]; rw [if_neg (by omega)] at hv; exact hv
theorem PB.fl {l : List Slt} {w : World} {g : Nat} {y : World} (h : PB (mixB l l.length) l.length w g y) (hT : TabL w) (hw : Wslts l) (hl : l.length ≤ 1000) : FL (l.map bndS) (some ⟨g, 0, none⟩) y := by
  obtain ⟨cur, hb, hc⟩ := h.ex
  refine ⟨.inr ⟨g, 0, rfl, hb.lt, fun i v hv => ?_⟩, ?_, hT.below h.low, by rw [List.length_map]; exact hl⟩
  · have hi : i < (cellsS (l.map bndS)).length := (List.getElem?_eq_some_iff.1 hv).1
    rw [cellsS_len, List.length_map] at hi
    have hdm := Nat.div_add_mod i 18
    have hml := Nat.mod_lt i (show 0 < 18 by decide)
    have hdl : i / 18 < l.length := by rw [Nat.div_lt_iff_lt_mul (by decide)]; exact hi
    have e : i = i / 18 * 18 + i % 18 := by rw [Nat.mul_comm]; omega
    rw [e, cellsS_at _ (by rw [List.length_map]; exact hdl) hml, sAt_map hdl] at hv
    rw [Nat.zero_add, hb.cell, e]
    refine hc _ _ _ hdl ?_
    unfold mixB
    rw [if_pos hdl]
    exact hv
  · intro x hx
    obtain ⟨z, hz, rfl⟩ := List.mem_map.1 hx
    exact ⟨(hw z hz).op, (hw z hz).addr⟩
theorem PB.new {l : List Slt} {w y y2 : World} {g cap base : Nat} (h : BW w y) (hb : w.heap.size ≤ base) (ho : y2.ownsRow base 29 18 (.slice (some ⟨g, 0, none⟩) l.length cap) l.length (cellsS l)) (hg : BW w y2) (hl : 0 < l.length) : PB (mixB l 0) l.length w g y2 := by
  obtain ⟨hlen, ho⟩ := ho
  rcases ho with ⟨e, _⟩ | ⟨g', cap', cur, e, hge, hh, hn, hcap, hsz, ht⟩
  · cases e
  · cases e
    refine ⟨hg, by omega, cur, hh, fun a b v ha hv => ?_⟩
    have hv2 : (cellsS l)[a * 18 + b]? = some v := by rw [cellsS_at l ha (lt18 hv)]; unfold mixB at hv; rw [if_neg (by omega)] at hv; exact hv
    rw [← ht] at hv2
    rw [List.getElem?_take_of_lt (by have := lt18 hv; omega)] at hv2
    rw [← Array.getElem?_toList]
    exact hv2
set_option maxHeartbeats 16000000 in
theorem behind_walk (a0 : Option Addr) (c0 : Nat) (l : List Slt) (a1 : Int) (e : Bool) (W : World) (m0 : l.length ≤ c0) (b0 : c0 ≤ 9223372036854775807) (w0 : Wslts l) (h1 : 0 ≤ a1) (h2 : a1 ≤ 255) (r0 : Rd W W.heap.size a0 (cellsS l)) (hT : TabL W) :
    Calls Tryd.prog 3 #[.slice a0 l.length c0, .int .u8 a1, .bool e] W fun r w' => r = .returned (.bool true) ∧ BW W w' := by
  have HAL := Lib.hid (fun y (hy : BW W y) => alive16_any y (hT.below hy))
  have HB0 : Hid (BW W W) := Below.refl _ _
  obtain ⟨k, rfl⟩ : ∃ k : Nat, a1 = (k : Int) := ⟨a1.toNat, by omega⟩
  have hkI : (0 : Int) ≤ (k : Int) ∧ (k : Int) ≤ 255 := ⟨h1, h2⟩
  by_cases h40 : l.length ≤ 40
  case neg =>
    have h40I : (40 : Int) < (l.length : Int) := by omega
    have hlI : (l.length : Int) ≤ 9223372036854775807 := by omega
    have HAF1 : True := trivial
    clear r0 hT w0
    generalize l.length = L at *
    go_enter Tryd.func3, Tryd.ntmps3
    go_wp2_with (first
      | ((have HFIRST1 := HAF1); clear HAF1; go_at_call 4; refine (HAL.out _ HB0.out).mono ?_; rintro e1 w1 ⟨rfl, hb⟩; have HB1 := Lib.hid (BW.on HB0.out hb); clear hb)
      | (go_at_call 4; refine (HAL.out _ HB1.out).mono ?_; rintro e2 w2 ⟨rfl, hb⟩; have HB2 := Lib.hid (BW.on HB1.out hb); clear hb))
    go_ret
    exact ⟨rfl, HB2.out⟩
  case pos =>
    have h40I : (l.length : Int) ≤ 40 := by omega
    by_cases hk : k < l.length
    case neg =>
      have hkl : (l.length : Int) ≤ (k : Int) := by omega
      have HAF1 : True := trivial
      clear r0 hT w0
      generalize l.length = L at *
      go_enter Tryd.func3, Tryd.ntmps3
      go_wp2_with (first
        | ((have HFIRST1 := HAF1); clear HAF1; go_at_call 4; refine (HAL.out _ HB0.out).mono ?_; rintro e1 w1 ⟨rfl, hb⟩; have HB1 := Lib.hid (BW.on HB0.out hb); clear hb)
        | (go_at_call 4; refine (HAL.out _ HB1.out).mono ?_; rintro e2 w2 ⟨rfl, hb⟩; have HB2 := Lib.hid (BW.on HB1.out hb); clear hb))
      go_ret
      exact ⟨rfl, HB2.out⟩
    case pos =>
      have hkl : (k : Int) < (l.length : Int) := by omega
      have HFL : Hid (∀ y, BW W y → FL l a0 y) := fun y hy => FL.on ⟨r0, w0, hT, by omega⟩ hy
      obtain ⟨b, off, rfl, hb, _⟩ := (HFL.out W HB0.out).cells hk
      have hck : (k : Int) + 1 ≤ (c0 : Int) := by omega
      have hln := take_len l (show k + 1 ≤ l.length by omega)
      have HW1 : Hid (∀ y, BW W y → Calls Tryd.prog 5 #[.slice (some ⟨b, off, none⟩) (k + 1) c0, .int .i64 (k : Int), .bool e] y fun r w' => r = .returned (.int .i64 (waitS l k e)) ∧ BW y w') := fun y hy => by
        have := waits_c ((HFL.out y hy).take (k + 1)) c0 (by rw [hln]; omega) (k : Int) e
        rw [hln, waitS_take hk] at this
        exact this
      have HW2 : Hid (∀ y, BW W y → Calls Tryd.prog 5 #[.slice (some ⟨b, off, none⟩) l.length c0, .int .i64 (k : Int), .bool e] y fun r w' => r = .returned (.int .i64 (waitS l k e)) ∧ BW y w') := fun y hy => waits_c (HFL.out y hy) c0 m0 (k : Int) e
      have HP1 : Hid (∀ y, BW W y → Calls Tryd.prog 6 #[.slice (some ⟨b, off, none⟩) (k + 1) c0, .int .i64 (k : Int), .bool e] y fun r w' => r = .returned (.bool (passS l k e)) ∧ BW y w') := fun y hy => by
        have := passed_c ((HFL.out y hy).take (k + 1)) c0 (by rw [hln]; omega) (k : Int) e
        rw [hln, passS_take hk] at this
        exact this
      have HP2 : Hid (∀ y, BW W y → Calls Tryd.prog 6 #[.slice (some ⟨b, off, none⟩) l.length c0, .int .i64 (k : Int), .bool e] y fun r w' => r = .returned (.bool (passS l k e)) ∧ BW y w') := fun y hy => passed_c (HFL.out y hy) c0 m0 (k : Int) e
      have HP4 : Hid (∀ y, BW W y → Calls Tryd.prog 6 #[.slice (some ⟨b, off, none⟩) l.length c0, .int .i64 (k : Int), .bool true] y fun r w' => r = .returned (.bool (passS l k true)) ∧ BW y w') := fun y hy => passed_c (HFL.out y hy) c0 m0 (k : Int) true
      have HP3 : Hid (∀ g cap y, l.length ≤ cap → PB (mixB l l.length) l.length W g y → Calls Tryd.prog 6 #[.slice (some ⟨g, 0, none⟩) l.length cap, .int .i64 (k : Int), .bool e] y fun r w' => r = .returned (.bool (passS (l.map bndS) k e)) ∧ BW y w') := fun g cap y hc hy => by
        have := passed_c (hy.fl hT w0 (by omega)) cap (by rw [List.length_map]; exact hc) (k : Int) e
        rw [List.length_map] at this
        exact this
      have HPB : Hid (passS l k e = true → passS (l.map bndS) k e = true ∧ passS l k true = true) := fun a => passS_bnd a
      obtain ⟨i0, hi, hz0, hz1, hz2⟩ := info_parts info_slot
      have HRD : Hid (∀ y, BW W y → ∀ j u, (cellsS l)[j]? = some u → y.cell? ((⟨b, off, none⟩ : Addr).add j) = some u) := fun y hy => by
        intro j u hu
        rcases r0 with h0 | ⟨b', off', e', hb', hc⟩
        · rw [h0] at hu; cases hu
        · cases e'
          rw [add_plainG]
          exact (Below.cell hy (p := ⟨b, off + j, none⟩) hb').trans (hc j u hu)
      have HCO := Lib.hid (cellsS_one l)
      have HCLN := Lib.hid (cellsS_len l)
      have hl0 : 0 < l.length := by omega
      have HAF1 : True := trivial
      have HAF2 : True := trivial
      have HAF3 : True := trivial
      have HAF4 : True := trivial
      have HAF5 : True := trivial
      generalize waitS l k e = wv at *
      generalize passS l k e = pb at *
      clear hT w0 r0 hln hb
      go_enter Tryd.func3, Tryd.ntmps3
      go_upto_region 10 with (first
        | ((have HFIRST1 := HAF1); clear HAF1; go_at_call 4; refine (HAL.out _ HB0.out).mono ?_; rintro e1 w1 ⟨rfl, hb⟩; have HB1 := Lib.hid (BW.on HB0.out hb); clear hb)
        | ((have HFIRST2 := HAF2); clear HAF2; go_at_call 5; refine (HW1.out _ HB1.out).mono ?_; rintro e2 w2 ⟨rfl, hb⟩; have HB2 := Lib.hid (BW.on HB1.out hb); clear hb)
        | (go_at_call 5; refine (HW2.out _ HB2.out).mono ?_; rintro e3 w3 ⟨rfl, hb⟩; have HB3 := Lib.hid (BW.on HB2.out hb); clear hb)
        | ((have HFIRST3 := HAF3); clear HAF3; go_at_call 6; refine (HP1.out _ HB3.out).mono ?_; rintro e4 w4 ⟨rfl, hb⟩; have HB4 := Lib.hid (BW.on HB3.out hb); clear hb)
        | (go_at_call 6; refine (HP2.out _ HB4.out).mono ?_; rintro e5 w5 ⟨rfl, hb⟩; have HB5 := Lib.hid (BW.on HB4.out hb); clear hb))
      have hb40 : (0 + l.length) * 144 ≤ 140737488355328 := by omega
      have hml : 0 + l.length ≤ maxLen := by unfold maxLen; omega
      go_wp2_with (first
        | (at_builtin; refine wpList_append_lies _ rfl _ _ 22 rfl w5.heap.size 29 i0 (.agg (sltC zSlt)) 18 144 Tryd.underlying22 hi hz0 hz1 hz2 rfl (by decide) (.slice none 0 0) 0 [] rfl (World.ownsRow_nil _ _ _ _) ⟨b, off, none⟩ l.length c0 (cellsS l) rfl HCLN.out (HRD.out _ HB5.out) HCO.out hl0 hml hb40 (Nat.le_refl _) _ rfl ?_; intro g cap w6 ho hg6 hgH hlt6; simp only [Nat.zero_add, List.nil_append] at ho; have HB6 : Hid (BW W w6) := Below.grown HB5.out hg6 (Below.size HB5.out) (fun r hr => by cases hr); have HX0 : Hid (PB (mixB l 0) l.length W g w6) := PB.new HB5.out (Below.size HB5.out) ho HB6.out hl0; have HCP : Hid (l.length ≤ cap) := own_cap ho; clear ho hg6 hgH hlt6))
      try simp only [Nat.zero_add]
      have hcp := HCP.out
      clear hi hz0 hz1 hz2 hb40 hml
      go_loopw [9] (fun i wx => ∃ j : Nat, j ≤ l.length ∧ i = .int .i64 (j : Int) ∧ Hid (PB (mixB l j) l.length W g wx)) (fun i _ => l.length - (intOf i).toNat)
      case atStart => exact ⟨0, by omega, by first | rfl | go_num, HX0.out⟩
      case round =>
        obtain ⟨j, hj, rfl, HH⟩ := hrel
        by_cases hjl : j < l.length
        · have hjI : (j : Int) < (l.length : Int) := by omega
          obtain ⟨c9, f9⟩ := HH.out.cell hjl
          have HX1 := Lib.hid (HH.out.put hjl)
          go_wp2
          go_roundw
          case rel => exact ⟨j + 1, by omega, by first | rfl | go_num, HX1.out⟩
          case measure => simp [intOf]; omega
        · obtain rfl : j = l.length := by omega
          have HB7 := Lib.hid HH.out.low
          cases pb with
          | false =>
            go_wp2_with (first
              | (go_at_call 4; refine (HAL.out _ HB7.out).mono ?_; rintro e8 w8 ⟨rfl, hb⟩; have HB8 := Lib.hid (BW.on HB7.out hb); clear hb)
              | (go_at_call 6; refine (HP2.out _ HB8.out).mono ?_; rintro e9 w9 ⟨rfl, hb⟩; have HB9 := Lib.hid (BW.on HB8.out hb); clear hb))
            go_ret
            exact ⟨rfl, HB9.out⟩
          | true =>
            obtain ⟨q1, q2⟩ := HPB.out rfl
            rw [q1] at HP3
            rw [q2] at HP4
            clear q1 q2 HPB
            go_wp2_with (first
              | (go_at_call 4; refine (HAL.out _ HB7.out).mono ?_; rintro e8 w8 ⟨rfl, hb⟩; have HB8 := Lib.hid (BW.on HB7.out hb); have HX8 := Lib.hid (HH.out.on hb); clear hb)
              | ((have HFIRST4 := HAF4); clear HAF4; go_at_call 6; refine (HP2.out _ HB8.out).mono ?_; rintro e9 w9 ⟨rfl, hb⟩; have HB9 := Lib.hid (BW.on HB8.out hb); have HX9 := Lib.hid (HX8.out.on hb); clear hb)
              | ((have HFIRST5 := HAF5); clear HAF5; go_at_call 6; refine (HP3.out _ _ _ HCP.out HX9.out).mono ?_; rintro ea wa ⟨rfl, hb⟩; have HBa := Lib.hid (BW.on HB9.out hb); clear hb)
              | (go_at_call 6; refine (HP4.out _ HBa.out).mono ?_; rintro eb wb ⟨rfl, hb⟩; have HBb := Lib.hid (BW.on HBa.out hb); clear hb))
            go_ret
            exact ⟨rfl, HBb.out⟩
end Go.Proofs.YtoaonoflekcccaaDoor
