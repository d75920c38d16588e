/- The contract of the document's Sort: the same places in the same order. -/
import Derived.Test.YtbpcggoplacplaaRows
import Derived.Test.YtbpcggoplacplaaMem
import Derived.Test.YtbpcggoplacplaaLs
import Derived.Test.YtbpcggoplacplaaSm
import Derived.Test.YtbpcggoplacplaaCm
import Derived.Test.YtbpcggoplacplaaSo
import Derived.WalkKit
import Derived.WalkLawsBesides
import Derived.WalkSmall
import Derived.WalkSpells
import Derived.Deep.LoopGhost
import Derived.Deep.QuietTactic
import Derived.BigQuiet
import Derived.Laws.AppendOwnNone
import Derived.Lib.Hide
import Derived.Outline
namespace Go.Proofs.Ytbpcggoplacplaa
open Go.RowKit

/-- The places below i in order. -/
def StabTo (l : List Nat) (i : Nat) (r : List Int) : Prop := r.length = i ∧ r.Pairwise (bef (kyL l)) ∧ ∀ x, x ∈ r ↔ 0 ≤ x ∧ x < i
theorem StabTo.start (l : List Nat) : StabTo l 0 [] := ⟨rfl, List.Pairwise.nil, fun x => by constructor; intro h; cases h; intro h; omega⟩
theorem StabTo.next {l : List Nat} {i k : Nat} {r : List Int} (h : StabTo l i r) (_ : k ≤ i) (h1 : ∀ j (hj : j < r.length), k ≤ j → kyL l (i : Int) < kyL l r[j]) (h2 : ∀ hk : k - 1 < r.length, k = 0 ∨ ¬ kyL l (i : Int) < kyL l (r[k - 1]'hk)) :
    StabTo l (i + 1) (r.take k ++ [(i : Int)] ++ r.drop k) := by
  obtain ⟨hl, hp, hm⟩ := h
  have hlow : ∀ x ∈ r.take k, bef (kyL l) x i := fun x hx => by
    have hxr := List.mem_of_mem_take hx
    obtain ⟨j, hj, e⟩ := List.getElem_of_mem hx
    rw [List.getElem_take] at e
    rw [List.length_take] at hj
    have hk : k - 1 < r.length := by omega
    rcases h2 hk with c | c
    · omega
    · have hle : kyL l x ≤ kyL l (r[k - 1]'hk) := by
        rw [← e]
        by_cases q : j = k - 1
        · subst q; exact Int.le_refl _
        · exact (List.pairwise_iff_getElem.1 hp j (k - 1) (by omega) hk (by omega)).le
      exact bef_of_le (by omega) ((hm x).1 hxr).2
  have hhigh : ∀ y ∈ r.drop k, bef (kyL l) (i : Int) y := fun y hy => by
    obtain ⟨j, hj, e⟩ := List.getElem_of_mem hy
    rw [List.getElem_drop] at e
    rw [List.length_drop] at hj
    rw [← e]
    exact bef_of_lt (h1 (k + j) (by omega) (by omega))
  refine ⟨by simp; omega, ?_, fun x => ?_⟩
  · rw [List.append_assoc, List.pairwise_append]
    refine ⟨hp.sublist (List.take_sublist _ _), ?_, fun x hx y hy => ?_⟩
    · rw [List.singleton_append, List.pairwise_cons]
      exact ⟨hhigh, hp.sublist (List.drop_sublist _ _)⟩
    · rw [List.singleton_append, List.mem_cons] at hy
      rcases hy with rfl | hy
      · exact hlow x hx
      · exact (hlow x hx).trans (hhigh y hy)
  · have e : x ∈ r.take k ++ [(i : Int)] ++ r.drop k ↔ x ∈ r ∨ x = i := by
      conv => rhs; rw [← List.take_append_drop k r]
      simp only [List.mem_append, List.mem_singleton]
      constructor
      · rintro ((h | h) | h)
        · exact .inl (.inl h)
        · exact .inr h
        · exact .inl (.inr h)
      · rintro ((h | h) | h)
        · exact .inl (.inl h)
        · exact .inr h
        · exact .inl (.inr h)
    rw [e, hm]
    omega

theorem rless_same (a b : Nat) (ha : a < 18446744073709551616) (hb : b < 18446744073709551616) (w : World) :
    Calls Try.prog 18 #[.float .f64 a, .float .f64 b] w fun e w' => e = .returned (.bool (lessB a b)) ∧ w' = w :=
  (rless_any a b ha hb w).mono fun _ _ ⟨he, hw⟩ => ⟨he, hw.symm⟩

theorem slice_pre (g i cp k : Nat) (zk : Int) (hz : zk = (k : Int)) (hk : k ≤ cp) (w : World) :
    (Instr.slice 35 (.slice (some ⟨g, 0, none⟩) i cp) none (some (.int .i64 zk)) none).run Try.prog w = .ok (.slice (some ⟨g, 0, none⟩) k cp) w := by
  subst hz
  rw [run_slice_h w 35 (some ⟨g, 0, none⟩) i cp (by kernel_rfl) .i64 (k : Int) (by omega) (by omega)]
  simp [sliced, sizeOf, go_sem]
theorem slice_suf (g i cp k : Nat) (zk : Int) (hz : zk = (k : Int)) (hk : k ≤ i) :
    ∃ ad : Addr, (∀ w : World, (Instr.slice 35 (.slice (some ⟨g, 0, none⟩) i cp) (some (.int .i64 zk)) none none).run Try.prog w = .ok (.slice (some ad) (i - k) (cp - k)) w) ∧ (ad = if cp = k then ⟨g, 0, none⟩ else ⟨g, k, none⟩) := by
  subst hz
  refine ⟨if cp = k then ⟨g, 0, none⟩ else ⟨g, k, none⟩, fun w => ?_, rfl⟩
  rw [run_slice_l w 35 (some ⟨g, 0, none⟩) i cp (by kernel_rfl) .i64 (k : Int) (by omega) (by omega)]
  simp [sliced, go_sem]
  split <;> rfl
theorem cellsI_take {r : List Int} {k j : Nat} {x : Value} (h : (cellsI (r.take k))[j]? = some x) : (cellsI r)[j]? = some x := by
  unfold cellsI at *
  rw [List.getElem?_map] at *
  rw [List.getElem?_take] at h
  split at h
  · exact h
  · cases h
theorem RetS.of {l : List Nat} {r : List Int} {w w' : World} {A : Option Addr} {n c base : Nat} {e : TypeId} (hs : StabTo l l.length r) (hr : Rd w' w'.heap.size A (cellsI r)) (ho : w'.ownsRow base e 1 (.slice A n c) l.length (cellsI r)) (hb : Below w.heap.size w w') : RetS l w (.returned (.slice A n c)) w' := by
  have hn : n = l.length := by
    rcases ho with ⟨_, ⟨h, h0⟩ | ⟨_, _, _, h, _⟩⟩
    · cases h; omega
    · cases h; rfl
  subst hn
  exact ⟨A, c, r, rfl, hs, hr, hb⟩
theorem own_ne {w' : World} {base g n : Nat} {e : TypeId} {v' : Value} {xs : List Value} (ho : w'.ownsRow base e 1 v' n xs) (hb : g < base) : v'.ownBlock ≠ some g := fun h => by
  have := (ho.lt g h).1; omega
theorem cellsI_one (r : List Int) : ∀ x ∈ cellsI r, x.oneCell' = true := fun x hx => by
  unfold cellsI at hx; obtain ⟨z, _, rfl⟩ := List.mem_map.1 hx; rfl
theorem suf_cells {w : World} {base e g i cp k : Nat} {r : List Int} {ad : Addr} (h : w.ownsRow base e 1 (.slice (some ⟨g, 0, none⟩) i cp) i (cellsI r)) (hk : k ≤ i) (hl : r.length = i) (ha : ad = if cp = k then ⟨g, 0, none⟩ else ⟨g, k, none⟩) :
    ∀ j u, (cellsI (r.drop k))[j]? = some u → w.cell? (ad.add j) = some u := fun j u hj => by
  have hcp : i ≤ cp := by
    rcases h with ⟨_, ⟨h, _⟩ | ⟨_, _, _, h, _, _, h2, _⟩⟩
    · cases h
    · cases h; exact h2
  unfold cellsI at hj
  rw [List.getElem?_map, List.getElem?_drop] at hj
  have hlt : k + j < r.length := by
    rcases Nat.lt_or_ge (k + j) r.length with q | q
    · exact q
    · rw [List.getElem?_eq_none q] at hj; cases hj
  rw [if_neg (by omega)] at ha
  subst ha
  have e2 : (⟨g, k, none⟩ : Addr).add j = ⟨g, k + j, none⟩ := by unfold Addr.add; split <;> simp_all
  rw [e2, h.cellAt (k + j) (by omega)]
  unfold cellsI
  rw [List.getElem?_map]; exact hj
theorem own_whole {w : World} {base base' e n i k : Nat} {v : Value} {r : List Int} (hb : base ≤ base') (_ : k ≤ i) {xs : List Value} (h : w.ownsRow base' e 1 v n xs) (hx : xs = cellsI (r.take k) ++ [.int .i64 (i : Int)] ++ cellsI (r.drop k)) (hn : n = i + 1) :
    w.ownsRow base e 1 v (i + 1) (cellsI (r.take k ++ [(i : Int)] ++ r.drop k)) := by
  subst hn hx
  have e1 : cellsI (r.take k ++ [(i : Int)] ++ r.drop k) = cellsI (r.take k) ++ [.int .i64 (i : Int)] ++ cellsI (r.drop k) := by simp [cellsI]
  rw [e1]
  rcases h with ⟨h0, h | ⟨g, cap, cur, h1, h2, h3⟩⟩
  · exact ⟨h0, .inl h⟩
  · exact ⟨h0, .inr ⟨g, cap, cur, h1, by omega, h3⟩⟩

theorem own_first (w0 : World) (o : Obj) (base C : Nat) (e : TypeId) (x z : Value) (hb : base ≤ (w0.alloc o).heap.size) (h1 : 1 ≤ C) (hm : C ≤ maxLen) :
    (((w0.alloc o).alloc (.cells (#[x] ++ Builtin.zeroCells #[z] (C - 1)) e)).drew).ownsRow base e 1 (.slice (some ⟨w0.heap.size + 1, 0, none⟩) 1 C) 1 [x] := by
  have es : (w0.alloc o).heap.size = w0.heap.size + 1 := by simp
  refine ⟨rfl, .inr ⟨w0.heap.size + 1, C, #[x] ++ Builtin.zeroCells #[z] (C - 1), rfl, by rw [← es]; exact hb, ?_, h1, hm, ?_, ?_⟩⟩
  · rw [← es]; exact heap_alloc_new (w0.alloc o) _
  · simp [Builtin.zeroCells]; omega
  · simp

set_option maxHeartbeats 2000000 in
set_option maxRecDepth 100000 in
theorem rsort_any (A : Option Addr) (cap : Nat) (l : List Nat) (w : World) (hl : l.length ≤ 1000000) (hw : Words l) (hr : Rd w w.heap.size A (cellsF l)) :
    Calls Try.prog 20 #[.slice A l.length cap] w (RetS l w) := by
  obtain ⟨i0, hi, hz0, hz1, hz2⟩ := info_parts Try.info3
  have HR := Lib.hid hr
  have HW := Lib.hid hw
  clear hr hw
  go_enter Try.func20, Try.ntmps20
  go_wp2
  go_loopg [3, 4] l.length (fun gg v vi wr => Below w.heap.size w wr ∧ ∃ (i : Nat) (r : List Int), vi = .int .i64 i ∧ i + gg = l.length ∧ Hid (StabTo l i r) ∧ Hid (i = 0 → v = .slice none 0 0) ∧ Hid (wr.ownsRow w.heap.size 3 1 v i (cellsI r)))
  case atStart => exact ⟨Below.refl _ _, 0, [], rfl, by omega, StabTo.start l, fun _ => rfl, World.ownsRow_nil _ _ _ _⟩
  case round =>
    obtain ⟨hbl, i, r, rfl, hig, HS, HN, HO⟩ := hrel
    by_cases hlt : i < l.length
    · by_cases hi0 : i = 0
      · have hv := HN.out hi0
        subst hv
        subst hi0
        go_wp2_with fail
        refine wp_loop_rounds 1 ?_
        rw [rounds_succ]
        go_wp2_with fail
        go_quiet (fail)
        obtain ⟨wq, hwq⟩ : ∃ wq, wr.drewN nq = wq := ⟨_, rfl⟩
        have hb1 : Below w.heap.size w wq := by rw [← hwq]; exact ⟨hbl.os, hbl.tape, hbl.output, hbl.size, hbl.block⟩
        rw [hwq]
        clear hwq hbl HN HO
        have g1 := grownCap_ge wq 1 0 3
        have g2 := grownCap_le_maxLen wq 1 0 3 (by unfold maxLen; omega)
        go_wp2
        unfold grownCap at g1 g2
        go_roundg (l.length - 1)
        case measure => omega
        case rel =>
          refine ⟨((hb1.alloc hb1.size _).alloc (by have := hb1.size; simp; omega) _).drew, 1, [0], rfl, by omega, (show Hid _ from ?_), (show Hid _ from fun h => by cases h), (show Hid _ from ?_)⟩
          · have q := (StabTo.start l).next (k := 0) (Nat.le_refl _) (fun j hj => by cases hj) (fun hk => by cases hk)
            show StabTo l 1 [0]
            simpa using q
          · exact own_first wq _ _ _ _ _ _ (by have := hb1.size; simp; omega) g1 g2
      · have hS := HS.out
        obtain ⟨g, cp, rfl, hcp⟩ : ∃ g cp, u3 = Value.slice (some ⟨g, 0, none⟩) i cp ∧ i ≤ cp := by
          rcases HO.out with ⟨_, ⟨_, h⟩ | ⟨g, cp, _, h, _, _, h2, _⟩⟩
          · omega
          · exact ⟨g, cp, h, h2⟩
        have hgl := HO.out.lt g rfl
        obtain ⟨wo, rfl⟩ : ∃ wo : World, wo = wr := ⟨_, rfl⟩
        clear HN hS
        obtain ⟨b, off, rfl, hbB, hci⟩ := HR.out.at (i := i) (by unfold cellsF; rw [List.length_map]; omega)
        have bi := HW.out _ (List.getElem_mem hlt)
        simp only [cellsF, List.getElem_map] at hci
        obtain ⟨u, hu⟩ : ∃ u, u = l[i] := ⟨_, rfl⟩
        rw [← hu] at hci bi
        have hku : kyL l (i : Int) = rk u := by unfold kyL; rw [Int.toNat_natCast, List.getD_eq_getElem?_getD, List.getElem?_eq_getElem hlt, hu]; rfl
        have hcw : wo.cell? ⟨b, off + i, none⟩ = some (.float .f64 u) := (hbl.cell (p := ⟨b, off + i, none⟩) hbB).trans hci
        have HU := Lib.hid hku
        have HCW := Lib.hid hcw
        have ltz : (i : Int) < (l.length : Int) := by omega
        clear hci hu hku hcw
        go_wp2
        go_loopg [5] i (fun g2 vk wr2 => ∃ (k n : Nat), vk = .int .i64 k ∧ k ≤ i ∧ k ≤ g2 ∧ wr2 = wo.drewN n ∧ Hid (∀ j (hj : j < r.length), k ≤ j → kyL l (i : Int) < kyL l r[j]))
        case atStart => exact ⟨i, 0, rfl, Nat.le_refl _, Nat.le_refl _, rfl, (show Hid _ from fun j hj h => by have := HS.out.1; omega)⟩
        case round =>
          obtain ⟨k, n, rfl, hki, hkg, hwr2, HK⟩ := hrel
          have hcw2 : wr.cell? ⟨b, off + i, none⟩ = some (.float .f64 u) := by rw [hwr2]; exact HCW.out
          rcases Nat.eq_zero_or_pos k with hk0 | hk0
          · subst hk0
            have hkd : decide (((0 : Nat) : Int) > 0) = false := by decide
            go_wp2_with fail
            go_quiet (fail)
            obtain ⟨ww, hww⟩ : ∃ ww, ww = wr.drewN nq := ⟨_, rfl⟩
            rw [← hww]
            rw [hwr2] at hww
            clear hwr2 hcw2 hkd
            have HX : Hid (∀ hk : 0 - 1 < r.length, 0 = 0 ∨ ¬ kyL l (i : Int) < kyL l (r[0 - 1]'hk)) := fun _ => .inl rfl
            obtain ⟨Z, hZ⟩ : ∃ Z, Z = wo.heap.size := ⟨_, rfl⟩
            have HZ : Hid (Z = ww.heap.size) := by rw [hww, hZ]; rfl
            have hgZ : g < Z := by rw [hZ]; exact hgl.2
            have hwZ : w.heap.size ≤ Z := by rw [hZ]; exact hbl.size
            have HOw : Hid (ww.ownsRow w.heap.size 3 1 (.slice (some ⟨g, 0, none⟩) i cp) i (cellsI r)) := by show World.ownsRow _ _ _ _ _ _ _; rw [hww]; exact HO.out
            have hbw : Below w.heap.size w ww := by rw [hww]; exact ⟨hbl.os, hbl.tape, hbl.output, hbl.size, hbl.block⟩
            have HST := Lib.hid (HS.out.next (k := 0) hki HK.out HX.out)
            have hs1 := slice_pre g i cp (0) (0) (by omega) (by omega)
            obtain ⟨ad, hs2, had⟩ := slice_suf g i cp (0) (0) (by omega) hki
            have HAD := Lib.hid had
            have HLEN := Lib.hid HS.out.1
            have hgl2 := hgl.1
            clear had hww hZ HK HX hbl HCW HU hcp hgl HO
            go_wp2_with (at_builtin; refine wpList_append_own _ rfl _ _ 35 rfl Z 3 i0 (.int .i64 0) 1 8 Try.underlying35 hi hz0 hz1 hz2 rfl (by decide) _ _ _ rfl (World.ownsRow_nil _ _ _ _) ⟨g, 0, none⟩ (0) cp (cellsI (r.take (0))) rfl ?_ ?_ ?_ ?_ ?_ ?_ ?_)
            · unfold cellsI; rw [List.length_map, List.length_take, Nat.mul_one]; have := HLEN.out; omega
            · intro j x hj; refine HOw.out.cells (g := g) rfl j x ?_; exact cellsI_take hj
            · exact cellsI_one _
            · unfold maxLen; omega
            · omega
            · rw [HZ.out]; exact Nat.le_refl _
            intro v1 w1 hown1 hgrow1 hnn
            clear hnn
            have hb1 : Below w.heap.size w w1 := hbw.grown hgrow1 hbw.size (fun g hg => by cases hg)
            have HO1 : Hid (w1.ownsRow w.heap.size 3 1 (.slice (some ⟨g, 0, none⟩) i cp) i (cellsI r)) := HOw.out.kept hgrow1 (.inr (fun h => by cases h))
            have HZ1 : Hid (Z ≤ w1.heap.size) := by show Z ≤ _; rw [HZ.out]; exact hgrow1.size
            have HL1 : Hid (v1.ownBlock ≠ some g) := own_ne hown1 hgZ
            clear hgrow1 HOw hbw HZ
            go_wp2_with (at_builtin; refine wpList_append_own _ rfl _ _ 35 rfl Z 3 i0 (.int .i64 0) 1 8 Try.underlying35 hi hz0 hz1 hz2 rfl (by decide) _ _ _ rfl (hown1.alloc _) ⟨w1.heap.size, 0, none⟩ 1 1 [.int .i64 (i : Int)] rfl rfl ?_ ?_ ?_ ?_ ?_ ?_)
            · exact cell_one_new _ _ _
            · intro u hu; rw [List.mem_singleton] at hu; subst hu; rfl
            · unfold maxLen; omega
            · omega
            · have := HZ1.out; simp; omega
            intro v2 w2 hown2 hgrow2 hnn
            clear hnn
            have hb2 : Below w.heap.size w w2 := (hb1.alloc hb1.size _).grown hgrow2 (by have := hb1.size; simp; omega) (fun q hq => by have := (hown1.lt q hq).1; omega)
            have HO2 : Hid (w2.ownsRow w.heap.size 3 1 (.slice (some ⟨g, 0, none⟩) i cp) i (cellsI r)) := (HO1.out.alloc _).kept hgrow2 (.inr (fun h => HL1.out h.symm))
            have HZ2 : Hid (Z ≤ w2.heap.size) := by show Z ≤ _; have := HZ1.out; have := hgrow2.size; simp at this; omega
            clear hgrow2 HO1 hb1 HL1 HZ1 hown1
            go_wp2_with (at_builtin; refine wpList_append_own _ rfl _ _ 35 rfl Z 3 i0 (.int .i64 0) 1 8 Try.underlying35 hi hz0 hz1 hz2 rfl (by decide) _ _ _ rfl hown2 ad (i - (0)) (cp - (0)) (cellsI (r.drop (0))) rfl ?_ ?_ ?_ ?_ ?_ ?_ ?_)
            · unfold cellsI; rw [List.length_map, List.length_drop, Nat.mul_one]; have := HLEN.out; omega
            · exact suf_cells HO2.out hki HLEN.out HAD.out
            · exact cellsI_one _
            · unfold maxLen; omega
            · omega
            · exact HZ2.out
            intro v3 w3 hown3 hgrow3 hnn
            clear hnn
            have hb3 : Below w.heap.size w w3 := hb2.grown hgrow3 hb2.size (fun q hq => by have := (hown2.lt q hq).1; omega)
            have HO3 : Hid (w3.ownsRow w.heap.size 3 1 v3 (i + 1) (cellsI (r.take (0) ++ [(i : Int)] ++ r.drop (0)))) := by
              refine own_whole (k := 0) hwZ hki hown3 ?_ ?_
              · simp
              · omega
            clear hgrow3 hown3 hown2 hb2 HO2 HZ2 hs1 hs2 HAD
            go_wp2
            go_roundg (l.length - (i + 1))
            case measure => omega
            case rel => exact ⟨hb3, i + 1, _, by go_num, by omega, HST, (show Hid _ from fun h => by omega), HO3⟩
          · obtain ⟨kp, rfl⟩ : ∃ q, k = q + 1 := ⟨k - 1, by omega⟩
            have hlr := HS.out.1
            have hkr : kp < r.length := by omega
            obtain ⟨x, hx⟩ : ∃ x, x = r[kp] := ⟨_, rfl⟩
            have hxb := (HS.out.2.2 x).1 (by rw [hx]; exact List.getElem_mem hkr)
            have hx0 : 0 ≤ x := hxb.1
            have hxl : x < (l.length : Int) := by omega
            have hcx : wr.cell? ⟨g, kp, none⟩ = some (.int .i64 x) := by
              rw [hwr2]
              show wo.cell? ⟨g, kp, none⟩ = _
              rw [HO.out.cellAt kp (by omega), hx]
              unfold cellsI
              rw [List.getElem?_map, List.getElem?_eq_getElem hkr]; rfl
            obtain ⟨b', off', e', _, hcv⟩ := HR.out.at (i := x.toNat) (by unfold cellsF; rw [List.length_map]; omega)
            cases e'
            have bv := HW.out _ (List.getElem_mem (show x.toNat < l.length by omega))
            simp only [cellsF, List.getElem_map] at hcv
            obtain ⟨v, hv⟩ : ∃ v, v = l[x.toNat]'(by omega) := ⟨_, rfl⟩
            rw [← hv] at hcv bv
            have hkx : kyL l x = rk v := by unfold kyL; rw [List.getD_eq_getElem?_getD, List.getElem?_eq_getElem (by omega), hv]; rfl
            have hcv2 : wr.cell? ⟨b, off + x.toNat, none⟩ = some (.float .f64 v) := by rw [hwr2]; exact (hbl.cell (p := ⟨b, off + x.toNat, none⟩) hbB).trans hcv
            have HXK : Hid (kyL l (r[kp]'hkr) = rk v) := by show _ = _; rw [← hx]; exact hkx
            have hkd : decide ((kp : Int) + 1 > 0) = true := decide_eq_true (by omega)
            have hkz : (0 : Int) < (kp : Int) + 1 := by omega
            have hki' : (kp : Int) < (i : Int) := by omega
            have HLR := Lib.hid hlr
            have HWR := Lib.hid hwr2
            clear hx hxb hcv hv hkx hlr hwr2
            cases hl1 : lessB u v with
            | true =>
              have HK2 : Hid (∀ j (hj : j < r.length), kp ≤ j → kyL l (i : Int) < kyL l r[j]) := fun j hj hkj => by
                by_cases q : j = kp
                · subst q; rw [HU.out, HXK.out]; exact of_decide_eq_true hl1
                · exact HK.out j hj (by omega)
              go_wp2_with fail
              go_quiet (first | (go_at_call 18; refine Calls.quiet_of_same (rless_same _ _ bi bv _)))
              go_wp2
              go_roundg kp
              case measure => omega
              case rel => exact ⟨kp, n + nq, by first | rfl | go_num | (congr 1 <;> omega), by omega, Nat.le_refl _, by rw [HWR.out, World.drewN_drewN], HK2⟩
            | false =>
              have HXL : Hid (¬ kyL l (i : Int) < kyL l (r[kp]'hkr)) := by
                show ¬ _
                rw [HU.out, HXK.out]; exact of_decide_eq_false hl1
              go_wp2_with fail
              go_quiet (first | (go_at_call 18; refine Calls.quiet_of_same (rless_same _ _ bi bv _)))
              obtain ⟨ww, hww⟩ : ∃ ww, ww = wr.drewN nq := ⟨_, rfl⟩
              rw [← hww]
              rw [HWR.out] at hww
              clear HWR hcw2 hcx hcv2 hkd hl1 HXK bv
              have HX : Hid (∀ hk : kp + 1 - 1 < r.length, kp + 1 = 0 ∨ ¬ kyL l (i : Int) < kyL l (r[kp + 1 - 1]'hk)) := fun hk => .inr (show ¬ kyL l (i : Int) < kyL l (r[kp]'hkr) from by have := HXL.out; omega)
              obtain ⟨Z, hZ⟩ : ∃ Z, Z = wo.heap.size := ⟨_, rfl⟩
              have HZ : Hid (Z = ww.heap.size) := by rw [hww, hZ]; rfl
              have hgZ : g < Z := by rw [hZ]; exact hgl.2
              have hwZ : w.heap.size ≤ Z := by rw [hZ]; exact hbl.size
              have HOw : Hid (ww.ownsRow w.heap.size 3 1 (.slice (some ⟨g, 0, none⟩) i cp) i (cellsI r)) := by show World.ownsRow _ _ _ _ _ _ _; rw [hww]; exact HO.out
              have hbw : Below w.heap.size w ww := by rw [hww]; exact ⟨hbl.os, hbl.tape, hbl.output, hbl.size, hbl.block⟩
              have HST := Lib.hid (HS.out.next (k := kp + 1) hki HK.out HX.out)
              have hs1 := slice_pre g i cp (kp + 1) ((kp : Int) + 1) (by omega) (by omega)
              obtain ⟨ad, hs2, had⟩ := slice_suf g i cp (kp + 1) ((kp : Int) + 1) (by omega) hki
              have HAD := Lib.hid had
              have HLEN := Lib.hid HS.out.1
              have hgl2 := hgl.1
              clear had hww hZ HK HX hbl HCW HU hcp hgl HO
              go_wp2_with (at_builtin; refine wpList_append_own _ rfl _ _ 35 rfl Z 3 i0 (.int .i64 0) 1 8 Try.underlying35 hi hz0 hz1 hz2 rfl (by decide) _ _ _ rfl (World.ownsRow_nil _ _ _ _) ⟨g, 0, none⟩ (kp + 1) cp (cellsI (r.take (kp + 1))) rfl ?_ ?_ ?_ ?_ ?_ ?_ ?_)
              · unfold cellsI; rw [List.length_map, List.length_take, Nat.mul_one]; have := HLEN.out; omega
              · intro j x hj; refine HOw.out.cells (g := g) rfl j x ?_; exact cellsI_take hj
              · exact cellsI_one _
              · unfold maxLen; omega
              · omega
              · rw [HZ.out]; exact Nat.le_refl _
              intro v1 w1 hown1 hgrow1 hnn
              clear hnn
              have hb1 : Below w.heap.size w w1 := hbw.grown hgrow1 hbw.size (fun g hg => by cases hg)
              have HO1 : Hid (w1.ownsRow w.heap.size 3 1 (.slice (some ⟨g, 0, none⟩) i cp) i (cellsI r)) := HOw.out.kept hgrow1 (.inr (fun h => by cases h))
              have HZ1 : Hid (Z ≤ w1.heap.size) := by show Z ≤ _; rw [HZ.out]; exact hgrow1.size
              have HL1 : Hid (v1.ownBlock ≠ some g) := own_ne hown1 hgZ
              clear hgrow1 HOw hbw HZ
              go_wp2_with (at_builtin; refine wpList_append_own _ rfl _ _ 35 rfl Z 3 i0 (.int .i64 0) 1 8 Try.underlying35 hi hz0 hz1 hz2 rfl (by decide) _ _ _ rfl (hown1.alloc _) ⟨w1.heap.size, 0, none⟩ 1 1 [.int .i64 (i : Int)] rfl rfl ?_ ?_ ?_ ?_ ?_ ?_)
              · exact cell_one_new _ _ _
              · intro u hu; rw [List.mem_singleton] at hu; subst hu; rfl
              · unfold maxLen; omega
              · omega
              · have := HZ1.out; simp; omega
              intro v2 w2 hown2 hgrow2 hnn
              clear hnn
              have hb2 : Below w.heap.size w w2 := (hb1.alloc hb1.size _).grown hgrow2 (by have := hb1.size; simp; omega) (fun q hq => by have := (hown1.lt q hq).1; omega)
              have HO2 : Hid (w2.ownsRow w.heap.size 3 1 (.slice (some ⟨g, 0, none⟩) i cp) i (cellsI r)) := (HO1.out.alloc _).kept hgrow2 (.inr (fun h => HL1.out h.symm))
              have HZ2 : Hid (Z ≤ w2.heap.size) := by show Z ≤ _; have := HZ1.out; have := hgrow2.size; simp at this; omega
              clear hgrow2 HO1 hb1 HL1 HZ1 hown1
              go_wp2_with (at_builtin; refine wpList_append_own _ rfl _ _ 35 rfl Z 3 i0 (.int .i64 0) 1 8 Try.underlying35 hi hz0 hz1 hz2 rfl (by decide) _ _ _ rfl hown2 ad (i - (kp + 1)) (cp - (kp + 1)) (cellsI (r.drop (kp + 1))) rfl ?_ ?_ ?_ ?_ ?_ ?_ ?_)
              · unfold cellsI; rw [List.length_map, List.length_drop, Nat.mul_one]; have := HLEN.out; omega
              · exact suf_cells HO2.out hki HLEN.out HAD.out
              · exact cellsI_one _
              · unfold maxLen; omega
              · omega
              · exact HZ2.out
              intro v3 w3 hown3 hgrow3 hnn
              clear hnn
              have hb3 : Below w.heap.size w w3 := hb2.grown hgrow3 hb2.size (fun q hq => by have := (hown2.lt q hq).1; omega)
              have HO3 : Hid (w3.ownsRow w.heap.size 3 1 v3 (i + 1) (cellsI (r.take (kp + 1) ++ [(i : Int)] ++ r.drop (kp + 1)))) := by
                refine own_whole (k := kp + 1) hwZ hki hown3 ?_ ?_
                · simp
                · omega
              clear hgrow3 hown3 hown2 hb2 HO2 HZ2 hs1 hs2 HAD
              go_wp2
              go_roundg (l.length - (i + 1))
              case measure => omega
              case rel => exact ⟨hb3, i + 1, _, by go_num, by omega, HST, (show Hid _ from fun h => by omega), HO3⟩
    · have hil : i = l.length := by omega
      have HIL := Lib.hid hil
      clear hil
      go_wp2
      go_ret
      have e := HIL.out
      subst e
      obtain ⟨A2, c2, rfl, hrd⟩ := own_form HO.out
      exact RetS.of HS.out hrd HO.out hbl
end Go.Proofs.Ytbpcggoplacplaa
