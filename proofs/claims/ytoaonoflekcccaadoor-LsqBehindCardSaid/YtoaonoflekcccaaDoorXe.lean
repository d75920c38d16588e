/- Package lsq: a flight in memory; ContainsFunc over its two closures. -/
import Derived.Test.YtoaonoflekcccaaDoorXd
import Derived.LoopTactic
import Derived.Deep.WholeRow
import Derived.Deep.DeepCutAuto
import Derived.Deep.LoopGhost
set_option maxRecDepth 100000
set_option linter.unusedVariables false
namespace Go.Proofs.YtoaonoflekcccaaDoor
open Go.RowKit

theorem rd_slt {w : World} {B : Nat} {A : Option Addr} {l : List Slt} (h : Rd w B A (cellsS l)) {k : Nat} (hk : k < l.length) : ∃ b off, A = some ⟨b, off, none⟩ ∧ b < B ∧ ∀ j v, (sltC (sAt l k))[j]? = some v → w.cell? ⟨b, off + k * 18 + j, none⟩ = some v := by
  have hz : ∀ x : Slt, (sltC x).toList.length = 18 := fun _ => rfl
  have es : sAt l k = l[k] := by unfold sAt; rw [List.getElem?_eq_getElem hk]; rfl
  rw [es]
  rcases h with h0 | ⟨b, off, rfl, hb, hc⟩
  · have := flat_len (fun x : Slt => (sltC x).toList) 18 hz l
    rw [show l.flatMap (fun x : Slt => (sltC x).toList) = [] from h0] at this
    simp at this
    omega
  · refine ⟨b, off, rfl, hb, fun j v hv => ?_⟩
    have hj : j < 18 := by have := (Array.getElem?_eq_some_iff.1 hv).1; exact this
    have e := flat_at (fun x : Slt => (sltC x).toList) 18 hz l k j hj
    rw [List.getElem?_eq_getElem hk] at e
    have := hc (k * 18 + j) v (e.trans (by simpa using hv))
    rw [← Nat.add_assoc] at this
    exact this
theorem rdS_take {w : World} {B : Nat} {A : Option Addr} {l : List Slt} (h : Rd w B A (cellsS l)) (m : Nat) : Rd w B A (cellsS (l.take m)) := by
  rcases h with h0 | ⟨b, off, rfl, hb, hc⟩
  · left
    have hz : ∀ x : Slt, (sltC x).toList.length = 18 := fun _ => rfl
    have := flat_len (fun x : Slt => (sltC x).toList) 18 hz l
    rw [show l.flatMap (fun x : Slt => (sltC x).toList) = [] from h0] at this
    have hl : l = [] := List.eq_nil_of_length_eq_zero (by simp at this; omega)
    rw [hl, List.take_nil]
    rfl
  · refine .inr ⟨b, off, rfl, hb, fun i v hv => hc i v ?_⟩
    have e : cellsS l = cellsS (l.take m) ++ cellsS (l.drop m) := by
      unfold cellsS
      rw [← List.flatMap_append, List.take_append_drop]
    rw [e, List.getElem?_append_left (List.getElem?_eq_some_iff.1 hv).1]
    exact hv
theorem wsl_take {l : List Slt} (h : Wslts l) (m : Nat) : Wslts (l.take m) := fun x hx => h x (List.mem_of_mem_take hx)
theorem wsl_at {l : List Slt} (h : Wslts l) {k : Nat} (hk : k < l.length) : Wslt (sAt l k) := by
  have es : sAt l k = l[k] := by unfold sAt; rw [List.getElem?_eq_getElem hk]; rfl
  rw [es]; exact h _ (List.getElem_mem hk)
/-- A whole slot, loaded from a list. -/
theorem ex_slt {P : Program} {o : Oper} {a : Act} {w : World} {ty : TypeId} {x : Operand} {g k : Nat} (C : Slt) (ho : o.op = .load ty x) (hx : a.eval x = .pointer (some ⟨g, k, none⟩)) (hc : ∀ j v, (sltC C)[j]? = some v → w.cell? ⟨g, k + j, none⟩ = some v)
    {d : TypeDesc} (hu : P.underlying ty = some d) (hd : d.isRow = true) (hi : (P.info? ty).map (·.size) = some 18) : (execOp a.eval o).run P w = .ok (.value (.agg (sltC C))) w :=
  Hz.ex_load_cells (sltC C).toList ho hx (fun j v hv => hc j v (by simpa using hv)) hu hd hi
/-- A whole slot goes into a new block. -/
theorem slt_store (C : Slt) (w : World) (c : Array Value) (hc : c.size = 18) : (Instr.storeAt 29 (.pointer (some ⟨w.heap.size, 0, none⟩)) (.agg (sltC C))).run Tryd.prog (w.alloc (.cells c 29)) = .ok () (w.alloc (.cells (sltC C) 29)) := by
  have h := run_storeVar_new (P := Tryd.prog) w 29 c (sltC C) (by kernel_rfl) hc (by unfold sltC; simp [Value.oneCell'])
  simp only [Instr.storeAt, Instr.sureAddr, Sem.run_bind, Sem.run_pure, Result.andThen_ok, h]
/-- Where a flight lies: cells of its slot k, in every world behind W. -/
structure FL (l : List Slt) (A : Option Addr) (W : World) : Prop where
  rd : Rd W W.heap.size A (cellsS l)
  ws : Wslts l
  tab : TabL W
  len : l.length ≤ 1000
theorem FL.take {l : List Slt} {A : Option Addr} {W : World} (h : FL l A W) (m : Nat) : FL (l.take m) A W := ⟨rdS_take h.rd m, wsl_take h.ws m, h.tab, by have := h.len; rw [List.length_take]; omega⟩
theorem FL.on {l : List Slt} {A : Option Addr} {W y : World} (h : FL l A W) (k : BW W y) : FL l A y := ⟨(h.rd.below k).mono (Below.size k), h.ws, h.tab.below k, h.len⟩
theorem FL.cells {l : List Slt} {A : Option Addr} {W : World} (h : FL l A W) {k : Nat} (hk : k < l.length) : ∃ b off, A = some ⟨b, off, none⟩ ∧ b < W.heap.size ∧ ∀ y, BW W y → ∀ j v, (sltC (sAt l k))[j]? = some v → y.cell? ⟨b, off + k * 18 + j, none⟩ = some v := by
  obtain ⟨b, off, e, hb, hc⟩ := rd_slt h.rd hk
  exact ⟨b, off, e, hb, fun y hy j v hv => (Below.cell hy (p := ⟨b, off + k * 18 + j, none⟩) hb).trans (hc j v hv)⟩
theorem FL.at {l : List Slt} {A : Option Addr} {W : World} (h : FL l A W) {k : Nat} (hk : k < l.length) : Wslt (sAt l k) := wsl_at h.ws hk
theorem sAt_eq {l : List Slt} {k : Nat} (hk : k < l.length) : sAt l k = l[k] := by unfold sAt; rw [List.getElem?_eq_getElem hk]; rfl

/-! ### The closures -/
theorem waits1_c (x : Slt) (hx : Wslt x) (w : World) (hT : TabL w) : Calls Tryd.prog 13 #[sltV x] w fun e w' => e = .returned (.bool (atS x && x.aq)) ∧ BW w w' := by
  have HX := Lib.hid (XS.new (sltC x) w)
  have HA := Lib.hid (fun y (h : BW w y) => isAtomic_c x hx y (hT.below h))
  clear hx hT
  have HC : Hid (∀ y : World, XS (sltC x) w w.heap.size y → y.cell? ⟨w.heap.size, 3, none⟩ = some (.bool x.aq)) := fun y h => h.blk.cell 3
  unfold sltV
  generalize atS x = a1 at *
  generalize x.aq = q1 at *
  cases a1
  all_goals
    go_enter Tryd.func13, Tryd.ntmps13
    go_wp2_with (first
      | (go_at_call 14; refine (HA.out _ HX.out.low).mono ?_; rintro e w2 ⟨rfl, hb2⟩; have HX2 := Lib.hid (HX.out.on hb2); have c3 := HC.out _ HX2.out; clear hb2)
      | (with_reducible refine load_blk (o := ⟨some 3, .load _ (.tmp 1), _, _, _, _⟩) rfl 29 (.tmp 1) rfl HX.out.blk rfl Tryd.underlying29 rfl (by kernel_rfl) ?_))
    go_ret
    exact ⟨rfl, HX2.out.low⟩
theorem waits2_c (x z : Slt) (hx : Wslt x) (hz : Wslt z) (B : Nat) (w : World) (hB : Blk (sltC z) 29 B w) (hT : TabL w) : Calls Tryd.prog 16 #[sltV x, .pointer (some ⟨B, 0, none⟩)] w fun e w' => e = .returned (.bool (atS x && ovS x z)) ∧ BW w w' := by
  have HX := Lib.hid (XS.new (sltC x) w)
  have HA := Lib.hid (fun y (h : BW w y) => isAtomic_c x hx y (hT.below h))
  have HO := Lib.hid (fun y (h : BW w y) => overlap_c x z hx hz y (hT.below h))
  have HZ := Lib.hid (fun y (h : BW w y) => hB.on h)
  clear hx hz hT hB
  unfold sltV at HA HO ⊢
  generalize atS x = a1 at *
  generalize ovS x z = q1 at *
  cases a1
  · clear HO HZ
    go_enter Tryd.func16, Tryd.ntmps16
    go_wp2_with (first
      | (go_at_call 14; refine (HA.out _ HX.out.low).mono ?_; rintro e w2 ⟨rfl, hb2⟩; have HX2 := Lib.hid (HX.out.on hb2); clear hb2)
      | (with_reducible refine load_blk (o := ⟨some 4, .load _ (.tmp 2), _, _, _, _⟩) rfl 29 (.tmp 2) rfl HX.out.blk rfl Tryd.underlying29 rfl (by kernel_rfl) ?_))
    go_ret
    exact ⟨rfl, HX2.out.low⟩
  · go_enter Tryd.func16, Tryd.ntmps16
    go_wp2_with (first
      | (go_at_call 14; refine (HA.out _ HX.out.low).mono ?_; rintro e w2 ⟨rfl, hb2⟩; have HX2 := Lib.hid (HX.out.on hb2); clear hb2)
      | (go_at_call 17; refine (HO.out _ HX2.out.low).mono ?_; rintro e w3 ⟨rfl, hb3⟩; have HX3 := Lib.hid (HX2.out.on hb3); clear hb3)
      | (with_reducible refine load_blk (o := ⟨some 4, .load _ (.tmp 2), _, _, _, _⟩) rfl 29 (.tmp 2) rfl HX.out.blk rfl Tryd.underlying29 rfl (by kernel_rfl) ?_)
      | (with_reducible refine Hz.val_arm (o := ⟨some 7, .load _ _, _, _, _, _⟩) (by kernel_rfl) (Hz.ex_load_all 29 (.tmp 2) rfl rfl HX2.out.blk Tryd.underlying29 rfl (by kernel_rfl)) ?_)
      | (with_reducible refine Hz.val_arm (o := ⟨some 8, .load _ _, _, _, _, _⟩) (by kernel_rfl) (Hz.ex_load_all 29 (.tmp 1) rfl rfl (HZ.out _ HX2.out.low) Tryd.underlying29 rfl (by kernel_rfl)) ?_))
    go_ret
    exact ⟨rfl, HX3.out.low⟩
set_option maxHeartbeats 2000000 in
theorem indexF1_c {l : List Slt} {A : Option Addr} {w : World} (h : FL l A w) (cap : Nat) (p : Slt → Bool) (hp : ∀ y, BW w y → ∀ x ∈ l, Calls Tryd.prog 13 #[sltV x] y fun e w' => e = .returned (.bool (p x)) ∧ BW y w') :
    Calls Tryd.prog 26 #[.slice A l.length cap, .func (.func 13) #[] #[]] w fun e w' => (∃ i, e = .returned (.int .i64 i) ∧ ((i = -1 ∧ l.any p = false) ∨ (0 ≤ i ∧ l.any p = true))) ∧ BW w w' := by
  have HA := Lib.hid (fun k (hk : k < l.length) => h.cells hk)
  have HP := Lib.hid hp
  have hL := h.len
  have HE1 : Hid ((∀ j, j < l.length → p (sAt l j) = false) → l.any p = false) := by
    intro hh
    rw [Bool.eq_false_iff]
    intro ht
    obtain ⟨x, hx, hpx⟩ := List.any_eq_true.1 ht
    obtain ⟨j, hj, rfl⟩ := List.getElem_of_mem hx
    have := hh j hj
    rw [sAt_eq hj, hpx] at this
    exact absurd this (by decide)
  have HE2 : Hid (∀ j, j < l.length → p (sAt l j) = true → l.any p = true) := by
    intro j hj hh
    rw [sAt_eq hj] at hh
    exact List.any_eq_true.2 ⟨_, List.getElem_mem hj, hh⟩
  have HM : Hid (∀ j, j < l.length → sAt l j ∈ l) := fun j hj => by rw [sAt_eq hj]; exact List.getElem_mem hj
  obtain ⟨L, HL⟩ : ∃ L, l.length = L := ⟨_, rfl⟩
  rw [HL] at HA HE1 HE2 HM hL ⊢
  clear hp h HL
  go_enter Tryd.func26, Tryd.ntmps26
  go_wp2
  go_loopw [5, 8] (fun _ i wx => ∃ k : Nat, k ≤ L ∧ i = .int .i64 (k : Int) ∧ Hid (BW w wx ∧ ∀ j, j < k → p (sAt l j) = false)) (fun _ i _ => L - (intOf i).toNat)
  case atStart => exact ⟨0, by omega, rfl, Below.refl _ _, fun j hj => by omega⟩
  case round =>
    obtain ⟨k, hk, rfl, HH⟩ := hrel
    by_cases hlt : k < L
    · have hltI : (k : Int) < (L : Int) := by omega
      obtain ⟨b, off, rfl, hb, hcs⟩ := HA.out k hlt
      have HCS := Lib.hid (hcs _ HH.out.1)
      have HK := Lib.hid (HP.out _ HH.out.1 _ (HM.out k hlt))
      clear hcs
      cases hx : p (sAt l k) with
      | true =>
        have HX := Lib.hid (HE2.out k hlt hx)
        rw [hx] at HK
        clear hx
        generalize sAt l k = x at *
        unfold sltV at HK
        go_wp2_with (first
          | (with_reducible refine Hz.val_arm (o := ⟨some 15, .load _ _, _, _, _, _⟩) (by kernel_rfl) (ex_slt x rfl rfl HCS.out Tryd.underlying29 rfl (by kernel_rfl)) ?_)
          | (go_at_call 13; refine HK.out.mono ?_; rintro e w2 ⟨rfl, hb2⟩; have HB2 := Lib.hid (BW.on HH.out.1 hb2); clear hb2))
        go_ret
        exact ⟨⟨_, rfl, .inr ⟨by omega, HX.out⟩⟩, HB2.out⟩
      | false =>
        have HN : Hid (∀ j, j < k + 1 → p (sAt l j) = false) := fun j hj => by
          by_cases hjk : j = k
          · rw [hjk]; exact hx
          · exact HH.out.2 j (by omega)
        rw [hx] at HK
        clear hx
        generalize sAt l k = x at *
        unfold sltV at HK
        go_wp2_with (first
          | (with_reducible refine Hz.val_arm (o := ⟨some 15, .load _ _, _, _, _, _⟩) (by kernel_rfl) (ex_slt x rfl rfl HCS.out Tryd.underlying29 rfl (by kernel_rfl)) ?_)
          | (go_at_call 13; refine HK.out.mono ?_; rintro e w2 ⟨rfl, hb2⟩; have HB2 := Lib.hid (BW.on HH.out.1 hb2); clear hb2))
        go_roundw
        case rel => exact ⟨k + 1, by omega, by first | rfl | go_num, HB2.out, HN.out⟩
        case measure => simp [intOf]; omega
    · obtain rfl : k = L := by omega
      go_wp2
      go_ret
      exact ⟨⟨_, rfl, .inl ⟨rfl, HE1.out HH.out.2⟩⟩, HH.out.1⟩
theorem contF1_c {l : List Slt} {A : Option Addr} {w : World} (h : FL l A w) (cap : Nat) (p : Slt → Bool) (hp : ∀ y, BW w y → ∀ x ∈ l, Calls Tryd.prog 13 #[sltV x] y fun e w' => e = .returned (.bool (p x)) ∧ BW y w') :
    Calls Tryd.prog 12 #[.slice A l.length cap, .func (.func 13) #[] #[]] w fun e w' => e = .returned (.bool (l.any p)) ∧ BW w w' := by
  have HI := Lib.hid (indexF1_c h cap p hp)
  clear h hp
  go_enter Tryd.func12, Tryd.ntmps12
  go_wp2_with (first
    | (go_at_call 26; refine HI.out.mono ?_; rintro e w2 ⟨⟨i, rfl, hi⟩, hb⟩))
  go_ret
  refine ⟨?_, hb⟩
  rcases hi with ⟨rfl, hn⟩ | ⟨h0, hn⟩
  · rw [hn]; rfl
  · rw [hn, decide_eq_true h0]; rfl
set_option maxHeartbeats 2000000 in
theorem indexF2_c {l : List Slt} {A : Option Addr} {w : World} (h : FL l A w) (cap : Nat) (p : Slt → Bool) (B : Nat) (hp : ∀ y, BW w y → ∀ x ∈ l, Calls Tryd.prog 16 #[sltV x, .pointer (some ⟨B, 0, none⟩)] y fun e w' => e = .returned (.bool (p x)) ∧ BW y w') :
    Calls Tryd.prog 26 #[.slice A l.length cap, .func (.func 16) #[] #[.pointer (some ⟨B, 0, none⟩)]] w fun e w' => (∃ i, e = .returned (.int .i64 i) ∧ ((i = -1 ∧ l.any p = false) ∨ (0 ≤ i ∧ l.any p = true))) ∧ BW w w' := by
  have HA := Lib.hid (fun k (hk : k < l.length) => h.cells hk)
  have HP := Lib.hid hp
  have hL := h.len
  have HE1 : Hid ((∀ j, j < l.length → p (sAt l j) = false) → l.any p = false) := by
    intro hh
    rw [Bool.eq_false_iff]
    intro ht
    obtain ⟨x, hx, hpx⟩ := List.any_eq_true.1 ht
    obtain ⟨j, hj, rfl⟩ := List.getElem_of_mem hx
    have := hh j hj
    rw [sAt_eq hj, hpx] at this
    exact absurd this (by decide)
  have HE2 : Hid (∀ j, j < l.length → p (sAt l j) = true → l.any p = true) := by
    intro j hj hh
    rw [sAt_eq hj] at hh
    exact List.any_eq_true.2 ⟨_, List.getElem_mem hj, hh⟩
  have HM : Hid (∀ j, j < l.length → sAt l j ∈ l) := fun j hj => by rw [sAt_eq hj]; exact List.getElem_mem hj
  obtain ⟨L, HL⟩ : ∃ L, l.length = L := ⟨_, rfl⟩
  rw [HL] at HA HE1 HE2 HM hL ⊢
  clear hp h HL
  go_enter Tryd.func26, Tryd.ntmps26
  go_wp2
  go_loopw [5, 8] (fun _ i wx => ∃ k : Nat, k ≤ L ∧ i = .int .i64 (k : Int) ∧ Hid (BW w wx ∧ ∀ j, j < k → p (sAt l j) = false)) (fun _ i _ => L - (intOf i).toNat)
  case atStart => exact ⟨0, by omega, rfl, Below.refl _ _, fun j hj => by omega⟩
  case round =>
    obtain ⟨k, hk, rfl, HH⟩ := hrel
    by_cases hlt : k < L
    · have hltI : (k : Int) < (L : Int) := by omega
      obtain ⟨b, off, rfl, hb, hcs⟩ := HA.out k hlt
      have HCS := Lib.hid (hcs _ HH.out.1)
      have HK := Lib.hid (HP.out _ HH.out.1 _ (HM.out k hlt))
      clear hcs
      cases hx : p (sAt l k) with
      | true =>
        have HX := Lib.hid (HE2.out k hlt hx)
        rw [hx] at HK
        clear hx
        generalize sAt l k = x at *
        unfold sltV at HK
        go_wp2_with (first
          | (with_reducible refine Hz.val_arm (o := ⟨some 15, .load _ _, _, _, _, _⟩) (by kernel_rfl) (ex_slt x rfl rfl HCS.out Tryd.underlying29 rfl (by kernel_rfl)) ?_)
          | (go_at_call 16; refine HK.out.mono ?_; rintro e w2 ⟨rfl, hb2⟩; have HB2 := Lib.hid (BW.on HH.out.1 hb2); clear hb2))
        go_ret
        exact ⟨⟨_, rfl, .inr ⟨by omega, HX.out⟩⟩, HB2.out⟩
      | false =>
        have HN : Hid (∀ j, j < k + 1 → p (sAt l j) = false) := fun j hj => by
          by_cases hjk : j = k
          · rw [hjk]; exact hx
          · exact HH.out.2 j (by omega)
        rw [hx] at HK
        clear hx
        generalize sAt l k = x at *
        unfold sltV at HK
        go_wp2_with (first
          | (with_reducible refine Hz.val_arm (o := ⟨some 15, .load _ _, _, _, _, _⟩) (by kernel_rfl) (ex_slt x rfl rfl HCS.out Tryd.underlying29 rfl (by kernel_rfl)) ?_)
          | (go_at_call 16; refine HK.out.mono ?_; rintro e w2 ⟨rfl, hb2⟩; have HB2 := Lib.hid (BW.on HH.out.1 hb2); clear hb2))
        go_roundw
        case rel => exact ⟨k + 1, by omega, by first | rfl | go_num, HB2.out, HN.out⟩
        case measure => simp [intOf]; omega
    · obtain rfl : k = L := by omega
      go_wp2
      go_ret
      exact ⟨⟨_, rfl, .inl ⟨rfl, HE1.out HH.out.2⟩⟩, HH.out.1⟩
theorem contF2_c {l : List Slt} {A : Option Addr} {w : World} (h : FL l A w) (cap : Nat) (p : Slt → Bool) (B : Nat) (hp : ∀ y, BW w y → ∀ x ∈ l, Calls Tryd.prog 16 #[sltV x, .pointer (some ⟨B, 0, none⟩)] y fun e w' => e = .returned (.bool (p x)) ∧ BW y w') :
    Calls Tryd.prog 12 #[.slice A l.length cap, .func (.func 16) #[] #[.pointer (some ⟨B, 0, none⟩)]] w fun e w' => e = .returned (.bool (l.any p)) ∧ BW w w' := by
  have HI := Lib.hid (indexF2_c h cap p B hp)
  clear h hp
  go_enter Tryd.func12, Tryd.ntmps12
  go_wp2_with (first
    | (go_at_call 26; refine HI.out.mono ?_; rintro e w2 ⟨⟨i, rfl, hi⟩, hb⟩))
  go_ret
  refine ⟨?_, hb⟩
  rcases hi with ⟨rfl, hn⟩ | ⟨h0, hn⟩
  · rw [hn]; rfl
  · rw [hn, decide_eq_true h0]; rfl
end Go.Proofs.YtoaonoflekcccaaDoor
