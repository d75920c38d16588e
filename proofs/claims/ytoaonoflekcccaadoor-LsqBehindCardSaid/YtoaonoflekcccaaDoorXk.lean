/- Package lsq: Waits. -/
import Derived.Test.YtoaonoflekcccaaDoorXj
set_option maxRecDepth 100000
set_option linter.unusedVariables false
namespace Go.Proofs.YtoaonoflekcccaaDoor
open Go.RowKit

set_option maxHeartbeats 4000000 in
theorem waits_no {l : List Slt} {A : Option Addr} {w : World} (h : FL l A w) (cap : Nat) (i : Int) (e : Bool) (hp : ¬ (0 ≤ i ∧ i < l.length)) :
    Calls Tryd.prog 5 #[.slice A l.length cap, .int .i64 i, .bool e] w fun r w' => r = .returned (.int .i64 (waitS l i e)) ∧ BW w w' := by
  have HE : Hid (waitS l i e = -1) := by show _ = _; unfold waitS; rw [if_neg (fun a => hp ⟨a.1, a.2.1⟩)]
  have HPL := Lib.hid (isPlace_c A l.length cap i w)
  rw [decide_eq_false hp] at HPL
  clear h hp
  generalize l.length = L at *
  go_enter Tryd.func5, Tryd.ntmps5
  go_wp2_with (first
    | (go_at_call 10; refine HPL.out.mono ?_; rintro e1 w1 ⟨rfl, rfl⟩))
  go_ret
  exact ⟨by rw [HE.out]; rfl, Below.refl _ _⟩
set_option maxHeartbeats 4000000 in
theorem waits_none {l : List Slt} {A : Option Addr} {w : World} (h : FL l A w) (cap : Nat) (i : Nat) (e : Bool) (hi : i < l.length) (hn : ¬ (ldS (sAt l i) = true ∧ (sAt l i).known = true ∧ (sAt l i).bound = false)) :
    Calls Tryd.prog 5 #[.slice A l.length cap, .int .i64 (i : Int), .bool e] w fun r w' => r = .returned (.int .i64 (waitS l i e)) ∧ BW w w' := by
  have HE : Hid (waitS l i e = -1) := by show _ = _; unfold waitS; rw [Int.toNat_natCast, if_neg (fun a => hn ⟨a.2.2.1, a.2.2.2.1, a.2.2.2.2⟩)]
  have HPL := Lib.hid (isPlace_c A l.length cap (i : Int) w)
  rw [decide_eq_true (⟨by omega, by omega⟩ : 0 ≤ (i : Int) ∧ (i : Int) < l.length)] at HPL
  obtain ⟨b, off, rfl, hb, hcs⟩ := h.cells hi
  have HCS := Lib.hid hcs
  have HCW := Lib.hid (hcs w (Below.refl _ _))
  have HLD := Lib.hid (isLoad_c (sAt l i) (h.at hi) w h.tab)
  have HK5 : Hid (∀ y, BW w y → y.cell? ⟨b, off + i * 18 + 5, none⟩ = some (.bool (sAt l i).known)) := fun y hy => hcs y hy 5 _ rfl
  have HK9 : Hid (∀ y, BW w y → y.cell? ⟨b, off + i * 18 + 9, none⟩ = some (.bool (sAt l i).bound)) := fun y hy => hcs y hy 9 _ rfl
  have hiI : (0 : Int) ≤ (i : Int) ∧ (i : Int) < (l.length : Int) := by omega
  unfold sltV at HLD
  clear h hcs
  cases hl : ldS (sAt l i) with
  | false =>
    rw [hl] at HLD
    clear hl hn
    go_enter Tryd.func5, Tryd.ntmps5
    go_wp2_with (first
      | (go_at_call 10; refine HPL.out.mono ?_; rintro e1 w1 ⟨rfl, rfl⟩)
      | (with_reducible refine Hz.val_arm (o := ⟨some 17, .load _ _, _, _, _, _⟩) (by kernel_rfl) (ex_slt (sAt l i) rfl rfl HCW.out Tryd.underlying29 rfl (by kernel_rfl)) ?_)
      | (go_at_call 11; refine HLD.out.mono ?_; rintro e2 w2 ⟨rfl, hb2⟩; have HB2 := Lib.hid hb2; clear hb2))
    go_ret
    exact ⟨by rw [HE.out]; rfl, HB2.out⟩
  | true =>
    rw [hl] at HLD
    cases hk : (sAt l i).known with
    | false =>
      rw [hk] at HK5
      clear hl hn hk
      go_enter Tryd.func5, Tryd.ntmps5
      go_wp2_with (first
        | (go_at_call 10; refine HPL.out.mono ?_; rintro e1 w1 ⟨rfl, rfl⟩)
        | (with_reducible refine Hz.val_arm (o := ⟨some 17, .load _ _, _, _, _, _⟩) (by kernel_rfl) (ex_slt (sAt l i) rfl rfl HCW.out Tryd.underlying29 rfl (by kernel_rfl)) ?_)
        | (go_at_call 11; refine HLD.out.mono ?_; rintro e2 w2 ⟨rfl, hb2⟩; have HB2 := Lib.hid hb2; have c5 := HK5.out _ HB2.out; clear hb2))
      go_ret
      exact ⟨by rw [HE.out]; rfl, HB2.out⟩
    | true =>
      have hbd : (sAt l i).bound = true := by
        cases hb2 : (sAt l i).bound with
        | true => rfl
        | false => exact absurd ⟨hl, hk, hb2⟩ hn
      rw [hk] at HK5
      rw [hbd] at HK9
      clear hl hn hk hbd
      go_enter Tryd.func5, Tryd.ntmps5
      go_wp2_with (first
        | (go_at_call 10; refine HPL.out.mono ?_; rintro e1 w1 ⟨rfl, rfl⟩)
        | (with_reducible refine Hz.val_arm (o := ⟨some 17, .load _ _, _, _, _, _⟩) (by kernel_rfl) (ex_slt (sAt l i) rfl rfl HCW.out Tryd.underlying29 rfl (by kernel_rfl)) ?_)
        | (go_at_call 11; refine HLD.out.mono ?_; rintro e2 w2 ⟨rfl, hb2⟩; have HB2 := Lib.hid hb2; have c5 := HK5.out _ HB2.out; have c9 := HK9.out _ HB2.out; clear hb2))
      go_ret
      exact ⟨by rw [HE.out]; rfl, HB2.out⟩
set_option maxHeartbeats 8000000 in
theorem waits_load {l : List Slt} {A : Option Addr} {w : World} (h : FL l A w) (cap : Nat) (hcap : l.length ≤ cap) (i : Nat) (e : Bool) (hi : i < l.length) (hl : ldS (sAt l i) = true) (hk : (sAt l i).known = true) (hbd : (sAt l i).bound = false) :
    Calls Tryd.prog 5 #[.slice A l.length cap, .int .i64 (i : Int), .bool e] w fun r w' => r = .returned (.int .i64 (waitS l i e)) ∧ BW w w' := by
  have HE0 : Hid (waitS l i e = if aqS (l.take i) = true then 1 else if fenG (false, !e) (l.take i) = true then 2 else if aoS (l.take i) (sAt l i) = true then 3 else if lckS l i = true then 4 else 0) := by
    show _ = _; unfold waitS; rw [Int.toNat_natCast, if_pos ⟨by omega, by omega, hl, hk, hbd⟩]
  have HPL := Lib.hid (isPlace_c A l.length cap (i : Int) w)
  rw [decide_eq_true (⟨by omega, by omega⟩ : 0 ≤ (i : Int) ∧ (i : Int) < l.length)] at HPL
  obtain ⟨b, off, rfl, hb, hcs⟩ := h.cells hi
  have HCS := Lib.hid hcs
  have HCW := Lib.hid (hcs w (Below.refl _ _))
  have HIL := Lib.hid hi
  have HIC := Lib.hid (show i ≤ cap by omega)
  have HLD := Lib.hid (isLoad_c (sAt l i) (h.at hi) w h.tab)
  rw [hl] at HLD
  have HK5 : Hid (∀ y, BW w y → y.cell? ⟨b, off + i * 18 + 5, none⟩ = some (.bool true)) := fun y hy => (hcs y hy 5 _ rfl).trans (congrArg (fun z => some (Value.bool z)) hk)
  have HK9 : Hid (∀ y, BW w y → y.cell? ⟨b, off + i * 18 + 9, none⟩ = some (.bool false)) := fun y hy => (hcs y hy 9 _ rfl).trans (congrArg (fun z => some (Value.bool z)) hbd)
  have hiI : (0 : Int) ≤ (i : Int) ∧ (i : Int) < (l.length : Int) := by omega
  have hlt := take_len l (show i ≤ l.length by omega)
  have HF1 : Hid (∀ y, BW w y → Calls Tryd.prog 12 #[.slice (some ⟨b, off, none⟩) i cap, .func (.func 13) #[] #[]] y fun e w' => e = .returned (.bool (aqS (l.take i))) ∧ BW y w') := fun y hy => by
    have hy2 := (h.take i).on hy
    have := contF1_c hy2 cap (fun x => atS x && x.aq) (fun z hz x hx => waits1_c x (hy2.ws x hx) z (hy2.tab.below hz))
    rw [hlt] at this
    exact this
  have HF2 : Hid (∀ y, BW w y → Calls Tryd.prog 15 #[.slice (some ⟨b, off, none⟩) i cap, .bool e] y fun r w' => r = .returned (.bool (fenG (false, !e) (l.take i))) ∧ BW y w') := fun y hy => by
    have := fenced_c ((h.take i).on hy) cap e
    rw [hlt] at this
    exact this
  have HF3 : Hid (∀ y, BW w y → ∀ B, Blk (sltC (sAt l i)) 29 B y → Calls Tryd.prog 12 #[.slice (some ⟨b, off, none⟩) i cap, .func (.func 16) #[] #[.pointer (some ⟨B, 0, none⟩)]] y fun e w' => e = .returned (.bool (aoS (l.take i) (sAt l i))) ∧ BW y w') := fun y hy B hB => by
    have hy2 := (h.take i).on hy
    have := contF2_c hy2 cap (fun x => atS x && ovS x (sAt l i)) B (fun z hz x hx => waits2_c x (sAt l i) (hy2.ws x hx) (h.at hi) B z (hB.on hz) (hy2.tab.below hz))
    rw [hlt] at this
    exact this
  have HF4 : Hid (∀ y, BW w y → Calls Tryd.prog 18 #[.slice (some ⟨b, off, none⟩) l.length cap, .int .i64 (i : Int)] y fun e w' => e = .returned (.bool (lckS l i)) ∧ BW y w') := fun y hy => lacks_c (h.on hy) cap hcap i hi
  unfold sltV at HLD
  clear h hcs hl hk hbd hlt hi hcap hb
  cases ha : aqS (l.take i) with
  | true =>
    have HE : Hid (waitS l i e = 1) := by show _ = _; rw [HE0.out, if_pos ha]
    rw [ha] at HF1
    clear ha HE0 HF2 HF3 HF4
    go_enter Tryd.func5, Tryd.ntmps5
    go_wp2_with (first
      | (go_at_call 10; refine HPL.out.mono ?_; rintro e1 w1 ⟨rfl, rfl⟩)
      | (with_reducible refine Hz.val_arm (o := ⟨some 17, .load _ _, _, _, _, _⟩) (by kernel_rfl) (ex_slt (sAt l i) rfl rfl HCW.out Tryd.underlying29 rfl (by kernel_rfl)) ?_)
      | (go_at_call 11; refine HLD.out.mono ?_; rintro e2 w2 ⟨rfl, hb2⟩; have HB2 := Lib.hid hb2; have c5 := HK5.out _ HB2.out; have c9 := HK9.out _ HB2.out; clear hb2))
    refine wp_region_held (S := BW w2) (by kernel_rfl) ?_
    change wpAnyH _ _ _ _ _ _ _ _ (World.drew _)
    have HS : BW w2 w2.drew := Below.drew (Below.refl _ _)
    generalize w2.drew = wd at *
    obtain ⟨B, hB⟩ : ∃ B, wd.heap.size = B := ⟨_, rfl⟩
    have HBE := Lib.hid hB
    clear hB
    refine hk_val (i := 0) (oi := ⟨some 36, .move _, _, _, _, _⟩) (.slice (some ⟨b, off, none⟩) l.length cap) rfl (by kernel_rfl) (by kernel_rfl) (by kernel_rfl) (fun _ _ _ h => h) (by kernel_rfl) (fun _ _ => rfl) HS ?_
    simp only [Act.put, List.setIfInBounds_toArray, List.set_cons_zero, List.set_cons_succ]
    refine hk_val (i := 1) (oi := ⟨some 37, .move _, _, _, _, _⟩) (.int .i64 (i : Int)) rfl (by kernel_rfl) (by kernel_rfl) (by kernel_rfl) (fun _ _ _ h => h) (by kernel_rfl) (fun _ _ => rfl) HS ?_
    simp only [Act.put, List.setIfInBounds_toArray, List.set_cons_zero, List.set_cons_succ]
    refine hk_val (i := 2) (oi := ⟨some 38, .slice _ _ _ _ _, _, _, _, _⟩) (.slice (some ⟨b, off, none⟩) i cap) rfl (by kernel_rfl) (by kernel_rfl) (by kernel_rfl) (fun _ _ _ h => h) (by kernel_rfl) (fun _ _ => Hz.ex_to (z := 18) rfl rfl rfl HIC.out Tryd.underlying22 (by kernel_rfl)) HS ?_
    simp only [Act.put, List.setIfInBounds_toArray, List.set_cons_zero, List.set_cons_succ]
    refine hk_val (i := 3) (oi := ⟨some 39, .move _, _, _, _, _⟩) (.slice (some ⟨b, off, none⟩) l.length cap) rfl (by kernel_rfl) (by kernel_rfl) (by kernel_rfl) (fun _ _ _ h => h) (by kernel_rfl) (fun _ _ => rfl) HS ?_
    simp only [Act.put, List.setIfInBounds_toArray, List.set_cons_zero, List.set_cons_succ]
    refine hk_val (i := 4) (oi := ⟨some 40, .move _, _, _, _, _⟩) (.int .i64 (i : Int)) rfl (by kernel_rfl) (by kernel_rfl) (by kernel_rfl) (fun _ _ _ h => h) (by kernel_rfl) (fun _ _ => rfl) HS ?_
    simp only [Act.put, List.setIfInBounds_toArray, List.set_cons_zero, List.set_cons_succ]
    refine hk_val (i := 5) (oi := ⟨some 41, .indexAddr _ _ _, _, _, _, _⟩) (.pointer (some ⟨b, off + i * 18, none⟩)) rfl (by kernel_rfl) (by kernel_rfl) (by kernel_rfl) (fun _ _ _ h => h) (by kernel_rfl) (fun _ _ => Hz.ex_indexz rfl rfl rfl rfl HIL.out Tryd.underlying22 (by kernel_rfl)) HS ?_
    simp only [Act.put, List.setIfInBounds_toArray, List.set_cons_zero, List.set_cons_succ]
    refine hk_val (i := 6) (oi := ⟨some 42, .load _ _, _, _, _, _⟩) (.agg (sltC (sAt l i))) rfl (by kernel_rfl) (by kernel_rfl) (by kernel_rfl) (fun _ _ _ h => h) (by kernel_rfl) (fun y hy => ex_slt (sAt l i) rfl rfl (HCS.out _ (BW.on HB2.out hy)) Tryd.underlying29 rfl (by kernel_rfl)) HS ?_
    simp only [Act.put, List.setIfInBounds_toArray, List.set_cons_zero, List.set_cons_succ]
    refine Hz.any_one (i := 7) (by kernel_rfl) ?_
    refine Hz.alloc_op (oi := ⟨some 8, .alloc _, _, _, _, _⟩) (cs := sltC zSlt) rfl rfl rfl (by kernel_rfl) ?_
    have HSA := BW.new HS (.cells (sltC zSlt) 29)
    rw [HBE.out]
    refine ⟨HSA, ?_⟩
    simp only [Act.put, List.setIfInBounds_toArray, List.set_cons_zero, List.set_cons_succ]
    refine hk_val (i := 8) (oi := ⟨some 7, .assign _, _, _, _, _⟩) (.slice (some ⟨b, off, none⟩) i cap) rfl (by kernel_rfl) (by kernel_rfl) (by kernel_rfl) (fun _ _ _ h => h) (by kernel_rfl) (fun _ _ => rfl) HSA ?_
    simp only [Act.put, List.setIfInBounds_toArray, List.set_cons_zero, List.set_cons_succ]
    refine hk_one (i := 9) (oi := ⟨none, .store _ _ _, _, _, _, _⟩) (by kernel_rfl) rfl (by kernel_rfl) ?_
    refine wp_store_cell rfl rfl rfl rfl (by rw [← HBE.out]; exact slt_store (sAt l i) wd _ rfl) ?_
    have HSB : BW w2 (wd.alloc (.cells (sltC (sAt l i)) 29)) := BW.new HS _
    refine ⟨HSB, ?_⟩
    refine wpAnyH_done (by kernel_rfl) ?_ _
    have HKB : Hid (Blk (sltC (sAt l i)) 29 B (wd.alloc (.cells (sltC (sAt l i)) 29))) := by show Blk _ _ _ _; rw [← HBE.out]; exact Blk.new _ _ _
    have HB3 := Lib.hid (BW.on HB2.out HSB)
    clear HSB HSA HS
    generalize wd.alloc (.cells (sltC (sAt l i)) 29) = w3 at *
    go_wp2_with (first
      | (go_at_call 12; refine (HF1.out _ HB3.out).mono ?_; rintro e4 w4 ⟨rfl, hb4⟩; have HB4 := Lib.hid (BW.on HB3.out hb4); have HK4 := Lib.hid (HKB.out.on hb4); clear hb4))
    go_ret
    exact ⟨by rw [HE.out]; rfl, HB4.out⟩
  | false =>
    rw [ha] at HF1
    cases hf : fenG (false, !e) (l.take i) with
    | true =>
      have HE : Hid (waitS l i e = 2) := by show _ = _; rw [HE0.out, ha, hf]; rfl
      rw [hf] at HF2
      clear ha hf HE0 HF3 HF4
      go_enter Tryd.func5, Tryd.ntmps5
      go_wp2_with (first
        | (go_at_call 10; refine HPL.out.mono ?_; rintro e1 w1 ⟨rfl, rfl⟩)
        | (with_reducible refine Hz.val_arm (o := ⟨some 17, .load _ _, _, _, _, _⟩) (by kernel_rfl) (ex_slt (sAt l i) rfl rfl HCW.out Tryd.underlying29 rfl (by kernel_rfl)) ?_)
        | (go_at_call 11; refine HLD.out.mono ?_; rintro e2 w2 ⟨rfl, hb2⟩; have HB2 := Lib.hid hb2; have c5 := HK5.out _ HB2.out; have c9 := HK9.out _ HB2.out; clear hb2))
      refine wp_region_held (S := BW w2) (by kernel_rfl) ?_
      change wpAnyH _ _ _ _ _ _ _ _ (World.drew _)
      have HS : BW w2 w2.drew := Below.drew (Below.refl _ _)
      generalize w2.drew = wd at *
      obtain ⟨B, hB⟩ : ∃ B, wd.heap.size = B := ⟨_, rfl⟩
      have HBE := Lib.hid hB
      clear hB
      refine hk_val (i := 0) (oi := ⟨some 36, .move _, _, _, _, _⟩) (.slice (some ⟨b, off, none⟩) l.length cap) rfl (by kernel_rfl) (by kernel_rfl) (by kernel_rfl) (fun _ _ _ h => h) (by kernel_rfl) (fun _ _ => rfl) HS ?_
      simp only [Act.put, List.setIfInBounds_toArray, List.set_cons_zero, List.set_cons_succ]
      refine hk_val (i := 1) (oi := ⟨some 37, .move _, _, _, _, _⟩) (.int .i64 (i : Int)) rfl (by kernel_rfl) (by kernel_rfl) (by kernel_rfl) (fun _ _ _ h => h) (by kernel_rfl) (fun _ _ => rfl) HS ?_
      simp only [Act.put, List.setIfInBounds_toArray, List.set_cons_zero, List.set_cons_succ]
      refine hk_val (i := 2) (oi := ⟨some 38, .slice _ _ _ _ _, _, _, _, _⟩) (.slice (some ⟨b, off, none⟩) i cap) rfl (by kernel_rfl) (by kernel_rfl) (by kernel_rfl) (fun _ _ _ h => h) (by kernel_rfl) (fun _ _ => Hz.ex_to (z := 18) rfl rfl rfl HIC.out Tryd.underlying22 (by kernel_rfl)) HS ?_
      simp only [Act.put, List.setIfInBounds_toArray, List.set_cons_zero, List.set_cons_succ]
      refine hk_val (i := 3) (oi := ⟨some 39, .move _, _, _, _, _⟩) (.slice (some ⟨b, off, none⟩) l.length cap) rfl (by kernel_rfl) (by kernel_rfl) (by kernel_rfl) (fun _ _ _ h => h) (by kernel_rfl) (fun _ _ => rfl) HS ?_
      simp only [Act.put, List.setIfInBounds_toArray, List.set_cons_zero, List.set_cons_succ]
      refine hk_val (i := 4) (oi := ⟨some 40, .move _, _, _, _, _⟩) (.int .i64 (i : Int)) rfl (by kernel_rfl) (by kernel_rfl) (by kernel_rfl) (fun _ _ _ h => h) (by kernel_rfl) (fun _ _ => rfl) HS ?_
      simp only [Act.put, List.setIfInBounds_toArray, List.set_cons_zero, List.set_cons_succ]
      refine hk_val (i := 5) (oi := ⟨some 41, .indexAddr _ _ _, _, _, _, _⟩) (.pointer (some ⟨b, off + i * 18, none⟩)) rfl (by kernel_rfl) (by kernel_rfl) (by kernel_rfl) (fun _ _ _ h => h) (by kernel_rfl) (fun _ _ => Hz.ex_indexz rfl rfl rfl rfl HIL.out Tryd.underlying22 (by kernel_rfl)) HS ?_
      simp only [Act.put, List.setIfInBounds_toArray, List.set_cons_zero, List.set_cons_succ]
      refine hk_val (i := 6) (oi := ⟨some 42, .load _ _, _, _, _, _⟩) (.agg (sltC (sAt l i))) rfl (by kernel_rfl) (by kernel_rfl) (by kernel_rfl) (fun _ _ _ h => h) (by kernel_rfl) (fun y hy => ex_slt (sAt l i) rfl rfl (HCS.out _ (BW.on HB2.out hy)) Tryd.underlying29 rfl (by kernel_rfl)) HS ?_
      simp only [Act.put, List.setIfInBounds_toArray, List.set_cons_zero, List.set_cons_succ]
      refine Hz.any_one (i := 7) (by kernel_rfl) ?_
      refine Hz.alloc_op (oi := ⟨some 8, .alloc _, _, _, _, _⟩) (cs := sltC zSlt) rfl rfl rfl (by kernel_rfl) ?_
      have HSA := BW.new HS (.cells (sltC zSlt) 29)
      rw [HBE.out]
      refine ⟨HSA, ?_⟩
      simp only [Act.put, List.setIfInBounds_toArray, List.set_cons_zero, List.set_cons_succ]
      refine hk_val (i := 8) (oi := ⟨some 7, .assign _, _, _, _, _⟩) (.slice (some ⟨b, off, none⟩) i cap) rfl (by kernel_rfl) (by kernel_rfl) (by kernel_rfl) (fun _ _ _ h => h) (by kernel_rfl) (fun _ _ => rfl) HSA ?_
      simp only [Act.put, List.setIfInBounds_toArray, List.set_cons_zero, List.set_cons_succ]
      refine hk_one (i := 9) (oi := ⟨none, .store _ _ _, _, _, _, _⟩) (by kernel_rfl) rfl (by kernel_rfl) ?_
      refine wp_store_cell rfl rfl rfl rfl (by rw [← HBE.out]; exact slt_store (sAt l i) wd _ rfl) ?_
      have HSB : BW w2 (wd.alloc (.cells (sltC (sAt l i)) 29)) := BW.new HS _
      refine ⟨HSB, ?_⟩
      refine wpAnyH_done (by kernel_rfl) ?_ _
      have HKB : Hid (Blk (sltC (sAt l i)) 29 B (wd.alloc (.cells (sltC (sAt l i)) 29))) := by show Blk _ _ _ _; rw [← HBE.out]; exact Blk.new _ _ _
      have HB3 := Lib.hid (BW.on HB2.out HSB)
      clear HSB HSA HS
      generalize wd.alloc (.cells (sltC (sAt l i)) 29) = w3 at *
      go_wp2_with (first
        | (go_at_call 12; refine (HF1.out _ HB3.out).mono ?_; rintro e4 w4 ⟨rfl, hb4⟩; have HB4 := Lib.hid (BW.on HB3.out hb4); have HK4 := Lib.hid (HKB.out.on hb4); clear hb4)
        | (go_at_call 15; refine (HF2.out _ HB4.out).mono ?_; rintro e5 w5 ⟨rfl, hb5⟩; have HB5 := Lib.hid (BW.on HB4.out hb5); have HK5 := Lib.hid (HK4.out.on hb5); clear hb5))
      go_ret
      exact ⟨by rw [HE.out]; rfl, HB5.out⟩
    | false =>
      rw [hf] at HF2
      cases ho : aoS (l.take i) (sAt l i) with
      | true =>
        have HE : Hid (waitS l i e = 3) := by show _ = _; rw [HE0.out, ha, hf, ho]; rfl
        rw [ho] at HF3
        clear ha hf ho HE0 HF4
        go_enter Tryd.func5, Tryd.ntmps5
        go_wp2_with (first
          | (go_at_call 10; refine HPL.out.mono ?_; rintro e1 w1 ⟨rfl, rfl⟩)
          | (with_reducible refine Hz.val_arm (o := ⟨some 17, .load _ _, _, _, _, _⟩) (by kernel_rfl) (ex_slt (sAt l i) rfl rfl HCW.out Tryd.underlying29 rfl (by kernel_rfl)) ?_)
          | (go_at_call 11; refine HLD.out.mono ?_; rintro e2 w2 ⟨rfl, hb2⟩; have HB2 := Lib.hid hb2; have c5 := HK5.out _ HB2.out; have c9 := HK9.out _ HB2.out; clear hb2))
        refine wp_region_held (S := BW w2) (by kernel_rfl) ?_
        change wpAnyH _ _ _ _ _ _ _ _ (World.drew _)
        have HS : BW w2 w2.drew := Below.drew (Below.refl _ _)
        generalize w2.drew = wd at *
        obtain ⟨B, hB⟩ : ∃ B, wd.heap.size = B := ⟨_, rfl⟩
        have HBE := Lib.hid hB
        clear hB
        refine hk_val (i := 0) (oi := ⟨some 36, .move _, _, _, _, _⟩) (.slice (some ⟨b, off, none⟩) l.length cap) rfl (by kernel_rfl) (by kernel_rfl) (by kernel_rfl) (fun _ _ _ h => h) (by kernel_rfl) (fun _ _ => rfl) HS ?_
        simp only [Act.put, List.setIfInBounds_toArray, List.set_cons_zero, List.set_cons_succ]
        refine hk_val (i := 1) (oi := ⟨some 37, .move _, _, _, _, _⟩) (.int .i64 (i : Int)) rfl (by kernel_rfl) (by kernel_rfl) (by kernel_rfl) (fun _ _ _ h => h) (by kernel_rfl) (fun _ _ => rfl) HS ?_
        simp only [Act.put, List.setIfInBounds_toArray, List.set_cons_zero, List.set_cons_succ]
        refine hk_val (i := 2) (oi := ⟨some 38, .slice _ _ _ _ _, _, _, _, _⟩) (.slice (some ⟨b, off, none⟩) i cap) rfl (by kernel_rfl) (by kernel_rfl) (by kernel_rfl) (fun _ _ _ h => h) (by kernel_rfl) (fun _ _ => Hz.ex_to (z := 18) rfl rfl rfl HIC.out Tryd.underlying22 (by kernel_rfl)) HS ?_
        simp only [Act.put, List.setIfInBounds_toArray, List.set_cons_zero, List.set_cons_succ]
        refine hk_val (i := 3) (oi := ⟨some 39, .move _, _, _, _, _⟩) (.slice (some ⟨b, off, none⟩) l.length cap) rfl (by kernel_rfl) (by kernel_rfl) (by kernel_rfl) (fun _ _ _ h => h) (by kernel_rfl) (fun _ _ => rfl) HS ?_
        simp only [Act.put, List.setIfInBounds_toArray, List.set_cons_zero, List.set_cons_succ]
        refine hk_val (i := 4) (oi := ⟨some 40, .move _, _, _, _, _⟩) (.int .i64 (i : Int)) rfl (by kernel_rfl) (by kernel_rfl) (by kernel_rfl) (fun _ _ _ h => h) (by kernel_rfl) (fun _ _ => rfl) HS ?_
        simp only [Act.put, List.setIfInBounds_toArray, List.set_cons_zero, List.set_cons_succ]
        refine hk_val (i := 5) (oi := ⟨some 41, .indexAddr _ _ _, _, _, _, _⟩) (.pointer (some ⟨b, off + i * 18, none⟩)) rfl (by kernel_rfl) (by kernel_rfl) (by kernel_rfl) (fun _ _ _ h => h) (by kernel_rfl) (fun _ _ => Hz.ex_indexz rfl rfl rfl rfl HIL.out Tryd.underlying22 (by kernel_rfl)) HS ?_
        simp only [Act.put, List.setIfInBounds_toArray, List.set_cons_zero, List.set_cons_succ]
        refine hk_val (i := 6) (oi := ⟨some 42, .load _ _, _, _, _, _⟩) (.agg (sltC (sAt l i))) rfl (by kernel_rfl) (by kernel_rfl) (by kernel_rfl) (fun _ _ _ h => h) (by kernel_rfl) (fun y hy => ex_slt (sAt l i) rfl rfl (HCS.out _ (BW.on HB2.out hy)) Tryd.underlying29 rfl (by kernel_rfl)) HS ?_
        simp only [Act.put, List.setIfInBounds_toArray, List.set_cons_zero, List.set_cons_succ]
        refine Hz.any_one (i := 7) (by kernel_rfl) ?_
        refine Hz.alloc_op (oi := ⟨some 8, .alloc _, _, _, _, _⟩) (cs := sltC zSlt) rfl rfl rfl (by kernel_rfl) ?_
        have HSA := BW.new HS (.cells (sltC zSlt) 29)
        rw [HBE.out]
        refine ⟨HSA, ?_⟩
        simp only [Act.put, List.setIfInBounds_toArray, List.set_cons_zero, List.set_cons_succ]
        refine hk_val (i := 8) (oi := ⟨some 7, .assign _, _, _, _, _⟩) (.slice (some ⟨b, off, none⟩) i cap) rfl (by kernel_rfl) (by kernel_rfl) (by kernel_rfl) (fun _ _ _ h => h) (by kernel_rfl) (fun _ _ => rfl) HSA ?_
        simp only [Act.put, List.setIfInBounds_toArray, List.set_cons_zero, List.set_cons_succ]
        refine hk_one (i := 9) (oi := ⟨none, .store _ _ _, _, _, _, _⟩) (by kernel_rfl) rfl (by kernel_rfl) ?_
        refine wp_store_cell rfl rfl rfl rfl (by rw [← HBE.out]; exact slt_store (sAt l i) wd _ rfl) ?_
        have HSB : BW w2 (wd.alloc (.cells (sltC (sAt l i)) 29)) := BW.new HS _
        refine ⟨HSB, ?_⟩
        refine wpAnyH_done (by kernel_rfl) ?_ _
        have HKB : Hid (Blk (sltC (sAt l i)) 29 B (wd.alloc (.cells (sltC (sAt l i)) 29))) := by show Blk _ _ _ _; rw [← HBE.out]; exact Blk.new _ _ _
        have HB3 := Lib.hid (BW.on HB2.out HSB)
        clear HSB HSA HS
        generalize wd.alloc (.cells (sltC (sAt l i)) 29) = w3 at *
        go_wp2_with (first
          | (go_at_call 12; refine (HF1.out _ HB3.out).mono ?_; rintro e4 w4 ⟨rfl, hb4⟩; have HB4 := Lib.hid (BW.on HB3.out hb4); have HK4 := Lib.hid (HKB.out.on hb4); clear hb4)
          | (go_at_call 15; refine (HF2.out _ HB4.out).mono ?_; rintro e5 w5 ⟨rfl, hb5⟩; have HB5 := Lib.hid (BW.on HB4.out hb5); have HK5 := Lib.hid (HK4.out.on hb5); clear hb5)
          | (go_at_call 12; refine (HF3.out _ HB5.out _ HK5.out).mono ?_; rintro e6 w6 ⟨rfl, hb6⟩; have HB6 := Lib.hid (BW.on HB5.out hb6); clear hb6))
        go_ret
        exact ⟨by rw [HE.out]; rfl, HB6.out⟩
      | false =>
        rw [ho] at HF3
        cases hq : lckS l i with
        | true =>
          have HE : Hid (waitS l i e = 4) := by show _ = _; rw [HE0.out, ha, hf, ho, hq]; rfl
          rw [hq] at HF4
          clear ha hf ho hq HE0
          go_enter Tryd.func5, Tryd.ntmps5
          go_wp2_with (first
            | (go_at_call 10; refine HPL.out.mono ?_; rintro e1 w1 ⟨rfl, rfl⟩)
            | (with_reducible refine Hz.val_arm (o := ⟨some 17, .load _ _, _, _, _, _⟩) (by kernel_rfl) (ex_slt (sAt l i) rfl rfl HCW.out Tryd.underlying29 rfl (by kernel_rfl)) ?_)
            | (go_at_call 11; refine HLD.out.mono ?_; rintro e2 w2 ⟨rfl, hb2⟩; have HB2 := Lib.hid hb2; have c5 := HK5.out _ HB2.out; have c9 := HK9.out _ HB2.out; clear hb2))
          refine wp_region_held (S := BW w2) (by kernel_rfl) ?_
          change wpAnyH _ _ _ _ _ _ _ _ (World.drew _)
          have HS : BW w2 w2.drew := Below.drew (Below.refl _ _)
          generalize w2.drew = wd at *
          obtain ⟨B, hB⟩ : ∃ B, wd.heap.size = B := ⟨_, rfl⟩
          have HBE := Lib.hid hB
          clear hB
          refine hk_val (i := 0) (oi := ⟨some 36, .move _, _, _, _, _⟩) (.slice (some ⟨b, off, none⟩) l.length cap) rfl (by kernel_rfl) (by kernel_rfl) (by kernel_rfl) (fun _ _ _ h => h) (by kernel_rfl) (fun _ _ => rfl) HS ?_
          simp only [Act.put, List.setIfInBounds_toArray, List.set_cons_zero, List.set_cons_succ]
          refine hk_val (i := 1) (oi := ⟨some 37, .move _, _, _, _, _⟩) (.int .i64 (i : Int)) rfl (by kernel_rfl) (by kernel_rfl) (by kernel_rfl) (fun _ _ _ h => h) (by kernel_rfl) (fun _ _ => rfl) HS ?_
          simp only [Act.put, List.setIfInBounds_toArray, List.set_cons_zero, List.set_cons_succ]
          refine hk_val (i := 2) (oi := ⟨some 38, .slice _ _ _ _ _, _, _, _, _⟩) (.slice (some ⟨b, off, none⟩) i cap) rfl (by kernel_rfl) (by kernel_rfl) (by kernel_rfl) (fun _ _ _ h => h) (by kernel_rfl) (fun _ _ => Hz.ex_to (z := 18) rfl rfl rfl HIC.out Tryd.underlying22 (by kernel_rfl)) HS ?_
          simp only [Act.put, List.setIfInBounds_toArray, List.set_cons_zero, List.set_cons_succ]
          refine hk_val (i := 3) (oi := ⟨some 39, .move _, _, _, _, _⟩) (.slice (some ⟨b, off, none⟩) l.length cap) rfl (by kernel_rfl) (by kernel_rfl) (by kernel_rfl) (fun _ _ _ h => h) (by kernel_rfl) (fun _ _ => rfl) HS ?_
          simp only [Act.put, List.setIfInBounds_toArray, List.set_cons_zero, List.set_cons_succ]
          refine hk_val (i := 4) (oi := ⟨some 40, .move _, _, _, _, _⟩) (.int .i64 (i : Int)) rfl (by kernel_rfl) (by kernel_rfl) (by kernel_rfl) (fun _ _ _ h => h) (by kernel_rfl) (fun _ _ => rfl) HS ?_
          simp only [Act.put, List.setIfInBounds_toArray, List.set_cons_zero, List.set_cons_succ]
          refine hk_val (i := 5) (oi := ⟨some 41, .indexAddr _ _ _, _, _, _, _⟩) (.pointer (some ⟨b, off + i * 18, none⟩)) rfl (by kernel_rfl) (by kernel_rfl) (by kernel_rfl) (fun _ _ _ h => h) (by kernel_rfl) (fun _ _ => Hz.ex_indexz rfl rfl rfl rfl HIL.out Tryd.underlying22 (by kernel_rfl)) HS ?_
          simp only [Act.put, List.setIfInBounds_toArray, List.set_cons_zero, List.set_cons_succ]
          refine hk_val (i := 6) (oi := ⟨some 42, .load _ _, _, _, _, _⟩) (.agg (sltC (sAt l i))) rfl (by kernel_rfl) (by kernel_rfl) (by kernel_rfl) (fun _ _ _ h => h) (by kernel_rfl) (fun y hy => ex_slt (sAt l i) rfl rfl (HCS.out _ (BW.on HB2.out hy)) Tryd.underlying29 rfl (by kernel_rfl)) HS ?_
          simp only [Act.put, List.setIfInBounds_toArray, List.set_cons_zero, List.set_cons_succ]
          refine Hz.any_one (i := 7) (by kernel_rfl) ?_
          refine Hz.alloc_op (oi := ⟨some 8, .alloc _, _, _, _, _⟩) (cs := sltC zSlt) rfl rfl rfl (by kernel_rfl) ?_
          have HSA := BW.new HS (.cells (sltC zSlt) 29)
          rw [HBE.out]
          refine ⟨HSA, ?_⟩
          simp only [Act.put, List.setIfInBounds_toArray, List.set_cons_zero, List.set_cons_succ]
          refine hk_val (i := 8) (oi := ⟨some 7, .assign _, _, _, _, _⟩) (.slice (some ⟨b, off, none⟩) i cap) rfl (by kernel_rfl) (by kernel_rfl) (by kernel_rfl) (fun _ _ _ h => h) (by kernel_rfl) (fun _ _ => rfl) HSA ?_
          simp only [Act.put, List.setIfInBounds_toArray, List.set_cons_zero, List.set_cons_succ]
          refine hk_one (i := 9) (oi := ⟨none, .store _ _ _, _, _, _, _⟩) (by kernel_rfl) rfl (by kernel_rfl) ?_
          refine wp_store_cell rfl rfl rfl rfl (by rw [← HBE.out]; exact slt_store (sAt l i) wd _ rfl) ?_
          have HSB : BW w2 (wd.alloc (.cells (sltC (sAt l i)) 29)) := BW.new HS _
          refine ⟨HSB, ?_⟩
          refine wpAnyH_done (by kernel_rfl) ?_ _
          have HKB : Hid (Blk (sltC (sAt l i)) 29 B (wd.alloc (.cells (sltC (sAt l i)) 29))) := by show Blk _ _ _ _; rw [← HBE.out]; exact Blk.new _ _ _
          have HB3 := Lib.hid (BW.on HB2.out HSB)
          clear HSB HSA HS
          generalize wd.alloc (.cells (sltC (sAt l i)) 29) = w3 at *
          go_wp2_with (first
            | (go_at_call 12; refine (HF1.out _ HB3.out).mono ?_; rintro e4 w4 ⟨rfl, hb4⟩; have HB4 := Lib.hid (BW.on HB3.out hb4); have HK4 := Lib.hid (HKB.out.on hb4); clear hb4)
            | (go_at_call 15; refine (HF2.out _ HB4.out).mono ?_; rintro e5 w5 ⟨rfl, hb5⟩; have HB5 := Lib.hid (BW.on HB4.out hb5); have HK5 := Lib.hid (HK4.out.on hb5); clear hb5)
            | (go_at_call 12; refine (HF3.out _ HB5.out _ HK5.out).mono ?_; rintro e6 w6 ⟨rfl, hb6⟩; have HB6 := Lib.hid (BW.on HB5.out hb6); clear hb6)
            | (go_at_call 18; refine (HF4.out _ HB6.out).mono ?_; rintro e7 w7 ⟨rfl, hb7⟩; have HB7 := Lib.hid (BW.on HB6.out hb7); clear hb7))
          go_ret
          exact ⟨by rw [HE.out]; rfl, HB7.out⟩
        | false =>
          have HE : Hid (waitS l i e = 0) := by show _ = _; rw [HE0.out, ha, hf, ho, hq]; rfl
          rw [hq] at HF4
          clear ha hf ho hq HE0
          go_enter Tryd.func5, Tryd.ntmps5
          go_wp2_with (first
            | (go_at_call 10; refine HPL.out.mono ?_; rintro e1 w1 ⟨rfl, rfl⟩)
            | (with_reducible refine Hz.val_arm (o := ⟨some 17, .load _ _, _, _, _, _⟩) (by kernel_rfl) (ex_slt (sAt l i) rfl rfl HCW.out Tryd.underlying29 rfl (by kernel_rfl)) ?_)
            | (go_at_call 11; refine HLD.out.mono ?_; rintro e2 w2 ⟨rfl, hb2⟩; have HB2 := Lib.hid hb2; have c5 := HK5.out _ HB2.out; have c9 := HK9.out _ HB2.out; clear hb2))
          refine wp_region_held (S := BW w2) (by kernel_rfl) ?_
          change wpAnyH _ _ _ _ _ _ _ _ (World.drew _)
          have HS : BW w2 w2.drew := Below.drew (Below.refl _ _)
          generalize w2.drew = wd at *
          obtain ⟨B, hB⟩ : ∃ B, wd.heap.size = B := ⟨_, rfl⟩
          have HBE := Lib.hid hB
          clear hB
          refine hk_val (i := 0) (oi := ⟨some 36, .move _, _, _, _, _⟩) (.slice (some ⟨b, off, none⟩) l.length cap) rfl (by kernel_rfl) (by kernel_rfl) (by kernel_rfl) (fun _ _ _ h => h) (by kernel_rfl) (fun _ _ => rfl) HS ?_
          simp only [Act.put, List.setIfInBounds_toArray, List.set_cons_zero, List.set_cons_succ]
          refine hk_val (i := 1) (oi := ⟨some 37, .move _, _, _, _, _⟩) (.int .i64 (i : Int)) rfl (by kernel_rfl) (by kernel_rfl) (by kernel_rfl) (fun _ _ _ h => h) (by kernel_rfl) (fun _ _ => rfl) HS ?_
          simp only [Act.put, List.setIfInBounds_toArray, List.set_cons_zero, List.set_cons_succ]
          refine hk_val (i := 2) (oi := ⟨some 38, .slice _ _ _ _ _, _, _, _, _⟩) (.slice (some ⟨b, off, none⟩) i cap) rfl (by kernel_rfl) (by kernel_rfl) (by kernel_rfl) (fun _ _ _ h => h) (by kernel_rfl) (fun _ _ => Hz.ex_to (z := 18) rfl rfl rfl HIC.out Tryd.underlying22 (by kernel_rfl)) HS ?_
          simp only [Act.put, List.setIfInBounds_toArray, List.set_cons_zero, List.set_cons_succ]
          refine hk_val (i := 3) (oi := ⟨some 39, .move _, _, _, _, _⟩) (.slice (some ⟨b, off, none⟩) l.length cap) rfl (by kernel_rfl) (by kernel_rfl) (by kernel_rfl) (fun _ _ _ h => h) (by kernel_rfl) (fun _ _ => rfl) HS ?_
          simp only [Act.put, List.setIfInBounds_toArray, List.set_cons_zero, List.set_cons_succ]
          refine hk_val (i := 4) (oi := ⟨some 40, .move _, _, _, _, _⟩) (.int .i64 (i : Int)) rfl (by kernel_rfl) (by kernel_rfl) (by kernel_rfl) (fun _ _ _ h => h) (by kernel_rfl) (fun _ _ => rfl) HS ?_
          simp only [Act.put, List.setIfInBounds_toArray, List.set_cons_zero, List.set_cons_succ]
          refine hk_val (i := 5) (oi := ⟨some 41, .indexAddr _ _ _, _, _, _, _⟩) (.pointer (some ⟨b, off + i * 18, none⟩)) rfl (by kernel_rfl) (by kernel_rfl) (by kernel_rfl) (fun _ _ _ h => h) (by kernel_rfl) (fun _ _ => Hz.ex_indexz rfl rfl rfl rfl HIL.out Tryd.underlying22 (by kernel_rfl)) HS ?_
          simp only [Act.put, List.setIfInBounds_toArray, List.set_cons_zero, List.set_cons_succ]
          refine hk_val (i := 6) (oi := ⟨some 42, .load _ _, _, _, _, _⟩) (.agg (sltC (sAt l i))) rfl (by kernel_rfl) (by kernel_rfl) (by kernel_rfl) (fun _ _ _ h => h) (by kernel_rfl) (fun y hy => ex_slt (sAt l i) rfl rfl (HCS.out _ (BW.on HB2.out hy)) Tryd.underlying29 rfl (by kernel_rfl)) HS ?_
          simp only [Act.put, List.setIfInBounds_toArray, List.set_cons_zero, List.set_cons_succ]
          refine Hz.any_one (i := 7) (by kernel_rfl) ?_
          refine Hz.alloc_op (oi := ⟨some 8, .alloc _, _, _, _, _⟩) (cs := sltC zSlt) rfl rfl rfl (by kernel_rfl) ?_
          have HSA := BW.new HS (.cells (sltC zSlt) 29)
          rw [HBE.out]
          refine ⟨HSA, ?_⟩
          simp only [Act.put, List.setIfInBounds_toArray, List.set_cons_zero, List.set_cons_succ]
          refine hk_val (i := 8) (oi := ⟨some 7, .assign _, _, _, _, _⟩) (.slice (some ⟨b, off, none⟩) i cap) rfl (by kernel_rfl) (by kernel_rfl) (by kernel_rfl) (fun _ _ _ h => h) (by kernel_rfl) (fun _ _ => rfl) HSA ?_
          simp only [Act.put, List.setIfInBounds_toArray, List.set_cons_zero, List.set_cons_succ]
          refine hk_one (i := 9) (oi := ⟨none, .store _ _ _, _, _, _, _⟩) (by kernel_rfl) rfl (by kernel_rfl) ?_
          refine wp_store_cell rfl rfl rfl rfl (by rw [← HBE.out]; exact slt_store (sAt l i) wd _ rfl) ?_
          have HSB : BW w2 (wd.alloc (.cells (sltC (sAt l i)) 29)) := BW.new HS _
          refine ⟨HSB, ?_⟩
          refine wpAnyH_done (by kernel_rfl) ?_ _
          have HKB : Hid (Blk (sltC (sAt l i)) 29 B (wd.alloc (.cells (sltC (sAt l i)) 29))) := by show Blk _ _ _ _; rw [← HBE.out]; exact Blk.new _ _ _
          have HB3 := Lib.hid (BW.on HB2.out HSB)
          clear HSB HSA HS
          generalize wd.alloc (.cells (sltC (sAt l i)) 29) = w3 at *
          go_wp2_with (first
            | (go_at_call 12; refine (HF1.out _ HB3.out).mono ?_; rintro e4 w4 ⟨rfl, hb4⟩; have HB4 := Lib.hid (BW.on HB3.out hb4); have HK4 := Lib.hid (HKB.out.on hb4); clear hb4)
            | (go_at_call 15; refine (HF2.out _ HB4.out).mono ?_; rintro e5 w5 ⟨rfl, hb5⟩; have HB5 := Lib.hid (BW.on HB4.out hb5); have HK5 := Lib.hid (HK4.out.on hb5); clear hb5)
            | (go_at_call 12; refine (HF3.out _ HB5.out _ HK5.out).mono ?_; rintro e6 w6 ⟨rfl, hb6⟩; have HB6 := Lib.hid (BW.on HB5.out hb6); clear hb6)
            | (go_at_call 18; refine (HF4.out _ HB6.out).mono ?_; rintro e7 w7 ⟨rfl, hb7⟩; have HB7 := Lib.hid (BW.on HB6.out hb7); clear hb7))
          go_ret
          exact ⟨by rw [HE.out]; rfl, HB7.out⟩
theorem waits_c {l : List Slt} {A : Option Addr} {w : World} (h : FL l A w) (cap : Nat) (hcap : l.length ≤ cap) (i : Int) (e : Bool) :
    Calls Tryd.prog 5 #[.slice A l.length cap, .int .i64 i, .bool e] w fun r w' => r = .returned (.int .i64 (waitS l i e)) ∧ BW w w' := by
  by_cases hp : 0 ≤ i ∧ i < l.length
  · obtain ⟨j, rfl⟩ : ∃ j : Nat, i = (j : Int) := ⟨i.toNat, by omega⟩
    by_cases hn : ldS (sAt l j) = true ∧ (sAt l j).known = true ∧ (sAt l j).bound = false
    · exact waits_load h cap hcap j e (by omega) hn.1 hn.2.1 hn.2.2
    · exact waits_none h cap j e (by omega) hn
  · exact waits_no h cap i e hp
end Go.Proofs.YtoaonoflekcccaaDoor
