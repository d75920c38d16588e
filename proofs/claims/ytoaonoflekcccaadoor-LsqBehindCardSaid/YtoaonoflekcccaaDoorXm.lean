/- Package lsq: Reorder. -/
import Derived.Test.YtoaonoflekcccaaDoorXl
set_option maxRecDepth 100000
set_option linter.unusedVariables false
namespace Go.Proofs.YtoaonoflekcccaaDoor
open Go.RowKit

def hidC (h : Nat → Bool) : Array Value := #[.bool (h 0), .bool (h 1), .bool (h 2), .bool (h 3), .bool (h 4), .bool (h 5), .bool (h 6), .bool (h 7)]
theorem eight {k : Nat} (h : k < 8) : k = 0 ∨ k = 1 ∨ k = 2 ∨ k = 3 ∨ k = 4 ∨ k = 5 ∨ k = 6 ∨ k = 7 := by omega
theorem hid_at (h : Nat → Bool) {k : Nat} (hk : k < 8) : (hidC h)[k]? = some (.bool (h k)) := by rcases eight hk with rfl | rfl | rfl | rfl | rfl | rfl | rfl | rfl <;> rfl
theorem hid_put (h : Nat → Bool) {k : Nat} (hk : k < 8) : (hidC h).setIfInBounds k (.bool true) = hidC (fun q => if q = k then true else h q) := by rcases eight hk with rfl | rfl | rfl | rfl | rfl | rfl | rfl | rfl <;> rfl
theorem tag_at (x : Slt) {k : Nat} (hk : k < 8) : (sltC x)[10 + k]? = some (.int .i64 (x.t k)) := by rcases eight hk with rfl | rfl | rfl | rfl | rfl | rfl | rfl | rfl <;> rfl
theorem idx_most (x : Slt) (a : Int) : idxS x a = -1 ∨ (0 ≤ idxS x a ∧ idxS x a < 8) := by
  unfold idxS
  have := room_most x
  split <;> omega
/-- Behind w: the elder's box and the array of what is hidden. -/
structure XR (x : Slt) (h : Nat → Bool) (w : World) (g H : Nat) (y : World) : Prop where
  low : BW w y
  e : Blk (sltC x) 29 g y
  hd : Blk (hidC h) 47 H y
theorem XR.on {x : Slt} {h : Nat → Bool} {w y z : World} {g H : Nat} (a : XR x h w g H y) (k : Below y.heap.size y z) : XR x h w g H z := ⟨BW.on a.low k, a.e.on k, a.hd.on k⟩
theorem XR.drew {x : Slt} {h : Nat → Bool} {w y : World} {g H : Nat} (a : XR x h w g H y) : XR x h w g H y.drew := a.on (Below.drew (Below.refl _ _))
theorem XR.put {x : Slt} {h : Nat → Bool} {w y : World} {g H k : Nat} (a : XR x h w g H y) (hne : g ≠ H) (hge : w.heap.size ≤ H) (hk : k < 8) : XR x (fun q => if q = k then true else h q) w g H (y.setCell ⟨H, k, none⟩ (.bool true)) :=
  ⟨Below.setCell a.low hge _, a.e.other hne _, by have := a.hd.set k (.bool true); rw [hid_put h hk] at this; exact this⟩
theorem reoK_next (x y : Slt) (m k : Nat) (h : Nat → Bool) (m' : Nat) (hm : m = m' + 1) : reoK x y m k h = if idxS y (x.addr + k) = -1 then reoK x y m' (k + 1) h
    else if stS y = true then reoK x y m' (k + 1) (fun q => if q = k then true else h q)
    else if ldS y = false ∨ y.bound = false then (false, h)
    else if h k = false ∧ y.t (idxS y (x.addr + k)).toNat ≠ x.t k then (true, h)
    else reoK x y m' (k + 1) h := by subst hm; rfl
theorem reoG_next (l : List Slt) (x : Slt) (r m j : Nat) (h : Nat → Bool) (hr : (roomS x).toNat = r) (m' : Nat) (hm : m = m' + 1) : reoG l x m j h = if (reoK x (sAt l j) r 0 h).1 = true then (j : Int) else reoG l x m' (j + 1) (reoK x (sAt l j) r 0 h).2 := by subst hm; subst hr; rfl
set_option maxHeartbeats 4000000 in
theorem reorder_no {l : List Slt} {A : Option Addr} {w : World} (h : FL l A w) (cap : Nat) (i : Int) (hp : ¬ (0 ≤ i ∧ i < l.length)) :
    Calls Tryd.prog 9 #[.slice A l.length cap, .int .i64 i] w fun r w' => r = .returned (.int .i64 (reoS l i)) ∧ BW w w' := by
  have HE : Hid (reoS l i = -1) := by show _ = _; unfold reoS; rw [if_neg (fun a => hp ⟨a.1, a.2.1⟩)]
  have HPL := Lib.hid (isPlace_c A l.length cap i w)
  rw [decide_eq_false hp] at HPL
  clear h hp
  generalize l.length = L at *
  go_enter Tryd.func9, Tryd.ntmps9
  go_wp2
  go_step3
  go_wp2_with (first
    | (go_at_call 10; refine HPL.out.mono ?_; rintro e1 w1 ⟨rfl, rfl⟩))
  try rw [Exit.noGoto_ret]
  go_ret
  exact ⟨by rw [HE.out]; rfl, Below.refl _ _⟩
set_option maxHeartbeats 16000000 in
theorem reorder_at {l : List Slt} {A : Option Addr} {w : World} (h : FL l A w) (cap : Nat) (i : Nat) (hi : i < l.length) :
    Calls Tryd.prog 9 #[.slice A l.length cap, .int .i64 (i : Int)] w fun r w' => r = .returned (.int .i64 (reoS l i)) ∧ BW w w' := by
  have HPL := Lib.hid (isPlace_c A l.length cap (i : Int) w)
  rw [decide_eq_true (⟨by omega, by omega⟩ : 0 ≤ (i : Int) ∧ (i : Int) < l.length)] at HPL
  obtain ⟨b, off, rfl, hb, hcs⟩ := h.cells hi
  have HCS := Lib.hid hcs
  have HCW := Lib.hid (hcs w (Below.refl _ _))
  have HLD := Lib.hid (isLoad_c (sAt l i) (h.at hi) w h.tab)
  have HRM := Lib.hid (fun y (hy : BW w y) => room_c (sAt l i) (h.at hi) y (h.tab.below hy))
  have HALL := Lib.hid (fun m (hm : m < l.length) => h.cells hm)
  have HLA := Lib.hid (fun m (hm : m < l.length) y (hy : BW w y) => isLoad_c (sAt l m) (h.at hm) y (h.tab.below hy))
  have HSA := Lib.hid (fun m (hm : m < l.length) y (hy : BW w y) => isStore_c (sAt l m) (h.at hm) y (h.tab.below hy))
  have HIA := Lib.hid (fun m (hm : m < l.length) (q : Int) y (hy : BW w y) => index_c (sAt l m) (h.at hm) q y (h.tab.below hy))
  have HK9 : Hid (∀ y, BW w y → y.cell? ⟨b, off + i * 18 + 9, none⟩ = some (.bool (sAt l i).bound)) := fun y hy => hcs y hy 9 _ rfl
  have hlen := h.len
  have hiI : (0 : Int) ≤ (i : Int) ∧ (i : Int) < (l.length : Int) := by omega
  have hrm := room_most (sAt l i)
  obtain ⟨r, hr⟩ : ∃ r : Nat, roomS (sAt l i) = (r : Int) := ⟨(roomS (sAt l i)).toNat, by omega⟩
  have HADD : Hid (∀ k : Nat, k < r → -9223372036854775808 ≤ (sAt l i).addr + (k : Int) ∧ (sAt l i).addr + (k : Int) ≤ 9223372036854775807) := fun k hk => by
    have h2 := room_end (sAt l i) (h.at hi)
    have h3 := (h.at hi).addr
    unfold I64 at h3
    rw [hr] at h2
    exact ⟨by omega, by omega⟩
  rw [hr] at HRM hrm
  have HRT : Hid ((roomS (sAt l i)).toNat = r) := by show _ = _; rw [hr]; rfl
  have HE1 : Hid (ldS (sAt l i) = true → (sAt l i).bound = true → reoS l i = reoG l (sAt l i) (l.length - (i + 1)) (i + 1) (fun _ => false)) := fun a c => by
    unfold reoS; rw [Int.toNat_natCast, if_pos ⟨by omega, by omega, a, c⟩]
  have HE2 : Hid (¬ (ldS (sAt l i) = true ∧ (sAt l i).bound = true) → reoS l i = -1) := fun a => by
    unfold reoS; rw [Int.toNat_natCast, if_neg (fun c => a ⟨c.2.2.1, c.2.2.2⟩)]
  unfold sltV at HLD HRM HLA HSA HIA
  clear h hcs hr
  cases hl : ldS (sAt l i) with
  | false =>
    rw [hl] at HLD
    have HE := Lib.hid (HE2.out (by rw [hl]; simp))
    clear hl HE1 HE2
    go_enter Tryd.func9, Tryd.ntmps9
    go_wp2
    go_step3
    go_wp2_with (first
      | (go_at_call 10; refine HPL.out.mono ?_; rintro e1 w1 ⟨rfl, rfl⟩)
      | (with_reducible refine Hz.val_arm (o := ⟨some 19, .load _ _, _, _, _, _⟩) (by kernel_rfl) (ex_slt (sAt l i) rfl rfl HCW.out Tryd.underlying29 rfl (by kernel_rfl)) ?_)
      | (go_at_call 11; refine HLD.out.mono ?_; rintro e2 w2 ⟨rfl, hb2⟩; have HB2 := Lib.hid hb2; clear hb2))
    try rw [Exit.noGoto_ret]
    go_ret
    exact ⟨by rw [HE.out]; rfl, HB2.out⟩
  | true =>
    rw [hl] at HLD
    cases hb : (sAt l i).bound with
    | false =>
      have HE := Lib.hid (HE2.out (by rw [hb]; simp))
      rw [hb] at HK9
      clear hl hb HE1 HE2
      go_enter Tryd.func9, Tryd.ntmps9
      go_wp2
      go_step3
      go_wp2_with (first
        | (go_at_call 10; refine HPL.out.mono ?_; rintro e1 w1 ⟨rfl, rfl⟩)
        | (with_reducible refine Hz.val_arm (o := ⟨some 19, .load _ _, _, _, _, _⟩) (by kernel_rfl) (ex_slt (sAt l i) rfl rfl HCW.out Tryd.underlying29 rfl (by kernel_rfl)) ?_)
        | (go_at_call 11; refine HLD.out.mono ?_; rintro e2 w2 ⟨rfl, hb2⟩; have HB2 := Lib.hid hb2; have c9 := HK9.out _ HB2.out; have HC2 := Lib.hid (HCS.out _ HB2.out); clear hb2))
      try rw [Exit.noGoto_ret]
      go_ret
      exact ⟨by rw [HE.out]; rfl, HB2.out⟩
    | true =>
      obtain ⟨R, hR⟩ : ∃ R, reoS l i = R := ⟨_, rfl⟩
      have HR := Lib.hid hR
      have HR0 : Hid (R = reoG l (sAt l i) (l.length - (i + 1)) (i + 1) (fun _ => false)) := hR.symm.trans (HE1.out hl hb)
      rw [hb] at HK9
      clear hl hb hR HE1 HE2
      go_enter Tryd.func9, Tryd.ntmps9
      go_wp2
      go_step3
      go_upto_region 4 with (first
        | (go_at_call 10; refine HPL.out.mono ?_; rintro e1 w1 ⟨rfl, rfl⟩)
        | (with_reducible refine Hz.val_arm (o := ⟨some 19, .load _ _, _, _, _, _⟩) (by kernel_rfl) (ex_slt (sAt l i) rfl rfl HCW.out Tryd.underlying29 rfl (by kernel_rfl)) ?_)
        | (go_at_call 11; refine HLD.out.mono ?_; rintro e2 w2 ⟨rfl, hb2⟩; have HB2 := Lib.hid hb2; have c9 := HK9.out _ HB2.out; have HC2 := Lib.hid (HCS.out _ HB2.out); clear hb2)
        | (with_reducible refine Hz.val_arm (o := ⟨some 34, .load _ _, _, _, _, _⟩) (by kernel_rfl) (ex_slt (sAt l i) rfl rfl HC2.out Tryd.underlying29 rfl (by kernel_rfl)) ?_)
        | (with_reducible refine Hz.store_arm (o := ⟨none, .store _ _ _, _, _, _, _⟩) rfl 29 (.tmp 5) (.tmp 34) rfl rfl rfl (slt_store (sAt l i) w2 _ rfl) ?_))
      have HXE := Lib.hid (BW.on HB2.out (BW.new (Below.refl _ w2) (.cells (sltC (sAt l i)) 29)))
      have HKE := Lib.hid (Blk.new (sltC (sAt l i)) 29 w2)
      obtain ⟨g, hg⟩ : ∃ g, w2.heap.size = g := ⟨_, rfl⟩
      rw [hg] at HKE ⊢
      have hgw : w.heap.size ≤ g := by rw [← hg]; exact Below.size HB2.out
      clear hg
      generalize w2.alloc (.cells (sltC (sAt l i)) 29) = w3 at *
      have HX0 : Hid (XR (sAt l i) (fun _ => false) w g w3.heap.size (w3.alloc (.cells (hidC (fun _ => false)) 47))) := ⟨BW.new HXE.out _, HKE.out.alloc _, Blk.new _ _ _⟩
      have hgH : g < w3.heap.size := HKE.out.lt
      obtain ⟨H, hH⟩ : ∃ H, w3.heap.size = H := ⟨_, rfl⟩
      rw [hH] at HX0 hgH
      have HNE := Lib.hid (show g ≠ H by omega)
      have HGE := Lib.hid (show w.heap.size ≤ H by omega)
      unfold hidC at HX0
      go_wp2
      go_step3
      go_wp2
      go_loopg [6, 8, 9, 10] (l.length - (i + 1)) (fun gg v6 v8 v9 v10 wr => ∃ (j : Nat) (h1 : Nat → Bool), v8 = .int .i64 (j : Int) ∧ j + gg = l.length ∧ i + 1 ≤ j ∧ v6 = .int .i64 (-1) ∧ Hid (XR (sAt l i) h1 w g H wr ∧ R = reoG l (sAt l i) gg j h1))
      case atStart => exact ⟨i + 1, fun _ => false, by first | rfl | go_num, by omega, by omega, rfl, HX0.out, HR0.out⟩
      case round =>
        obtain ⟨j, h1, rfl, hj, hij, rfl, HH⟩ := hrel
        obtain ⟨wi, rfl⟩ : ∃ wi : World, wi = wr := ⟨_, rfl⟩
        obtain ⟨gK, rfl⟩ : ∃ x, x = gk := ⟨_, rfl⟩
        by_cases hlt : j < l.length
        · have hltI : (j : Int) < (l.length : Int) := by omega
          have HJL := Lib.hid hlt
          obtain ⟨b', off', e', _, hcj⟩ := HALL.out j hlt
          obtain ⟨rfl, rfl⟩ : b = b' ∧ off = off' := by simpa using e'
          have HCJ := Lib.hid hcj
          have HBJ0 : Hid (∀ y, BW w y → y.cell? ⟨b, off + j * 18 + 9, none⟩ = some (.bool (sAt l j).bound)) := fun y hy => hcj y hy 9 _ rfl
          have HLJ0 := Lib.hid (HLA.out j hlt)
          have HSJ0 := Lib.hid (HSA.out j hlt)
          have HIXX := Lib.hid (fun (k : Nat) => HIA.out j hlt ((sAt l i).addr + (k : Int)))
          have HQ0 := Lib.hid (HH.out.2.trans (reoG_next l (sAt l i) r gK j h1 HRT.out (l.length - (j + 1)) (by omega)))
          have HOUT : Hid (∀ h2, reoK (sAt l i) (sAt l j) r 0 h1 = (false, h2) → R = reoG l (sAt l i) (l.length - (j + 1)) (j + 1) h2) := fun h2 a => by rw [HQ0.out, a, if_neg (by simp)]
          have HFND : Hid (∀ h2, reoK (sAt l i) (sAt l j) r 0 h1 = (true, h2) → R = (j : Int)) := fun h2 a => by rw [HQ0.out, a, if_pos rfl]
          have HRJ := Lib.hid (HRM.out _ HH.out.1.low)
          have HX1 := Lib.hid HH.out.1
          clear hcj e' HH HQ0
          go_wp2_with (first
            | (with_reducible refine load_blk (o := ⟨some 43, .load _ (.tmp 5), _, _, _, _⟩) rfl 29 (.tmp 5) rfl HX1.out.e rfl Tryd.underlying29 rfl (by kernel_rfl) ?_)
            | (go_at_call 22; refine HRJ.out.mono ?_; rintro e4 w4 ⟨rfl, hb4⟩; have HX2 := Lib.hid (HX1.out.on hb4); clear hb4))
          go_loopg [6, 9, 10, 45] r (fun hh v6 v9 v10 v45 wr => ∃ (k : Nat) (h2 : Nat → Bool), v45 = .int .i64 (k : Int) ∧ k + hh = r ∧ v6 = .int .i64 (-1) ∧ Hid (XR (sAt l i) h2 w g H wr ∧ reoK (sAt l i) (sAt l j) r 0 h1 = reoK (sAt l i) (sAt l j) hh k h2))
          case atStart => exact ⟨0, h1, rfl, by omega, rfl, HX2.out, rfl⟩
          case round =>
            obtain ⟨k, h2, rfl, hk, rfl, HH2⟩ := hrel
            by_cases hklt : k < r
            · have hkI : (k : Int) < (r : Int) := by omega
              have HX := Lib.hid HH2.out.1
              have HQ := Lib.hid (HH2.out.2.trans (reoK_next (sAt l i) (sAt l j) gk k h2 (r - (k + 1)) (by omega)))
              have HAD := Lib.hid (HADD.out k hklt)
              have HIX0 := Lib.hid (HIXX.out k)
              have hIB := idx_most (sAt l j) ((sAt l i).addr + (k : Int))
              have HK8 := Lib.hid (show k < 8 by omega)
              obtain ⟨w8, rfl⟩ : ∃ x : World, x = wr := ⟨_, rfl⟩
              go_upto_region 11 with (fail)
              by_cases hn : idxS (sAt l j) ((sAt l i).addr + (k : Int)) = -1
              · have HN2 : Hid (reoK (sAt l i) (sAt l j) r 0 h1 = reoK (sAt l i) (sAt l j) (r - (k + 1)) (k + 1) h2) := by show _ = _; rw [HQ.out, if_pos hn]
                have HIX : Hid _ := HIX0.out
                rw [hn] at HIX
                clear hn HQ HIX0 hIB
                refine wp_region_held (S := XR (sAt l i) h2 w g H) (by kernel_rfl) ?_
                change wpAnyH _ _ _ _ _ _ _ _ (World.drew _)
                have HS := HX.out.drew
                generalize World.drew _ = wd at *
                refine hk_val (i := 0) (oi := ⟨some 48, .move _, _, _, _, _⟩) (.slice (some ⟨b, off, none⟩) l.length cap) rfl (by kernel_rfl) (by kernel_rfl) (by kernel_rfl) (fun _ _ _ h => h) (by kernel_rfl) (fun _ _ => rfl) HS ?_
                simp only [Act.put, List.setIfInBounds_toArray, List.set_cons_zero, List.set_cons_succ]
                refine hk_val (i := 1) (oi := ⟨some 49, .move _, _, _, _, _⟩) (.int .i64 (j : Int)) rfl (by kernel_rfl) (by kernel_rfl) (by kernel_rfl) (fun _ _ _ h => h) (by kernel_rfl) (fun _ _ => rfl) HS ?_
                simp only [Act.put, List.setIfInBounds_toArray, List.set_cons_zero, List.set_cons_succ]
                refine hk_val (i := 2) (oi := ⟨some 50, .indexAddr _ _ _, _, _, _, _⟩) (.pointer (some ⟨b, off + j * 18, none⟩)) rfl (by kernel_rfl) (by kernel_rfl) (by kernel_rfl) (fun _ _ _ h => h) (by kernel_rfl) (fun _ _ => Hz.ex_indexz rfl rfl rfl rfl HJL.out Tryd.underlying22 (by kernel_rfl)) HS ?_
                simp only [Act.put, List.setIfInBounds_toArray, List.set_cons_zero, List.set_cons_succ]
                refine hk_val (i := 3) (oi := ⟨some 51, .load _ _, _, _, _, _⟩) (.agg (sltC (sAt l j))) rfl (by kernel_rfl) (by kernel_rfl) (by kernel_rfl) (fun _ _ _ h => h) (by kernel_rfl) (fun y hy => ex_slt (sAt l j) rfl rfl (HCJ.out _ hy.low) Tryd.underlying29 rfl (by kernel_rfl)) HS ?_
                simp only [Act.put, List.setIfInBounds_toArray, List.set_cons_zero, List.set_cons_succ]
                refine hk_val (i := 4) (oi := ⟨some 52, .fieldAddr _ _ _, _, _, _, _⟩) (.pointer (some ⟨g, 6, none⟩)) rfl (by kernel_rfl) (by kernel_rfl) (by kernel_rfl) (fun _ _ _ h => h) (by kernel_rfl) (fun _ _ => by kernel_rfl) HS ?_
                simp only [Act.put, List.setIfInBounds_toArray, List.set_cons_zero, List.set_cons_succ]
                refine hk_val (i := 5) (oi := ⟨some 53, .load _ _, _, _, _, _⟩) (.int .i64 (sAt l i).addr) rfl (by kernel_rfl) (by kernel_rfl) (by kernel_rfl) (fun _ _ _ h => h) (by kernel_rfl) (fun y hy => ex_load rfl rfl (hy.e.cell 6) (by kernel_rfl)) HS ?_
                simp only [Act.put, List.setIfInBounds_toArray, List.set_cons_zero, List.set_cons_succ]
                refine hk_val (i := 6) (oi := ⟨some 54, .move _, _, _, _, _⟩) (.int .i64 (k : Int)) rfl (by kernel_rfl) (by kernel_rfl) (by kernel_rfl) (fun _ _ _ h => h) (by kernel_rfl) (fun _ _ => rfl) HS ?_
                simp only [Act.put, List.setIfInBounds_toArray, List.set_cons_zero, List.set_cons_succ]
                refine hk_val (i := 7) (oi := ⟨some 55, .binOp _ _ _ _ _, _, _, _, _⟩) (.int .i64 ((sAt l i).addr + (k : Int))) rfl (by kernel_rfl) (by kernel_rfl) (by kernel_rfl) (fun _ _ _ h => h) (by kernel_rfl) (fun _ _ => Hz.ex_addI rfl rfl rfl (HAD.out)) HS ?_
                simp only [Act.put, List.setIfInBounds_toArray, List.set_cons_zero, List.set_cons_succ]
                refine hk_call (i := 8) (oi := ⟨some 56, .call _, _, _, _, _⟩) (by kernel_rfl) rfl (by kernel_rfl) (by first | rfl | kernel_rfl) (HIX.out _ HS.low) ?_
                rintro e w3 ⟨rfl, hb⟩
                have HS3 := HS.on hb
                refine ⟨_, rfl, HS3, ?_⟩
                simp only [Act.put, List.setIfInBounds_toArray, List.set_cons_zero, List.set_cons_succ]
                refine hk_val (i := 9) (oi := ⟨some 10, .assign _, _, _, _, _⟩) (.int .i64 (-1)) rfl (by kernel_rfl) (by kernel_rfl) (by kernel_rfl) (fun _ _ _ h => h) (by kernel_rfl) (fun _ _ => rfl) HS3 ?_
                simp only [Act.put, List.setIfInBounds_toArray, List.set_cons_zero, List.set_cons_succ]
                refine wpAnyH_done (by kernel_rfl) ?_ _
                go_wp2
                go_roundg (r - (k + 1))
                case measure => omega
                case rel => exact ⟨k + 1, h2, by first | rfl | go_num, by omega, rfl, HS3, HN2.out⟩
              · obtain ⟨n, hn2⟩ : ∃ n : Nat, idxS (sAt l j) ((sAt l i).addr + (k : Int)) = (n : Int) := ⟨(idxS (sAt l j) ((sAt l i).addr + (k : Int))).toNat, by omega⟩
                have HN8 := Lib.hid (show n < 8 by omega)
                have hnI : (0 : Int) ≤ (n : Int) := by omega
                have en : ((n : Int) == -1) = false := by first | (simp; done) | (simp; omega)
                have hq2 := HQ.out
                rw [if_neg hn, hn2, Int.toNat_natCast] at hq2
                have HQ2 := Lib.hid hq2
                have HIX : Hid _ := HIX0.out
                rw [hn2] at HIX
                clear hn hn2 HQ HIX0 hIB hq2
                refine wp_region_held (S := XR (sAt l i) h2 w g H) (by kernel_rfl) ?_
                change wpAnyH _ _ _ _ _ _ _ _ (World.drew _)
                have HS := HX.out.drew
                generalize World.drew _ = wd at *
                refine hk_val (i := 0) (oi := ⟨some 48, .move _, _, _, _, _⟩) (.slice (some ⟨b, off, none⟩) l.length cap) rfl (by kernel_rfl) (by kernel_rfl) (by kernel_rfl) (fun _ _ _ h => h) (by kernel_rfl) (fun _ _ => rfl) HS ?_
                simp only [Act.put, List.setIfInBounds_toArray, List.set_cons_zero, List.set_cons_succ]
                refine hk_val (i := 1) (oi := ⟨some 49, .move _, _, _, _, _⟩) (.int .i64 (j : Int)) rfl (by kernel_rfl) (by kernel_rfl) (by kernel_rfl) (fun _ _ _ h => h) (by kernel_rfl) (fun _ _ => rfl) HS ?_
                simp only [Act.put, List.setIfInBounds_toArray, List.set_cons_zero, List.set_cons_succ]
                refine hk_val (i := 2) (oi := ⟨some 50, .indexAddr _ _ _, _, _, _, _⟩) (.pointer (some ⟨b, off + j * 18, none⟩)) rfl (by kernel_rfl) (by kernel_rfl) (by kernel_rfl) (fun _ _ _ h => h) (by kernel_rfl) (fun _ _ => Hz.ex_indexz rfl rfl rfl rfl HJL.out Tryd.underlying22 (by kernel_rfl)) HS ?_
                simp only [Act.put, List.setIfInBounds_toArray, List.set_cons_zero, List.set_cons_succ]
                refine hk_val (i := 3) (oi := ⟨some 51, .load _ _, _, _, _, _⟩) (.agg (sltC (sAt l j))) rfl (by kernel_rfl) (by kernel_rfl) (by kernel_rfl) (fun _ _ _ h => h) (by kernel_rfl) (fun y hy => ex_slt (sAt l j) rfl rfl (HCJ.out _ hy.low) Tryd.underlying29 rfl (by kernel_rfl)) HS ?_
                simp only [Act.put, List.setIfInBounds_toArray, List.set_cons_zero, List.set_cons_succ]
                refine hk_val (i := 4) (oi := ⟨some 52, .fieldAddr _ _ _, _, _, _, _⟩) (.pointer (some ⟨g, 6, none⟩)) rfl (by kernel_rfl) (by kernel_rfl) (by kernel_rfl) (fun _ _ _ h => h) (by kernel_rfl) (fun _ _ => by kernel_rfl) HS ?_
                simp only [Act.put, List.setIfInBounds_toArray, List.set_cons_zero, List.set_cons_succ]
                refine hk_val (i := 5) (oi := ⟨some 53, .load _ _, _, _, _, _⟩) (.int .i64 (sAt l i).addr) rfl (by kernel_rfl) (by kernel_rfl) (by kernel_rfl) (fun _ _ _ h => h) (by kernel_rfl) (fun y hy => ex_load rfl rfl (hy.e.cell 6) (by kernel_rfl)) HS ?_
                simp only [Act.put, List.setIfInBounds_toArray, List.set_cons_zero, List.set_cons_succ]
                refine hk_val (i := 6) (oi := ⟨some 54, .move _, _, _, _, _⟩) (.int .i64 (k : Int)) rfl (by kernel_rfl) (by kernel_rfl) (by kernel_rfl) (fun _ _ _ h => h) (by kernel_rfl) (fun _ _ => rfl) HS ?_
                simp only [Act.put, List.setIfInBounds_toArray, List.set_cons_zero, List.set_cons_succ]
                refine hk_val (i := 7) (oi := ⟨some 55, .binOp _ _ _ _ _, _, _, _, _⟩) (.int .i64 ((sAt l i).addr + (k : Int))) rfl (by kernel_rfl) (by kernel_rfl) (by kernel_rfl) (fun _ _ _ h => h) (by kernel_rfl) (fun _ _ => Hz.ex_addI rfl rfl rfl (HAD.out)) HS ?_
                simp only [Act.put, List.setIfInBounds_toArray, List.set_cons_zero, List.set_cons_succ]
                refine hk_call (i := 8) (oi := ⟨some 56, .call _, _, _, _, _⟩) (by kernel_rfl) rfl (by kernel_rfl) (by first | rfl | kernel_rfl) (HIX.out _ HS.low) ?_
                rintro e w3 ⟨rfl, hb⟩
                have HS3 := HS.on hb
                refine ⟨_, rfl, HS3, ?_⟩
                simp only [Act.put, List.setIfInBounds_toArray, List.set_cons_zero, List.set_cons_succ]
                refine hk_val (i := 9) (oi := ⟨some 10, .assign _, _, _, _, _⟩) (.int .i64 (n : Int)) rfl (by kernel_rfl) (by kernel_rfl) (by kernel_rfl) (fun _ _ _ h => h) (by kernel_rfl) (fun _ _ => rfl) HS3 ?_
                simp only [Act.put, List.setIfInBounds_toArray, List.set_cons_zero, List.set_cons_succ]
                refine wpAnyH_done (by kernel_rfl) ?_ _
                have HX4 := Lib.hid HS3
                have HC4 := Lib.hid (HCJ.out _ HS3.low)
                clear HS3 HS
                cases hst : stS (sAt l j) with
                | true =>
                  have HN2 : Hid (reoK (sAt l i) (sAt l j) r 0 h1 = reoK (sAt l i) (sAt l j) (r - (k + 1)) (k + 1) (fun q => if q = k then true else h2 q)) := by show _ = _; rw [HQ2.out, if_pos hst]
                  have HSJ := Lib.hid (fun y (hy : BW w y) => hst ▸ HSJ0.out y hy)
                  clear hst HQ2
                  have hk8 := HK8.out
                  have hk8I : (k : Int) < 8 := by omega
                  go_wp2_with (first
                    | (with_reducible refine Hz.val_arm (o := ⟨some 64, .load _ _, _, _, _, _⟩) (by kernel_rfl) (ex_slt (sAt l j) rfl rfl HC4.out Tryd.underlying29 rfl (by kernel_rfl)) ?_)
                    | (go_at_call 24; refine (HSJ.out _ HX4.out.low).mono ?_; rintro e5 w5 ⟨rfl, hb5⟩; have HX5 := Lib.hid (HX4.out.on hb5); have HC5 := Lib.hid (HCJ.out _ HX5.out.low); have ck : w5.cell? ⟨H, k, none⟩ = some (.bool (h2 k)) := (HX5.out.hd.cell k).trans (hid_at h2 HK8.out); have fk := HX5.out.hd.free k; clear hb5))
                  go_roundg (r - (k + 1))
                  case measure => omega
                  case rel => exact ⟨k + 1, _, by first | rfl | go_num, by omega, rfl, HX5.out.put HNE.out HGE.out HK8.out, HN2.out⟩
                | false =>
                  have HSJ := Lib.hid (fun y (hy : BW w y) => hst ▸ HSJ0.out y hy)
                  cases hld : ldS (sAt l j) with
                  | false =>
                    have HN2 : Hid (R = reoG l (sAt l i) (l.length - (j + 1)) (j + 1) h2) := HOUT.out h2 (by rw [HQ2.out, if_neg (by rw [hst]; simp), if_pos (.inl hld)])
                    have HLJ := Lib.hid (fun y (hy : BW w y) => hld ▸ HLJ0.out y hy)
                    clear hst hld HQ2
                    go_wp2_with (first
                      | (with_reducible refine Hz.val_arm (o := ⟨some 64, .load _ _, _, _, _, _⟩) (by kernel_rfl) (ex_slt (sAt l j) rfl rfl HC4.out Tryd.underlying29 rfl (by kernel_rfl)) ?_)
                      | (go_at_call 24; refine (HSJ.out _ HX4.out.low).mono ?_; rintro e5 w5 ⟨rfl, hb5⟩; have HX5 := Lib.hid (HX4.out.on hb5); have HC5 := Lib.hid (HCJ.out _ HX5.out.low); clear hb5)
                      | (with_reducible refine Hz.val_arm (o := ⟨some 72, .load _ _, _, _, _, _⟩) (by kernel_rfl) (ex_slt (sAt l j) rfl rfl HC5.out Tryd.underlying29 rfl (by kernel_rfl)) ?_)
                      | (go_at_call 11; refine (HLJ.out _ HX5.out.low).mono ?_; rintro e7 w7 ⟨rfl, hb7⟩; have HX7 := Lib.hid (HX5.out.on hb7); clear hb7))
                    go_roundg (l.length - (j + 1))
                    case measure => omega
                    case rel => exact ⟨j + 1, h2, by first | rfl | go_num, by omega, by omega, rfl, HX7.out, HN2.out⟩
                  | true =>
                    have HLJ := Lib.hid (fun y (hy : BW w y) => hld ▸ HLJ0.out y hy)
                    cases hbd : (sAt l j).bound with
                    | false =>
                      have HN2 : Hid (R = reoG l (sAt l i) (l.length - (j + 1)) (j + 1) h2) := HOUT.out h2 (by rw [HQ2.out, if_neg (by rw [hst]; simp), if_pos (.inr hbd)])
                      have HBJ := Lib.hid (fun y (hy : BW w y) => (HBJ0.out y hy).trans (congrArg (fun z => some (Value.bool z)) hbd))
                      clear hst hld hbd HQ2
                      go_wp2_with (first
                        | (with_reducible refine Hz.val_arm (o := ⟨some 64, .load _ _, _, _, _, _⟩) (by kernel_rfl) (ex_slt (sAt l j) rfl rfl HC4.out Tryd.underlying29 rfl (by kernel_rfl)) ?_)
                        | (go_at_call 24; refine (HSJ.out _ HX4.out.low).mono ?_; rintro e5 w5 ⟨rfl, hb5⟩; have HX5 := Lib.hid (HX4.out.on hb5); have HC5 := Lib.hid (HCJ.out _ HX5.out.low); clear hb5)
                        | (with_reducible refine Hz.val_arm (o := ⟨some 72, .load _ _, _, _, _, _⟩) (by kernel_rfl) (ex_slt (sAt l j) rfl rfl HC5.out Tryd.underlying29 rfl (by kernel_rfl)) ?_)
                        | (go_at_call 11; refine (HLJ.out _ HX5.out.low).mono ?_; rintro e7 w7 ⟨rfl, hb7⟩; have HX7 := Lib.hid (HX5.out.on hb7); have c9 := HBJ.out _ HX7.out.low; clear hb7))
                      go_roundg (l.length - (j + 1))
                      case measure => omega
                      case rel => exact ⟨j + 1, h2, by first | rfl | go_num, by omega, by omega, rfl, HX7.out, HN2.out⟩
                    | true =>
                      have hq3 := HQ2.out
                      rw [if_neg (by rw [hst]; simp), if_neg (by rw [hld, hbd]; simp)] at hq3
                      have HQ3 := Lib.hid hq3
                      have HBJ := Lib.hid (fun y (hy : BW w y) => (HBJ0.out y hy).trans (congrArg (fun z => some (Value.bool z)) hbd))
                      have HTJ : Hid (∀ y, XR (sAt l i) h2 w g H y → y.cell? ⟨b, off + j * 18 + 10 + n * 1, none⟩ = some (.int .i64 ((sAt l j).t n))) := fun y hy => by
                        have := HCJ.out y hy.low (10 + n) _ (tag_at (sAt l j) HN8.out)
                        rw [Nat.mul_one, Nat.add_assoc (off + j * 18)]
                        exact this
                      have HTI : Hid (∀ y, XR (sAt l i) h2 w g H y → y.cell? ⟨g, 10 + k * 1, none⟩ = some (.int .i64 ((sAt l i).t k))) := fun y hy => by
                        rw [Nat.mul_one]
                        exact (hy.e.cell (10 + k)).trans (tag_at (sAt l i) HK8.out)
                      have HHK0 : Hid (∀ y, XR (sAt l i) h2 w g H y → y.cell? ⟨H, 0 + k * 1, none⟩ = some (.bool (h2 k))) := fun y hy => by
                        rw [Nat.mul_one, Nat.zero_add]
                        exact (hy.hd.cell k).trans (hid_at h2 HK8.out)
                      clear hst hld hbd hq3 HQ2
                      go_upto_region 16 with (first
                        | (with_reducible refine Hz.val_arm (o := ⟨some 64, .load _ _, _, _, _, _⟩) (by kernel_rfl) (ex_slt (sAt l j) rfl rfl HC4.out Tryd.underlying29 rfl (by kernel_rfl)) ?_)
                        | (go_at_call 24; refine (HSJ.out _ HX4.out.low).mono ?_; rintro e5 w5 ⟨rfl, hb5⟩; have HX5 := Lib.hid (HX4.out.on hb5); have HC5 := Lib.hid (HCJ.out _ HX5.out.low); clear hb5)
                        | (with_reducible refine Hz.val_arm (o := ⟨some 72, .load _ _, _, _, _, _⟩) (by kernel_rfl) (ex_slt (sAt l j) rfl rfl HC5.out Tryd.underlying29 rfl (by kernel_rfl)) ?_)
                        | (go_at_call 11; refine (HLJ.out _ HX5.out.low).mono ?_; rintro e7 w7 ⟨rfl, hb7⟩; have HX7 := Lib.hid (HX5.out.on hb7); have c9 := HBJ.out _ HX7.out.low; clear hb7))
                      cases hh : h2 k with
                      | true =>
                        have HN2 : Hid (reoK (sAt l i) (sAt l j) r 0 h1 = reoK (sAt l i) (sAt l j) (r - (k + 1)) (k + 1) h2) := by show _ = _; rw [HQ3.out, if_neg (fun a => by rw [hh] at a; cases a.1)]
                        have HHK : Hid _ := HHK0.out
                        rw [hh] at HHK
                        clear hh HQ3 HHK0 HTJ HTI
                        refine wp_region_held (S := XR (sAt l i) h2 w g H) (by kernel_rfl) ?_
                        change wpAnyH _ _ _ _ _ _ _ _ (World.drew _)
                        have HS := HX7.out.drew
                        generalize World.drew _ = wd at *
                        refine hk_val (i := 0) (oi := ⟨some 84, .move _, _, _, _, _⟩) (.int .i64 (k : Int)) rfl (by kernel_rfl) (by kernel_rfl) (by kernel_rfl) (fun _ _ _ h => h) (by kernel_rfl) (fun _ _ => rfl) HS ?_
                        simp only [Act.put, List.setIfInBounds_toArray, List.set_cons_zero, List.set_cons_succ]
                        refine hk_val (i := 1) (oi := ⟨some 85, .indexAddr _ _ _, _, _, _, _⟩) (.pointer (some ⟨H, 0 + k * 1, none⟩)) rfl (by kernel_rfl) (by kernel_rfl) (by kernel_rfl) (fun _ _ _ h => h) (by kernel_rfl) (fun _ _ => Hz.ex_indexA (z := 1) rfl rfl rfl rfl HK8.out Tryd.underlying47 (by kernel_rfl) rfl) HS ?_
                        simp only [Act.put, List.setIfInBounds_toArray, List.set_cons_zero, List.set_cons_succ]
                        refine hk_val (i := 2) (oi := ⟨some 86, .load _ _, _, _, _, _⟩) (.bool true) rfl (by kernel_rfl) (by kernel_rfl) (by kernel_rfl) (fun _ _ _ h => h) (by kernel_rfl) (fun y hy => ex_load rfl rfl (HHK.out _ hy) (by kernel_rfl)) HS ?_
                        simp only [Act.put, List.setIfInBounds_toArray, List.set_cons_zero, List.set_cons_succ]
                        refine hk_val (i := 3) (oi := ⟨some 87, .unOp _ _ _, _, _, _, _⟩) (.bool false) rfl (by kernel_rfl) (by kernel_rfl) (by kernel_rfl) (fun _ _ _ h => h) (by kernel_rfl) (fun _ _ => rfl) HS ?_
                        simp only [Act.put, List.setIfInBounds_toArray, List.set_cons_zero, List.set_cons_succ]
                        refine hk_val (i := 4) (oi := ⟨some 88, .move _, _, _, _, _⟩) (.bool false) rfl (by kernel_rfl) (by kernel_rfl) (by kernel_rfl) (fun _ _ _ h => h) (by kernel_rfl) (fun _ _ => rfl) HS ?_
                        simp only [Act.put, List.setIfInBounds_toArray, List.set_cons_zero, List.set_cons_succ]
                        refine hk_skip (i := 5) (oi := ⟨some 89, .move _, _, _, _, _⟩) rfl (by kernel_rfl) (by kernel_rfl) (by kernel_rfl) (fun _ _ _ h => h) (by kernel_rfl) HS ?_
                        simp only [Act.put, List.setIfInBounds_toArray, List.set_cons_zero, List.set_cons_succ]
                        refine hk_skip (i := 6) (oi := ⟨some 90, .move _, _, _, _, _⟩) rfl (by kernel_rfl) (by kernel_rfl) (by kernel_rfl) (fun _ _ _ h => h) (by kernel_rfl) HS ?_
                        simp only [Act.put, List.setIfInBounds_toArray, List.set_cons_zero, List.set_cons_succ]
                        refine hk_skip (i := 7) (oi := ⟨some 91, .move _, _, _, _, _⟩) rfl (by kernel_rfl) (by kernel_rfl) (by kernel_rfl) (fun _ _ _ h => h) (by kernel_rfl) HS ?_
                        simp only [Act.put, List.setIfInBounds_toArray, List.set_cons_zero, List.set_cons_succ]
                        refine hk_skip (i := 8) (oi := ⟨some 92, .indexAddr _ _ _, _, _, _, _⟩) rfl (by kernel_rfl) (by kernel_rfl) (by kernel_rfl) (fun _ _ _ h => h) (by kernel_rfl) HS ?_
                        simp only [Act.put, List.setIfInBounds_toArray, List.set_cons_zero, List.set_cons_succ]
                        refine hk_skip (i := 9) (oi := ⟨some 93, .fieldAddr _ _ _, _, _, _, _⟩) rfl (by kernel_rfl) (by kernel_rfl) (by kernel_rfl) (fun _ _ _ h => h) (by kernel_rfl) HS ?_
                        simp only [Act.put, List.setIfInBounds_toArray, List.set_cons_zero, List.set_cons_succ]
                        refine hk_skip (i := 10) (oi := ⟨some 94, .indexAddr _ _ _, _, _, _, _⟩) rfl (by kernel_rfl) (by kernel_rfl) (by kernel_rfl) (fun _ _ _ h => h) (by kernel_rfl) HS ?_
                        simp only [Act.put, List.setIfInBounds_toArray, List.set_cons_zero, List.set_cons_succ]
                        refine hk_skip (i := 11) (oi := ⟨some 95, .load _ _, _, _, _, _⟩) rfl (by kernel_rfl) (by kernel_rfl) (by kernel_rfl) (fun _ _ _ h => h) (by kernel_rfl) HS ?_
                        simp only [Act.put, List.setIfInBounds_toArray, List.set_cons_zero, List.set_cons_succ]
                        refine hk_skip (i := 12) (oi := ⟨some 96, .move _, _, _, _, _⟩) rfl (by kernel_rfl) (by kernel_rfl) (by kernel_rfl) (fun _ _ _ h => h) (by kernel_rfl) HS ?_
                        simp only [Act.put, List.setIfInBounds_toArray, List.set_cons_zero, List.set_cons_succ]
                        refine hk_skip (i := 13) (oi := ⟨some 97, .fieldAddr _ _ _, _, _, _, _⟩) rfl (by kernel_rfl) (by kernel_rfl) (by kernel_rfl) (fun _ _ _ h => h) (by kernel_rfl) HS ?_
                        simp only [Act.put, List.setIfInBounds_toArray, List.set_cons_zero, List.set_cons_succ]
                        refine hk_skip (i := 14) (oi := ⟨some 98, .indexAddr _ _ _, _, _, _, _⟩) rfl (by kernel_rfl) (by kernel_rfl) (by kernel_rfl) (fun _ _ _ h => h) (by kernel_rfl) HS ?_
                        simp only [Act.put, List.setIfInBounds_toArray, List.set_cons_zero, List.set_cons_succ]
                        refine hk_skip (i := 15) (oi := ⟨some 99, .load _ _, _, _, _, _⟩) rfl (by kernel_rfl) (by kernel_rfl) (by kernel_rfl) (fun _ _ _ h => h) (by kernel_rfl) HS ?_
                        simp only [Act.put, List.setIfInBounds_toArray, List.set_cons_zero, List.set_cons_succ]
                        refine hk_skip (i := 16) (oi := ⟨some 100, .binOp _ _ _ _ _, _, _, _, _⟩) rfl (by kernel_rfl) (by kernel_rfl) (by kernel_rfl) (fun _ _ _ h => h) (by kernel_rfl) HS ?_
                        simp only [Act.put, List.setIfInBounds_toArray, List.set_cons_zero, List.set_cons_succ]
                        refine hk_val (i := 17) (oi := ⟨some 101, .pick _ _ _, _, _, _, _⟩) (.bool false) rfl (by kernel_rfl) (by kernel_rfl) (by kernel_rfl) (fun _ _ _ h => h) (by kernel_rfl) (fun _ _ => rfl) HS ?_
                        simp only [Act.put, List.setIfInBounds_toArray, List.set_cons_zero, List.set_cons_succ]
                        refine hk_val (i := 18) (oi := ⟨some 83, .assign _, _, _, _, _⟩) (.bool false) rfl (by kernel_rfl) (by kernel_rfl) (by kernel_rfl) (fun _ _ _ h => h) (by kernel_rfl) (fun _ _ => rfl) HS ?_
                        simp only [Act.put, List.setIfInBounds_toArray, List.set_cons_zero, List.set_cons_succ]
                        refine wpAnyH_done (by kernel_rfl) ?_ _
                        go_wp2
                        go_roundg (r - (k + 1))
                        case measure => omega
                        case rel => exact ⟨k + 1, h2, by first | rfl | go_num, by omega, rfl, HS, HN2.out⟩
                      | false =>
                        have HHK : Hid _ := HHK0.out
                        rw [hh] at HHK
                        by_cases hdf : (sAt l j).t n = (sAt l i).t k
                        · have HN2 : Hid (reoK (sAt l i) (sAt l j) r 0 h1 = reoK (sAt l i) (sAt l j) (r - (k + 1)) (k + 1) h2) := by show _ = _; rw [HQ3.out, if_neg (fun a => a.2 hdf)]
                          have HDF := Lib.hid (decide_eq_false (show ¬ (sAt l j).t n ≠ (sAt l i).t k from fun a => a hdf))
                          clear hh hdf HQ3 HHK0
                          refine wp_region_held (S := XR (sAt l i) h2 w g H) (by kernel_rfl) ?_
                          change wpAnyH _ _ _ _ _ _ _ _ (World.drew _)
                          have HS := HX7.out.drew
                          generalize World.drew _ = wd at *
                          refine hk_val (i := 0) (oi := ⟨some 84, .move _, _, _, _, _⟩) (.int .i64 (k : Int)) rfl (by kernel_rfl) (by kernel_rfl) (by kernel_rfl) (fun _ _ _ h => h) (by kernel_rfl) (fun _ _ => rfl) HS ?_
                          simp only [Act.put, List.setIfInBounds_toArray, List.set_cons_zero, List.set_cons_succ]
                          refine hk_val (i := 1) (oi := ⟨some 85, .indexAddr _ _ _, _, _, _, _⟩) (.pointer (some ⟨H, 0 + k * 1, none⟩)) rfl (by kernel_rfl) (by kernel_rfl) (by kernel_rfl) (fun _ _ _ h => h) (by kernel_rfl) (fun _ _ => Hz.ex_indexA (z := 1) rfl rfl rfl rfl HK8.out Tryd.underlying47 (by kernel_rfl) rfl) HS ?_
                          simp only [Act.put, List.setIfInBounds_toArray, List.set_cons_zero, List.set_cons_succ]
                          refine hk_val (i := 2) (oi := ⟨some 86, .load _ _, _, _, _, _⟩) (.bool false) rfl (by kernel_rfl) (by kernel_rfl) (by kernel_rfl) (fun _ _ _ h => h) (by kernel_rfl) (fun y hy => ex_load rfl rfl (HHK.out _ hy) (by kernel_rfl)) HS ?_
                          simp only [Act.put, List.setIfInBounds_toArray, List.set_cons_zero, List.set_cons_succ]
                          refine hk_val (i := 3) (oi := ⟨some 87, .unOp _ _ _, _, _, _, _⟩) (.bool true) rfl (by kernel_rfl) (by kernel_rfl) (by kernel_rfl) (fun _ _ _ h => h) (by kernel_rfl) (fun _ _ => rfl) HS ?_
                          simp only [Act.put, List.setIfInBounds_toArray, List.set_cons_zero, List.set_cons_succ]
                          refine hk_val (i := 4) (oi := ⟨some 88, .move _, _, _, _, _⟩) (.bool true) rfl (by kernel_rfl) (by kernel_rfl) (by kernel_rfl) (fun _ _ _ h => h) (by kernel_rfl) (fun _ _ => rfl) HS ?_
                          simp only [Act.put, List.setIfInBounds_toArray, List.set_cons_zero, List.set_cons_succ]
                          refine hk_val (i := 5) (oi := ⟨some 89, .move _, _, _, _, _⟩) (.slice (some ⟨b, off, none⟩) l.length cap) rfl (by kernel_rfl) (by kernel_rfl) (by kernel_rfl) (fun _ _ _ h => h) (by kernel_rfl) (fun _ _ => rfl) HS ?_
                          simp only [Act.put, List.setIfInBounds_toArray, List.set_cons_zero, List.set_cons_succ]
                          refine hk_val (i := 6) (oi := ⟨some 90, .move _, _, _, _, _⟩) (.int .i64 (j : Int)) rfl (by kernel_rfl) (by kernel_rfl) (by kernel_rfl) (fun _ _ _ h => h) (by kernel_rfl) (fun _ _ => rfl) HS ?_
                          simp only [Act.put, List.setIfInBounds_toArray, List.set_cons_zero, List.set_cons_succ]
                          refine hk_val (i := 7) (oi := ⟨some 91, .move _, _, _, _, _⟩) (.int .i64 (n : Int)) rfl (by kernel_rfl) (by kernel_rfl) (by kernel_rfl) (fun _ _ _ h => h) (by kernel_rfl) (fun _ _ => rfl) HS ?_
                          simp only [Act.put, List.setIfInBounds_toArray, List.set_cons_zero, List.set_cons_succ]
                          refine hk_val (i := 8) (oi := ⟨some 92, .indexAddr _ _ _, _, _, _, _⟩) (.pointer (some ⟨b, off + j * 18, none⟩)) rfl (by kernel_rfl) (by kernel_rfl) (by kernel_rfl) (fun _ _ _ h => h) (by kernel_rfl) (fun _ _ => Hz.ex_indexz rfl rfl rfl rfl HJL.out Tryd.underlying22 (by kernel_rfl)) HS ?_
                          simp only [Act.put, List.setIfInBounds_toArray, List.set_cons_zero, List.set_cons_succ]
                          refine hk_val (i := 9) (oi := ⟨some 93, .fieldAddr _ _ _, _, _, _, _⟩) (.pointer (some ⟨b, off + j * 18 + 10, none⟩)) rfl (by kernel_rfl) (by kernel_rfl) (by kernel_rfl) (fun _ _ _ h => h) (by kernel_rfl) (fun _ _ => Hz.ex_fieldz (z := 10) rfl rfl (fun _ => by kernel_rfl)) HS ?_
                          simp only [Act.put, List.setIfInBounds_toArray, List.set_cons_zero, List.set_cons_succ]
                          refine hk_val (i := 10) (oi := ⟨some 94, .indexAddr _ _ _, _, _, _, _⟩) (.pointer (some ⟨b, off + j * 18 + 10 + n * 1, none⟩)) rfl (by kernel_rfl) (by kernel_rfl) (by kernel_rfl) (fun _ _ _ h => h) (by kernel_rfl) (fun _ _ => Hz.ex_indexA (z := 1) rfl rfl rfl rfl HN8.out Tryd.underlying27 (by kernel_rfl) rfl) HS ?_
                          simp only [Act.put, List.setIfInBounds_toArray, List.set_cons_zero, List.set_cons_succ]
                          refine hk_val (i := 11) (oi := ⟨some 95, .load _ _, _, _, _, _⟩) (.int .i64 ((sAt l j).t n)) rfl (by kernel_rfl) (by kernel_rfl) (by kernel_rfl) (fun _ _ _ h => h) (by kernel_rfl) (fun y hy => ex_load rfl rfl (HTJ.out _ hy) (by kernel_rfl)) HS ?_
                          simp only [Act.put, List.setIfInBounds_toArray, List.set_cons_zero, List.set_cons_succ]
                          refine hk_val (i := 12) (oi := ⟨some 96, .move _, _, _, _, _⟩) (.int .i64 (k : Int)) rfl (by kernel_rfl) (by kernel_rfl) (by kernel_rfl) (fun _ _ _ h => h) (by kernel_rfl) (fun _ _ => rfl) HS ?_
                          simp only [Act.put, List.setIfInBounds_toArray, List.set_cons_zero, List.set_cons_succ]
                          refine hk_val (i := 13) (oi := ⟨some 97, .fieldAddr _ _ _, _, _, _, _⟩) (.pointer (some ⟨g, 10, none⟩)) rfl (by kernel_rfl) (by kernel_rfl) (by kernel_rfl) (fun _ _ _ h => h) (by kernel_rfl) (fun _ _ => by kernel_rfl) HS ?_
                          simp only [Act.put, List.setIfInBounds_toArray, List.set_cons_zero, List.set_cons_succ]
                          refine hk_val (i := 14) (oi := ⟨some 98, .indexAddr _ _ _, _, _, _, _⟩) (.pointer (some ⟨g, 10 + k * 1, none⟩)) rfl (by kernel_rfl) (by kernel_rfl) (by kernel_rfl) (fun _ _ _ h => h) (by kernel_rfl) (fun _ _ => Hz.ex_indexA (z := 1) rfl rfl rfl rfl HK8.out Tryd.underlying27 (by kernel_rfl) rfl) HS ?_
                          simp only [Act.put, List.setIfInBounds_toArray, List.set_cons_zero, List.set_cons_succ]
                          refine hk_val (i := 15) (oi := ⟨some 99, .load _ _, _, _, _, _⟩) (.int .i64 ((sAt l i).t k)) rfl (by kernel_rfl) (by kernel_rfl) (by kernel_rfl) (fun _ _ _ h => h) (by kernel_rfl) (fun y hy => ex_load rfl rfl (HTI.out _ hy) (by kernel_rfl)) HS ?_
                          simp only [Act.put, List.setIfInBounds_toArray, List.set_cons_zero, List.set_cons_succ]
                          refine hk_val (i := 16) (oi := ⟨some 100, .binOp _ _ _ _ _, _, _, _, _⟩) (.bool false) rfl (by kernel_rfl) (by kernel_rfl) (by kernel_rfl) (fun _ _ _ h => h) (by kernel_rfl) (fun _ _ => Hz.ex_neK rfl rfl rfl (HDF.out)) HS ?_
                          simp only [Act.put, List.setIfInBounds_toArray, List.set_cons_zero, List.set_cons_succ]
                          refine hk_val (i := 17) (oi := ⟨some 101, .pick _ _ _, _, _, _, _⟩) (.bool false) rfl (by kernel_rfl) (by kernel_rfl) (by kernel_rfl) (fun _ _ _ h => h) (by kernel_rfl) (fun _ _ => rfl) HS ?_
                          simp only [Act.put, List.setIfInBounds_toArray, List.set_cons_zero, List.set_cons_succ]
                          refine hk_val (i := 18) (oi := ⟨some 83, .assign _, _, _, _, _⟩) (.bool false) rfl (by kernel_rfl) (by kernel_rfl) (by kernel_rfl) (fun _ _ _ h => h) (by kernel_rfl) (fun _ _ => rfl) HS ?_
                          simp only [Act.put, List.setIfInBounds_toArray, List.set_cons_zero, List.set_cons_succ]
                          refine wpAnyH_done (by kernel_rfl) ?_ _
                          go_wp2
                          go_roundg (r - (k + 1))
                          case measure => omega
                          case rel => exact ⟨k + 1, h2, by first | rfl | go_num, by omega, rfl, HS, HN2.out⟩
                        · have HN2 : Hid (R = (j : Int)) := HFND.out h2 (by rw [HQ3.out, if_pos ⟨hh, hdf⟩])
                          have HDF := Lib.hid (decide_eq_true (show (sAt l j).t n ≠ (sAt l i).t k from hdf))
                          clear hh hdf HQ3 HHK0
                          refine wp_region_held (S := XR (sAt l i) h2 w g H) (by kernel_rfl) ?_
                          change wpAnyH _ _ _ _ _ _ _ _ (World.drew _)
                          have HS := HX7.out.drew
                          generalize World.drew _ = wd at *
                          refine hk_val (i := 0) (oi := ⟨some 84, .move _, _, _, _, _⟩) (.int .i64 (k : Int)) rfl (by kernel_rfl) (by kernel_rfl) (by kernel_rfl) (fun _ _ _ h => h) (by kernel_rfl) (fun _ _ => rfl) HS ?_
                          simp only [Act.put, List.setIfInBounds_toArray, List.set_cons_zero, List.set_cons_succ]
                          refine hk_val (i := 1) (oi := ⟨some 85, .indexAddr _ _ _, _, _, _, _⟩) (.pointer (some ⟨H, 0 + k * 1, none⟩)) rfl (by kernel_rfl) (by kernel_rfl) (by kernel_rfl) (fun _ _ _ h => h) (by kernel_rfl) (fun _ _ => Hz.ex_indexA (z := 1) rfl rfl rfl rfl HK8.out Tryd.underlying47 (by kernel_rfl) rfl) HS ?_
                          simp only [Act.put, List.setIfInBounds_toArray, List.set_cons_zero, List.set_cons_succ]
                          refine hk_val (i := 2) (oi := ⟨some 86, .load _ _, _, _, _, _⟩) (.bool false) rfl (by kernel_rfl) (by kernel_rfl) (by kernel_rfl) (fun _ _ _ h => h) (by kernel_rfl) (fun y hy => ex_load rfl rfl (HHK.out _ hy) (by kernel_rfl)) HS ?_
                          simp only [Act.put, List.setIfInBounds_toArray, List.set_cons_zero, List.set_cons_succ]
                          refine hk_val (i := 3) (oi := ⟨some 87, .unOp _ _ _, _, _, _, _⟩) (.bool true) rfl (by kernel_rfl) (by kernel_rfl) (by kernel_rfl) (fun _ _ _ h => h) (by kernel_rfl) (fun _ _ => rfl) HS ?_
                          simp only [Act.put, List.setIfInBounds_toArray, List.set_cons_zero, List.set_cons_succ]
                          refine hk_val (i := 4) (oi := ⟨some 88, .move _, _, _, _, _⟩) (.bool true) rfl (by kernel_rfl) (by kernel_rfl) (by kernel_rfl) (fun _ _ _ h => h) (by kernel_rfl) (fun _ _ => rfl) HS ?_
                          simp only [Act.put, List.setIfInBounds_toArray, List.set_cons_zero, List.set_cons_succ]
                          refine hk_val (i := 5) (oi := ⟨some 89, .move _, _, _, _, _⟩) (.slice (some ⟨b, off, none⟩) l.length cap) rfl (by kernel_rfl) (by kernel_rfl) (by kernel_rfl) (fun _ _ _ h => h) (by kernel_rfl) (fun _ _ => rfl) HS ?_
                          simp only [Act.put, List.setIfInBounds_toArray, List.set_cons_zero, List.set_cons_succ]
                          refine hk_val (i := 6) (oi := ⟨some 90, .move _, _, _, _, _⟩) (.int .i64 (j : Int)) rfl (by kernel_rfl) (by kernel_rfl) (by kernel_rfl) (fun _ _ _ h => h) (by kernel_rfl) (fun _ _ => rfl) HS ?_
                          simp only [Act.put, List.setIfInBounds_toArray, List.set_cons_zero, List.set_cons_succ]
                          refine hk_val (i := 7) (oi := ⟨some 91, .move _, _, _, _, _⟩) (.int .i64 (n : Int)) rfl (by kernel_rfl) (by kernel_rfl) (by kernel_rfl) (fun _ _ _ h => h) (by kernel_rfl) (fun _ _ => rfl) HS ?_
                          simp only [Act.put, List.setIfInBounds_toArray, List.set_cons_zero, List.set_cons_succ]
                          refine hk_val (i := 8) (oi := ⟨some 92, .indexAddr _ _ _, _, _, _, _⟩) (.pointer (some ⟨b, off + j * 18, none⟩)) rfl (by kernel_rfl) (by kernel_rfl) (by kernel_rfl) (fun _ _ _ h => h) (by kernel_rfl) (fun _ _ => Hz.ex_indexz rfl rfl rfl rfl HJL.out Tryd.underlying22 (by kernel_rfl)) HS ?_
                          simp only [Act.put, List.setIfInBounds_toArray, List.set_cons_zero, List.set_cons_succ]
                          refine hk_val (i := 9) (oi := ⟨some 93, .fieldAddr _ _ _, _, _, _, _⟩) (.pointer (some ⟨b, off + j * 18 + 10, none⟩)) rfl (by kernel_rfl) (by kernel_rfl) (by kernel_rfl) (fun _ _ _ h => h) (by kernel_rfl) (fun _ _ => Hz.ex_fieldz (z := 10) rfl rfl (fun _ => by kernel_rfl)) HS ?_
                          simp only [Act.put, List.setIfInBounds_toArray, List.set_cons_zero, List.set_cons_succ]
                          refine hk_val (i := 10) (oi := ⟨some 94, .indexAddr _ _ _, _, _, _, _⟩) (.pointer (some ⟨b, off + j * 18 + 10 + n * 1, none⟩)) rfl (by kernel_rfl) (by kernel_rfl) (by kernel_rfl) (fun _ _ _ h => h) (by kernel_rfl) (fun _ _ => Hz.ex_indexA (z := 1) rfl rfl rfl rfl HN8.out Tryd.underlying27 (by kernel_rfl) rfl) HS ?_
                          simp only [Act.put, List.setIfInBounds_toArray, List.set_cons_zero, List.set_cons_succ]
                          refine hk_val (i := 11) (oi := ⟨some 95, .load _ _, _, _, _, _⟩) (.int .i64 ((sAt l j).t n)) rfl (by kernel_rfl) (by kernel_rfl) (by kernel_rfl) (fun _ _ _ h => h) (by kernel_rfl) (fun y hy => ex_load rfl rfl (HTJ.out _ hy) (by kernel_rfl)) HS ?_
                          simp only [Act.put, List.setIfInBounds_toArray, List.set_cons_zero, List.set_cons_succ]
                          refine hk_val (i := 12) (oi := ⟨some 96, .move _, _, _, _, _⟩) (.int .i64 (k : Int)) rfl (by kernel_rfl) (by kernel_rfl) (by kernel_rfl) (fun _ _ _ h => h) (by kernel_rfl) (fun _ _ => rfl) HS ?_
                          simp only [Act.put, List.setIfInBounds_toArray, List.set_cons_zero, List.set_cons_succ]
                          refine hk_val (i := 13) (oi := ⟨some 97, .fieldAddr _ _ _, _, _, _, _⟩) (.pointer (some ⟨g, 10, none⟩)) rfl (by kernel_rfl) (by kernel_rfl) (by kernel_rfl) (fun _ _ _ h => h) (by kernel_rfl) (fun _ _ => by kernel_rfl) HS ?_
                          simp only [Act.put, List.setIfInBounds_toArray, List.set_cons_zero, List.set_cons_succ]
                          refine hk_val (i := 14) (oi := ⟨some 98, .indexAddr _ _ _, _, _, _, _⟩) (.pointer (some ⟨g, 10 + k * 1, none⟩)) rfl (by kernel_rfl) (by kernel_rfl) (by kernel_rfl) (fun _ _ _ h => h) (by kernel_rfl) (fun _ _ => Hz.ex_indexA (z := 1) rfl rfl rfl rfl HK8.out Tryd.underlying27 (by kernel_rfl) rfl) HS ?_
                          simp only [Act.put, List.setIfInBounds_toArray, List.set_cons_zero, List.set_cons_succ]
                          refine hk_val (i := 15) (oi := ⟨some 99, .load _ _, _, _, _, _⟩) (.int .i64 ((sAt l i).t k)) rfl (by kernel_rfl) (by kernel_rfl) (by kernel_rfl) (fun _ _ _ h => h) (by kernel_rfl) (fun y hy => ex_load rfl rfl (HTI.out _ hy) (by kernel_rfl)) HS ?_
                          simp only [Act.put, List.setIfInBounds_toArray, List.set_cons_zero, List.set_cons_succ]
                          refine hk_val (i := 16) (oi := ⟨some 100, .binOp _ _ _ _ _, _, _, _, _⟩) (.bool true) rfl (by kernel_rfl) (by kernel_rfl) (by kernel_rfl) (fun _ _ _ h => h) (by kernel_rfl) (fun _ _ => Hz.ex_neK rfl rfl rfl (HDF.out)) HS ?_
                          simp only [Act.put, List.setIfInBounds_toArray, List.set_cons_zero, List.set_cons_succ]
                          refine hk_val (i := 17) (oi := ⟨some 101, .pick _ _ _, _, _, _, _⟩) (.bool true) rfl (by kernel_rfl) (by kernel_rfl) (by kernel_rfl) (fun _ _ _ h => h) (by kernel_rfl) (fun _ _ => rfl) HS ?_
                          simp only [Act.put, List.setIfInBounds_toArray, List.set_cons_zero, List.set_cons_succ]
                          refine hk_val (i := 18) (oi := ⟨some 83, .assign _, _, _, _, _⟩) (.bool true) rfl (by kernel_rfl) (by kernel_rfl) (by kernel_rfl) (fun _ _ _ h => h) (by kernel_rfl) (fun _ _ => rfl) HS ?_
                          simp only [Act.put, List.setIfInBounds_toArray, List.set_cons_zero, List.set_cons_succ]
                          refine wpAnyH_done (by kernel_rfl) ?_ _
                          go_wp2
                          try rw [Exit.noGoto_ret]
                          go_ret
                          exact ⟨by rw [HR.out, HN2.out]; rfl, HS.low⟩
            · obtain rfl : k = r := by omega
              have HN2 : Hid (R = reoG l (sAt l i) (l.length - (j + 1)) (j + 1) h2) := HOUT.out h2 (by rw [HH2.out.2, show gk = 0 by omega]; rfl)
              have HX9 := Lib.hid HH2.out.1
              go_wp2
              go_roundg (l.length - (j + 1))
              case measure => omega
              case rel => exact ⟨j + 1, h2, by first | rfl | go_num, by omega, by omega, rfl, HX9.out, HN2.out⟩
        · obtain rfl : j = l.length := by omega
          have HN2 : Hid (R = -1) := by show _ = _; rw [HH.out.2, show gK = 0 by omega]; rfl
          go_wp2
          try rw [Exit.noGoto_ret]
          go_ret
          exact ⟨by rw [HR.out, HN2.out]; rfl, HH.out.1.low⟩
theorem reorder_c {l : List Slt} {A : Option Addr} {w : World} (h : FL l A w) (cap : Nat) (i : Int) :
    Calls Tryd.prog 9 #[.slice A l.length cap, .int .i64 i] w fun r w' => r = .returned (.int .i64 (reoS l i)) ∧ BW w w' := by
  by_cases hp : 0 ≤ i ∧ i < l.length
  · obtain ⟨j, rfl⟩ : ∃ j : Nat, i = (j : Int) := ⟨i.toNat, by omega⟩
    exact reorder_at h cap j (by omega)
  · exact reorder_no h cap i hp
end Go.Proofs.YtoaonoflekcccaaDoor
