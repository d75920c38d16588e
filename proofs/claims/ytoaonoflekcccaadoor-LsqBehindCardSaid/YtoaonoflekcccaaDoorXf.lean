/- Package lsq: Passed, fenced. -/
import Derived.Test.YtoaonoflekcccaaDoorXe
set_option maxRecDepth 100000
set_option linter.unusedVariables false
namespace Go.Proofs.YtoaonoflekcccaaDoor
open Go.RowKit

/-- Behind w: what is pending lies in block g. -/
structure XP (p : Bool × Bool) (w : World) (g : Nat) (y : World) : Prop where
  low : BW w y
  pnd : Blk (pndC p) 40 g y
theorem XP.on {p : Bool × Bool} {w y z : World} {g : Nat} (h : XP p w g y) (k : Below y.heap.size y z) : XP p w g z := ⟨BW.on h.low k, h.pnd.on k⟩
theorem XP.drew {p : Bool × Bool} {w y : World} {g : Nat} (h : XP p w g y) : XP p w g y.drew := h.on (Below.drew (Below.refl _ _))
theorem XP.put {p q : Bool × Bool} {w y z : World} {g : Nat} (h : XP p w g y) (hg : w.heap.size ≤ g) (k : Fr [g] y z) (hb : Blk (pndC q) 40 g z) : XP q w g z :=
  ⟨Below.trans h.low (k.below (by intro i hi; rw [List.mem_singleton.1 hi]; exact hg) (Below.size h.low)), hb⟩
theorem XP.new (e : Bool) (w : World) : XP (false, !e) w w.heap.size (w.alloc (.cells (pndC (false, !e)) 40)) := ⟨BW.new (Below.refl _ _) _, Blk.new _ _ _⟩
theorem pnd_next (e : Bool) {l : List Slt} {j : Nat} (hj : j < l.length) : pndP e (l.take (j + 1)) = addP (pndP e (l.take j)) (sAt l j) := by
  unfold pndP
  rw [List.take_succ_eq_append_getElem hj, List.foldl_append, sAt_eq hj]
  rfl
set_option maxHeartbeats 4000000 in
theorem passed_c {l : List Slt} {A : Option Addr} {w : World} (h : FL l A w) (cap : Nat) (hc : l.length ≤ cap) (i : Int) (e : Bool) :
    Calls Tryd.prog 6 #[.slice A l.length cap, .int .i64 i, .bool e] w fun r w' => r = .returned (.bool (passS l i e)) ∧ BW w w' := by
  have HPL := Lib.hid (isPlace_c A l.length cap i w)
  by_cases hp : 0 ≤ i ∧ i < l.length
  case neg =>
    have e0 : passS l i e = false := by unfold passS; rw [decide_eq_false (fun a => hp ⟨a.1, a.2.1⟩)]; rfl
    rw [e0]
    rw [decide_eq_false hp] at HPL
    clear hp e0 h hc
    generalize l.length = L at *
    go_enter Tryd.func6, Tryd.ntmps6
    go_wp2_with (first
      | (go_at_call 10; refine HPL.out.mono ?_; rintro e w2 ⟨rfl, rfl⟩))
    go_ret
    exact ⟨rfl, Below.refl _ _⟩
  case pos =>
    rw [decide_eq_true hp] at HPL
    obtain ⟨k, rfl⟩ : ∃ k : Nat, i = (k : Int) := ⟨i.toNat, by omega⟩
    have hk : k < l.length := by omega
    obtain ⟨b, off, rfl, hb, hcs⟩ := h.cells hk
    have HCS := Lib.hid hcs
    have hx := h.at hk
    have HSO := Lib.hid (sort_c (sAt l k).op hx.op w h.tab)
    have HAD := Lib.hid (fun j (hj : j < l.length) (p : Bool × Bool) g y (h1 : BW w y) (h2 : Blk (pndC p) 40 g y) => add_c p g (sAt l j) (h.at hj) y (h.tab.below h1) h2)
    have HJ := Lib.hid (fun j (hj : j < l.length) => h.cells hj)
    have HKL := Lib.hid hk
    have c0 : w.cell? ⟨b, off + k * 18, none⟩ = some (.int .i64 (sAt l k).op) := hcs w (Below.refl _ _) 0 _ rfl
    have HPN := Lib.hid (fun j (hj : j < l.length) => pnd_next e hj)
    have hlen := h.len
    by_cases hs : srt (sAt l k).op = 8
    case neg =>
      have e0 : passS l k e = false := by unfold passS; rw [decide_eq_false (fun a => hs a.2.2)]; rfl
      rw [e0]
      have es : (srt (sAt l k).op != 8) = true := by simpa using hs
      clear e0 hs HAD HJ HCS HPN hx hcs h
      generalize sAt l k = x at *
      generalize srt x.op = so at *
      generalize l.length = L at *
      go_enter Tryd.func6, Tryd.ntmps6
      go_wp2_with (first
        | (go_at_call 10; refine HPL.out.mono ?_; rintro e w2 ⟨rfl, rfl⟩)
        | (go_at_call 19; refine HSO.out.mono ?_; rintro e w2 ⟨rfl, rfl⟩))
      go_ret
      exact ⟨rfl, Below.refl _ _⟩
    case pos =>
      have e0 : passS l k e = !stopP (pndP e (l.take k)) (sAt l k) := by unfold passS; rw [decide_eq_true ⟨hp.1, hp.2, hs⟩]; rfl
      rw [e0]
      rw [hs] at HSO
      have HX1 := Lib.hid (XP.new e w)
      have HST := Lib.hid (fun y => stops_c (pndP e (l.take k)) (sAt l k) y)
      unfold sltV at HAD HST
      clear e0 hs hx hcs h
      go_enter Tryd.func6, Tryd.ntmps6
      obtain ⟨g, hg⟩ : ∃ g, w.heap.size = g := ⟨_, rfl⟩
      have HGE := Lib.hid (Nat.le_of_eq hg)
      have HX2 : Hid (XP (false, !e) w g (w.alloc (.cells (pndC (false, !e)) 40))) := by rw [← hg]; exact HX1.out
      unfold pndC at HX2
      clear HX1
      go_wp2_with (first
        | (go_at_call 10; refine HPL.out.mono ?_; rintro e w2 ⟨rfl, rfl⟩)
        | (go_at_call 19; refine HSO.out.mono ?_; rintro e w2 ⟨rfl, rfl⟩))
      go_loopw [9, 30] (fun _ i wx => ∃ j : Nat, j ≤ k ∧ i = .int .i64 (j : Int) ∧ Hid (XP (pndP e (l.take j)) w g wx)) (fun _ i _ => k - (intOf i).toNat)
      case atStart => exact ⟨0, by omega, rfl, HX2.out⟩
      case round =>
        obtain ⟨j, hj, rfl, HH⟩ := hrel
        by_cases hlt : j < k
        · have hltI : (j : Int) < (k : Int) := by omega
          have hjl : j < l.length := by omega
          obtain ⟨b2, off2, e2, _, hcj⟩ := HJ.out j hjl
          obtain ⟨rfl, rfl⟩ : b = b2 ∧ off = off2 := by simpa using e2
          have HCJ := Lib.hid (hcj _ HH.out.low)
          have HN := Lib.hid (HPN.out j hjl)
          have HAJ := Lib.hid (HAD.out j hjl (pndP e (l.take j)) g)
          clear hcj
          generalize sAt l j = z at *
          have HK1 := Lib.hid (Blk.new (sltC z) 29 wr)
          have HX1 := Lib.hid (HH.out.on (BW.new (Below.refl _ wr) (.cells (sltC z) 29)))
          go_wp2_with (first
            | (with_reducible refine Hz.val_arm (o := ⟨some 33, .load _ _, _, _, _, _⟩) (by kernel_rfl) (ex_slt z rfl rfl HCJ.out Tryd.underlying29 rfl (by kernel_rfl)) ?_)
            | (with_reducible refine Hz.store_arm (o := ⟨none, .store _ _ _, _, _, _, _⟩) rfl 29 (.tmp 9) (.tmp 33) rfl rfl rfl (slt_store z wr _ rfl) ?_)
            | (with_reducible refine load_blk (o := ⟨some 34, .load _ (.tmp 9), _, _, _, _⟩) rfl 29 (.tmp 9) rfl HK1.out rfl Tryd.underlying29 rfl (by kernel_rfl) ?_)
            | (go_at_call 20; refine (HAJ.out _ HX1.out.low HX1.out.pnd).mono ?_; rintro e w3 ⟨rfl, hb3, hf3⟩; have HX3 := Lib.hid (HX1.out.put HGE.out hf3 hb3); clear hb3 hf3))
          go_roundw
          case rel => exact ⟨j + 1, by omega, by first | rfl | go_num, by rw [HN.out]; exact HX3⟩
          case measure => simp [intOf]; omega
        · obtain rfl : j = k := by omega
          go_upto_region 9 with (fail)
          refine wp_region_held (S := XP (pndP e (l.take j)) w g) (by kernel_rfl) ?_
          change wpAnyH _ _ _ _ _ _ _ _ (World.drew _)
          have HS := HH.out.drew
          generalize World.drew _ = w1 at *
          refine hk_load (i := 0) (oi := ⟨some 37, .load _ _, _, _, _, _⟩) rfl (by kernel_rfl) (by kernel_rfl) (by kernel_rfl) (fun _ _ _ h => h) (by kernel_rfl) _ _ rfl rfl (fun y hy => hy.pnd) Tryd.underlying40 rfl (by kernel_rfl) HS ?_
          simp only [Act.put, List.setIfInBounds_toArray, List.set_cons_zero, List.set_cons_succ]
          refine hk_val (i := 1) (oi := ⟨some 38, .move _, _, _, _, _⟩) (.slice (some ⟨b, off, none⟩) l.length cap) rfl (by kernel_rfl) (by kernel_rfl) (by kernel_rfl) (fun _ _ _ h => h) (by kernel_rfl) (fun _ _ => rfl) HS ?_
          simp only [Act.put, List.setIfInBounds_toArray, List.set_cons_zero, List.set_cons_succ]
          refine hk_val (i := 2) (oi := ⟨some 39, .move _, _, _, _, _⟩) (.int .i64 (j : Int)) rfl (by kernel_rfl) (by kernel_rfl) (by kernel_rfl) (fun _ _ _ h => h) (by kernel_rfl) (fun _ _ => rfl) HS ?_
          simp only [Act.put, List.setIfInBounds_toArray, List.set_cons_zero, List.set_cons_succ]
          refine hk_val (i := 3) (oi := ⟨some 40, .indexAddr _ _ _, _, _, _, _⟩) (.pointer (some ⟨b, off + j * 18, none⟩)) rfl (by kernel_rfl) (by kernel_rfl) (by kernel_rfl) (fun _ _ _ h => h) (by kernel_rfl) (fun _ _ => Hz.ex_indexz rfl rfl rfl rfl HKL.out Tryd.underlying22 (by kernel_rfl)) HS ?_
          simp only [Act.put, List.setIfInBounds_toArray, List.set_cons_zero, List.set_cons_succ]
          refine hk_val (i := 4) (oi := ⟨some 41, .load _ _, _, _, _, _⟩) (.agg (sltC (sAt l j))) rfl (by kernel_rfl) (by kernel_rfl) (by kernel_rfl) (fun _ _ _ h => h) (by kernel_rfl) (fun y hy => ex_slt (sAt l j) rfl rfl (HCS.out _ hy.low) Tryd.underlying29 rfl (by kernel_rfl)) HS ?_
          simp only [Act.put, List.setIfInBounds_toArray, List.set_cons_zero, List.set_cons_succ]
          refine hk_call (i := 5) (oi := ⟨some 42, .call _, _, _, _, _⟩) (by kernel_rfl) rfl (by kernel_rfl) (by first | rfl | kernel_rfl) (HST.out _) ?_
          rintro e w9 ⟨rfl, hb⟩
          have HS9 := HS.on hb
          refine ⟨_, rfl, HS9, ?_⟩
          simp only [Act.put, List.setIfInBounds_toArray, List.set_cons_zero, List.set_cons_succ]
          refine hk_val (i := 6) (oi := ⟨some 43, .unOp _ _ _, _, _, _, _⟩) (.bool (!stopP (pndP e (l.take j)) (sAt l j))) rfl (by kernel_rfl) (by kernel_rfl) (by kernel_rfl) (fun _ _ _ h => h) (by kernel_rfl) (fun _ _ => by kernel_rfl) HS9 ?_
          simp only [Act.put, List.setIfInBounds_toArray, List.set_cons_zero, List.set_cons_succ]
          refine hk_val (i := 7) (oi := ⟨some 6, .assign _, _, _, _, _⟩) (.bool (!stopP (pndP e (l.take j)) (sAt l j))) rfl (by kernel_rfl) (by kernel_rfl) (by kernel_rfl) (fun _ _ _ h => h) (by kernel_rfl) (fun _ _ => rfl) HS9 ?_
          simp only [Act.put, List.setIfInBounds_toArray, List.set_cons_zero, List.set_cons_succ]
          refine wpAnyH_done (by kernel_rfl) ?_ _
          go_wp2
          go_ret
          exact ⟨rfl, HS9.low⟩
theorem fen_next (p : Bool × Bool) {l : List Slt} {j : Nat} (hj : j < l.length) : fenG p (l.drop j) = (keepS (sAt l j) && stopP p (sAt l j) || fenG (addP p (sAt l j)) (l.drop (j + 1))) := by
  rw [List.drop_eq_getElem_cons hj, sAt_eq hj]
  rfl
set_option maxHeartbeats 4000000 in
theorem fenced_c {l : List Slt} {A : Option Addr} {w : World} (h : FL l A w) (cap : Nat) (e : Bool) :
    Calls Tryd.prog 15 #[.slice A l.length cap, .bool e] w fun r w' => r = .returned (.bool (fenG (false, !e) l)) ∧ BW w w' := by
  have HAD := Lib.hid (fun j (hj : j < l.length) (p : Bool × Bool) g y (h1 : BW w y) (h2 : Blk (pndC p) 40 g y) => add_c p g (sAt l j) (h.at hj) y (h.tab.below h1) h2)
  have HJ := Lib.hid (fun j (hj : j < l.length) => h.cells hj)
  have HPN := Lib.hid (fun j (hj : j < l.length) => pnd_next e hj)
  have HFE := Lib.hid (fun p j (hj : j < l.length) => fen_next p hj)
  have hlen := h.len
  have HX1 := Lib.hid (XP.new e w)
  have HEND : Hid (∀ p, fenG p (l.drop l.length) = false) := fun p => by rw [List.drop_length]; rfl
  have HKS := Lib.hid (fun x y => keeps_c x y)
  have HSS := Lib.hid (fun p x y => stops_c p x y)
  unfold sltV at HAD HKS HSS
  obtain ⟨L, HL⟩ : ∃ L, l.length = L := ⟨_, rfl⟩
  rw [HL] at HAD HJ HPN HFE HEND hlen ⊢
  obtain ⟨g, hg⟩ : ∃ g, w.heap.size = g := ⟨_, rfl⟩
  have HGE := Lib.hid (Nat.le_of_eq hg)
  have HX2 : Hid (XP (false, !e) w g (w.alloc (.cells (pndC (false, !e)) 40))) := by rw [← hg]; exact HX1.out
  unfold pndC at HX2
  obtain ⟨R, HR⟩ : ∃ R, fenG (false, !e) l = R := ⟨_, rfl⟩
  have HRR := Lib.hid HR
  rw [HR]
  clear HX1 h HL HR
  go_enter Tryd.func15, Tryd.ntmps15
  go_wp2
  go_loopw [7, 13] (fun _ i wx => ∃ j : Nat, j ≤ L ∧ i = .int .i64 (j : Int) ∧ Hid (XP (pndP e (l.take j)) w g wx ∧ R = fenG (pndP e (l.take j)) (l.drop j))) (fun _ i _ => L - (intOf i).toNat)
  case atStart => exact ⟨0, by omega, rfl, HX2.out, HRR.out.symm⟩
  case round =>
    obtain ⟨j, hj, rfl, HH⟩ := hrel
    by_cases hlt : j < L
    · have hltI : (j : Int) < (L : Int) := by omega
      obtain ⟨b, off, rfl, _, hcj⟩ := HJ.out j hlt
      have HCJ := Lib.hid (hcj _ HH.out.1.low)
      have HN := Lib.hid (HPN.out j hlt)
      have HF := Lib.hid (HH.out.2.trans (HFE.out _ j hlt))
      have HAJ := Lib.hid (HAD.out j hlt (pndP e (l.take j)) g)
      have HKE := Lib.hid (HKS.out (sAt l j))
      have HST := Lib.hid (HSS.out (pndP e (l.take j)) (sAt l j))
      have HXH := Lib.hid HH.out.1
      clear hcj HH
      generalize pndP e (l.take j) = p at *
      generalize sAt l j = x at *
      have HK1 := Lib.hid (Blk.new (sltC x) 29 wr)
      have HX1 := Lib.hid (HXH.out.on (BW.new (Below.refl _ wr) (.cells (sltC x) 29)))
      cases hk : keepS x with
      | false =>
        have HFN : Hid (R = fenG (addP p x) (l.drop (j + 1))) := by show _ = _; rw [HF.out, hk]; rfl
        rw [hk] at HKE
        clear hk HF HST
        go_wp2_with (first
          | (with_reducible refine Hz.val_arm (o := ⟨some 16, .load _ _, _, _, _, _⟩) (by kernel_rfl) (ex_slt x rfl rfl HCJ.out Tryd.underlying29 rfl (by kernel_rfl)) ?_)
          | (with_reducible refine Hz.store_arm (o := ⟨none, .store _ _ _, _, _, _, _⟩) rfl 29 (.tmp 7) (.tmp 16) rfl rfl rfl (slt_store x wr _ rfl) ?_)
          | (with_reducible refine load_blk (o := ⟨some 17, .load _ (.tmp 7), _, _, _, _⟩) rfl 29 (.tmp 7) rfl HK1.out rfl Tryd.underlying29 rfl (by kernel_rfl) ?_)
          | (go_at_call 27; refine (HKE.out _).mono ?_; rintro e2 w2 ⟨rfl, hb2⟩; have HX2 := Lib.hid (HX1.out.on hb2); have HK2 := Lib.hid (HK1.out.on hb2); clear hb2)
          | (with_reducible refine load_blk (o := ⟨some 24, .load _ (.tmp 7), _, _, _, _⟩) rfl 29 (.tmp 7) rfl HK2.out rfl Tryd.underlying29 rfl (by kernel_rfl) ?_)
          | (go_at_call 20; refine (HAJ.out _ HX2.out.low HX2.out.pnd).mono ?_; rintro e4 w4 ⟨rfl, hb4, hf4⟩; have HX4 := Lib.hid (HX2.out.put HGE.out hf4 hb4); clear hb4 hf4))
        go_roundw
        case rel => exact ⟨j + 1, by omega, by first | rfl | go_num, ⟨by rw [HN.out]; exact HX4.out, by rw [HN.out]; exact HFN.out⟩⟩
        case measure => simp [intOf]; omega
      | true =>
        rw [hk] at HKE
        cases hs : stopP p x with
        | true =>
          have HFN : Hid (R = true) := by show _ = _; rw [HF.out, hk, hs]; rfl
          rw [hs] at HST
          clear hk HF hs HAJ
          go_wp2_with (first
            | (with_reducible refine Hz.val_arm (o := ⟨some 16, .load _ _, _, _, _, _⟩) (by kernel_rfl) (ex_slt x rfl rfl HCJ.out Tryd.underlying29 rfl (by kernel_rfl)) ?_)
            | (with_reducible refine Hz.store_arm (o := ⟨none, .store _ _ _, _, _, _, _⟩) rfl 29 (.tmp 7) (.tmp 16) rfl rfl rfl (slt_store x wr _ rfl) ?_)
            | (with_reducible refine load_blk (o := ⟨some 17, .load _ (.tmp 7), _, _, _, _⟩) rfl 29 (.tmp 7) rfl HK1.out rfl Tryd.underlying29 rfl (by kernel_rfl) ?_)
            | (go_at_call 27; refine (HKE.out _).mono ?_; rintro e2 w2 ⟨rfl, hb2⟩; have HX2 := Lib.hid (HX1.out.on hb2); have HK2 := Lib.hid (HK1.out.on hb2); clear hb2)
            | (with_reducible refine Hz.val_arm (o := ⟨some 20, .load _ _, _, _, _, _⟩) (by kernel_rfl) (Hz.ex_load_all 40 (.tmp 5) rfl rfl HX2.out.pnd Tryd.underlying40 rfl (by kernel_rfl)) ?_)
            | (with_reducible refine Hz.val_arm (o := ⟨some 21, .load _ _, _, _, _, _⟩) (by kernel_rfl) (Hz.ex_load_all 29 (.tmp 7) rfl rfl HK2.out Tryd.underlying29 rfl (by kernel_rfl)) ?_)
            | (go_at_call 21; refine (HST.out _).mono ?_; rintro e3 w3 ⟨rfl, hb3⟩; have HX3 := Lib.hid (HX2.out.on hb3); have HK3 := Lib.hid (HK2.out.on hb3); clear hb3))
          go_ret
          exact ⟨by rw [HFN.out]; rfl, HX3.out.low⟩
        | false =>
          have HFN : Hid (R = fenG (addP p x) (l.drop (j + 1))) := by show _ = _; rw [HF.out, hk, hs]; rfl
          rw [hs] at HST
          clear hk HF hs
          go_wp2_with (first
            | (with_reducible refine Hz.val_arm (o := ⟨some 16, .load _ _, _, _, _, _⟩) (by kernel_rfl) (ex_slt x rfl rfl HCJ.out Tryd.underlying29 rfl (by kernel_rfl)) ?_)
            | (with_reducible refine Hz.store_arm (o := ⟨none, .store _ _ _, _, _, _, _⟩) rfl 29 (.tmp 7) (.tmp 16) rfl rfl rfl (slt_store x wr _ rfl) ?_)
            | (with_reducible refine load_blk (o := ⟨some 17, .load _ (.tmp 7), _, _, _, _⟩) rfl 29 (.tmp 7) rfl HK1.out rfl Tryd.underlying29 rfl (by kernel_rfl) ?_)
            | (go_at_call 27; refine (HKE.out _).mono ?_; rintro e2 w2 ⟨rfl, hb2⟩; have HX2 := Lib.hid (HX1.out.on hb2); have HK2 := Lib.hid (HK1.out.on hb2); clear hb2)
            | (with_reducible refine Hz.val_arm (o := ⟨some 20, .load _ _, _, _, _, _⟩) (by kernel_rfl) (Hz.ex_load_all 40 (.tmp 5) rfl rfl HX2.out.pnd Tryd.underlying40 rfl (by kernel_rfl)) ?_)
            | (with_reducible refine Hz.val_arm (o := ⟨some 21, .load _ _, _, _, _, _⟩) (by kernel_rfl) (Hz.ex_load_all 29 (.tmp 7) rfl rfl HK2.out Tryd.underlying29 rfl (by kernel_rfl)) ?_)
            | (go_at_call 21; refine (HST.out _).mono ?_; rintro e3 w3 ⟨rfl, hb3⟩; have HX3 := Lib.hid (HX2.out.on hb3); have HK3 := Lib.hid (HK2.out.on hb3); clear hb3)
            | (with_reducible refine load_blk (o := ⟨some 24, .load _ (.tmp 7), _, _, _, _⟩) rfl 29 (.tmp 7) rfl HK3.out rfl Tryd.underlying29 rfl (by kernel_rfl) ?_)
            | (go_at_call 20; refine (HAJ.out _ HX3.out.low HX3.out.pnd).mono ?_; rintro e4 w4 ⟨rfl, hb4, hf4⟩; have HX4 := Lib.hid (HX3.out.put HGE.out hf4 hb4); clear hb4 hf4))
          go_roundw
          case rel => exact ⟨j + 1, by omega, by first | rfl | go_num, ⟨by rw [HN.out]; exact HX4.out, by rw [HN.out]; exact HFN.out⟩⟩
          case measure => simp [intOf]; omega
    · obtain rfl : j = L := by omega
      have HR9 : Hid (R = false) := HH.out.2.trans (HEND.out _)
      go_wp2
      go_ret
      exact ⟨by rw [HR9.out]; rfl, HH.out.1.low⟩
end Go.Proofs.YtoaonoflekcccaaDoor
