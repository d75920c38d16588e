/- Package lsq: what is pending, whether it stops a fence. -/
import Derived.Test.YtoaonoflekcccaaDoorXb
set_option maxRecDepth 100000
set_option linter.unusedVariables false
namespace Go.Proofs.YtoaonoflekcccaaDoor
open Go.RowKit

def pndC (p : Bool × Bool) : Array Value := #[.bool p.1, .bool p.2]
set_option maxHeartbeats 1000000 in
theorem stops_c (p : Bool × Bool) (x : Slt) (w : World) : Calls Tryd.prog 21 #[.agg (pndC p), sltV x] w fun e w' => e = .returned (.bool (stopP p x)) ∧ BW w w' := by
  have HB := Lib.hid (BW.new (BW.new (Below.refl _ w) (.cells (pndC p) 40)) (.cells (sltC x) 29))
  obtain ⟨op, pred, succ, aq, id, known, addr, ready, data, bound, t⟩ := x
  obtain ⟨p1, p2⟩ := p
  unfold sltV stopP prR prW
  unfold sltC pndC at HB ⊢
  simp only at HB ⊢
  by_cases h1 : op = 51
  · subst h1
    rw [if_pos rfl]
    go_enter Tryd.func21, Tryd.ntmps21
    go_wp2
    go_ret
    exact ⟨rfl, HB.out⟩
  · rw [if_neg h1]
    have e1 : (op == 51) = false := by simpa using h1
    clear h1
    cases p1 <;> cases p2 <;> cases h2 : (bits .and .i64 pred 2 != 0) <;> cases h3 : (bits .and .i64 pred 1 != 0)
    all_goals
      go_enter Tryd.func21, Tryd.ntmps21
      go_wp2
      go_ret
      exact ⟨rfl, HB.out⟩
theorem add_world {p q : Bool × Bool} {g : Nat} {w w1 : World} (h : Blk (pndC p) 40 g w) (hb : BW w w1) :
    (Blk (pndC p) 40 g w1 ∧ Fr [g] w w1) ∧ (∀ a, Blk (pndC (a, p.2)) 40 g (w1.setCell ⟨g, 0, none⟩ (.bool a)) ∧ Fr [g] w (w1.setCell ⟨g, 0, none⟩ (.bool a))) ∧
      (∀ b, Blk (pndC (p.1, b)) 40 g (w1.setCell ⟨g, 1, none⟩ (.bool b)) ∧ Fr [g] w (w1.setCell ⟨g, 1, none⟩ (.bool b))) ∧
      (∀ a b, Blk (pndC (a, b)) 40 g ((w1.setCell ⟨g, 0, none⟩ (.bool a)).setCell ⟨g, 1, none⟩ (.bool b)) ∧ Fr [g] w ((w1.setCell ⟨g, 0, none⟩ (.bool a)).setCell ⟨g, 1, none⟩ (.bool b))) := by
  have h1 := h.on hb
  have k := Fr.of [g] hb
  exact ⟨⟨h1, k⟩, fun a => ⟨h1.set 0 (.bool a), k.setCell (.inl (by simp)) _⟩, fun b => ⟨h1.set 1 (.bool b), k.setCell (.inl (by simp)) _⟩,
    fun a b => ⟨(h1.set 0 (.bool a)).set 1 (.bool b), (k.setCell (.inl (by simp)) _).setCell (.inl (by simp)) _⟩⟩
set_option maxHeartbeats 2000000 in
theorem add_c (p : Bool × Bool) (g : Nat) (x : Slt) (hx : Wslt x) (w : World) (hT : TabL w) (hg : Blk (pndC p) 40 g w) :
    Calls Tryd.prog 20 #[.pointer (some ⟨g, 0, none⟩), sltV x] w fun e w' => e = .returned (.tuple #[]) ∧ Blk (pndC (addP p x)) 40 g w' ∧ Fr [g] w w' := by
  have HB := Lib.hid (BW.new (Below.refl _ w) (.cells (sltC x) 29))
  have HL := Lib.hid (fun y (h : BW w y) => isLoad_c x hx y (hT.below h))
  have HS := Lib.hid (fun y (h : BW w y) => isStore_c x hx y (hT.below h))
  have HA := Lib.hid (fun y (h : BW w y) => isAtomic_c x hx y (hT.below h))
  have HK := Lib.hid (Blk.new (sltC x) 29 w)
  have HG := Lib.hid hg
  have HW := Lib.hid (fun y (h : BW w y) => add_world (q := p) hg h)
  have hlt : g < w.heap.size := hg.lt
  have HX1 : Hid (ldS x = true → stS x = false ∧ atS x = false) := by
    intro h; unfold ldS at h; unfold stS atS; have := of_decide_eq_true h; exact ⟨decide_eq_false (by omega), decide_eq_false (by omega)⟩
  have HX2 : Hid (stS x = true → atS x = false) := by
    intro h; unfold stS at h; unfold atS; have := of_decide_eq_true h; exact decide_eq_false (by omega)
  have HEX : Hid (addP p x = (p.1 || ldS x && !x.bound || atS x, p.2 || stS x || atS x)) := rfl
  rw [HEX.out]
  clear hx hT hg HEX
  obtain ⟨p1, p2⟩ := p
  unfold sltV
  generalize ldS x = l1 at *
  generalize stS x = s1 at *
  generalize atS x = a1 at *
  cases l1 with
  | true =>
    obtain ⟨rfl, rfl⟩ := HX1.out rfl
    clear HX1 HX2 HS HA
    have HCB : Hid (∀ y : World, Blk (sltC x) 29 w.heap.size y → y.cell? ⟨w.heap.size, 9, none⟩ = some (.bool x.bound)) := fun y h => h.cell 9
    generalize x.bound = b1 at *
    cases p1 <;> cases b1
    all_goals
      go_enter Tryd.func20, Tryd.ntmps20
      go_wp2_with (first
        | (go_at_call 11; refine (HL.out _ HB.out).mono ?_; rintro e w2 ⟨rfl, hb2⟩; have HB2 := Lib.hid (BW.on HB.out hb2); have HK2 := Lib.hid (HK.out.on hb2); have HG2 := Lib.hid (HG.out.on HB2.out); have c0 : w2.cell? ⟨g, 0, none⟩ = some (.bool _) := HG2.out.cell 0; have f0 := HG2.out.free 0; have c9 := HCB.out _ HK2.out; clear hb2)
        | (with_reducible refine load_blk (o := ⟨some 5, .load _ (.tmp 3), _, _, _, _⟩) rfl 29 (.tmp 3) rfl HK.out rfl Tryd.underlying29 rfl (by kernel_rfl) ?_))
      go_end0
      have := (HW.out _ HB2.out)
      refine ⟨rfl, ?_⟩
      first | simpa using this.2.1 true | simpa using this.2.1 false
  | false =>
    cases s1 with
    | true =>
      obtain rfl := HX2.out rfl
      clear HX1 HX2 HA
      go_enter Tryd.func20, Tryd.ntmps20
      go_wp2_with (first
        | (go_at_call 11; refine (HL.out _ HB.out).mono ?_; rintro e w2 ⟨rfl, hb2⟩; have HB2 := Lib.hid (BW.on HB.out hb2); have HK2 := Lib.hid (HK.out.on hb2); clear hb2)
        | (go_at_call 24; refine (HS.out _ HB2.out).mono ?_; rintro e w3 ⟨rfl, hb3⟩; have HB3 := Lib.hid (BW.on HB2.out hb3); have HG3 := Lib.hid (HG.out.on HB3.out); have f1 := HG3.out.free 1; have c1 : w3.cell? ⟨g, 1, none⟩ = some (.bool _) := HG3.out.cell 1; clear hb3)
        | (with_reducible refine load_blk (o := ⟨some 5, .load _ (.tmp 3), _, _, _, _⟩) rfl 29 (.tmp 3) rfl HK.out rfl Tryd.underlying29 rfl (by kernel_rfl) ?_)
        | (with_reducible refine load_blk (o := ⟨some 20, .load _ (.tmp 3), _, _, _, _⟩) rfl 29 (.tmp 3) rfl HK2.out rfl Tryd.underlying29 rfl (by kernel_rfl) ?_))
      go_end0
      have := (HW.out _ HB3.out)
      refine ⟨rfl, ?_⟩
      simpa using this.2.2.1 true
    | false =>
      clear HX1 HX2
      cases a1
      all_goals
        go_enter Tryd.func20, Tryd.ntmps20
        go_wp2_with (first
          | (go_at_call 11; refine (HL.out _ HB.out).mono ?_; rintro e w2 ⟨rfl, hb2⟩; have HB2 := Lib.hid (BW.on HB.out hb2); have HK2 := Lib.hid (HK.out.on hb2); clear hb2)
          | (go_at_call 24; refine (HS.out _ HB2.out).mono ?_; rintro e w3 ⟨rfl, hb3⟩; have HB3 := Lib.hid (BW.on HB2.out hb3); have HK3 := Lib.hid (HK2.out.on hb3); clear hb3)
          | (go_at_call 14; refine (HA.out _ HB3.out).mono ?_; rintro e w4 ⟨rfl, hb4⟩; have HB4 := Lib.hid (BW.on HB3.out hb4); have HG4 := Lib.hid (HG.out.on HB4.out); have f0 := HG4.out.free 0; have f1 := HG4.out.free 1; have c0 : w4.cell? ⟨g, 0, none⟩ = some (.bool _) := HG4.out.cell 0; have c1 : w4.cell? ⟨g, 1, none⟩ = some (.bool _) := HG4.out.cell 1; clear hb4)
          | (with_reducible refine load_blk (o := ⟨some 5, .load _ (.tmp 3), _, _, _, _⟩) rfl 29 (.tmp 3) rfl HK.out rfl Tryd.underlying29 rfl (by kernel_rfl) ?_)
          | (with_reducible refine load_blk (o := ⟨some 20, .load _ (.tmp 3), _, _, _, _⟩) rfl 29 (.tmp 3) rfl HK2.out rfl Tryd.underlying29 rfl (by kernel_rfl) ?_)
          | (with_reducible refine load_blk (o := ⟨some 26, .load _ (.tmp 3), _, _, _, _⟩) rfl 29 (.tmp 3) rfl HK3.out rfl Tryd.underlying29 rfl (by kernel_rfl) ?_))
        go_end0
        have := (HW.out _ HB4.out)
        refine ⟨rfl, ?_⟩
        first
          | simpa using this.1
          | simpa using this.2.2.2 true true
end Go.Proofs.YtoaonoflekcccaaDoor
