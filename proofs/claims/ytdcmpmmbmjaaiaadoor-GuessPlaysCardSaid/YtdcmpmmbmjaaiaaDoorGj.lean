/- Stage 14: alive; a guess beside what came in. -/
import Derived.Test.YtdcmpmmbmjaaiaaDoorGg
import Derived.Test.YtdcmpmmbmjaaiaaDoorGi
set_option maxRecDepth 100000
set_option linter.unusedVariables false
namespace Go.Proofs.YtdcmpmmbmjaaiaaDoor
open Go.RowKit

/-- A guess lies in a new block, behind W. -/
structure GX (W : World) (s : Gst) (g : Nat) (w : World) : Prop where
  at0 : GAt s g w
  low : BW W w
  ge : W.heap.size ≤ g
theorem GX.on {W w w' : World} {s : Gst} {g : Nat} (h : GX W s g w) (k : Below w.heap.size w w') : GX W s g w' := ⟨h.at0.on k, BW.on h.low k, h.ge⟩
theorem GX.put {W w w' : World} {s s' : Gst} {g : Nat} (h : GX W s g w) (k : Fr [g] w w') (h' : GAt s' g w') : GX W s' g w' :=
  ⟨h', Below.trans h.low (k.below (by intro i hi; rw [List.mem_singleton.1 hi]; exact h.ge) (Below.size h.low)), h.ge⟩
theorem GX.drewN {W w : World} {s : Gst} {g : Nat} (h : GX W s g w) (n : Nat) : GX W s g (w.drewN n) := h.on (below_drewN' (Below.refl _ _) n)
theorem GX.tab {W w : World} {s : Gst} {g : Nat} (h : GX W s g w) (hT : TabL W) : TabL w := hT.below h.low
def li : Ins := ⟨5, 0, 0, 0, -8, false, false, 0, 0⟩
def lx : Wn := ⟨li, 8, 0⟩
theorem life : nxtG newG li 8 = 12 ∧ nxtG (trG newG lx) li 8 = 0 ∧ (trG newG lx).c (numG 8) = 2 ∧ (trG newG lx).c (numG 12) = 1 := by
  refine ⟨?_, ?_, ?_, ?_⟩ <;> decide +kernel
set_option maxHeartbeats 4000000 in
theorem alive14_any (w : World) (hT : TabL w) : Calls Tryd.prog 5 #[] w fun e w' => e = .returned (.bool true) ∧ BW w w' := by
  have HNW := Lib.hid new_c
  obtain ⟨l1, l2, l3, l4⟩ := life
  have hI : I64 li.op := by unfold I64 li; decide
  have HN1 := Lib.hid (fun g (x : World) (hx : GX w newG g x) => l1 ▸ next_c hx.at0 li hI 8 (by decide) (by decide) (hx.tab hT))
  have HN2 := Lib.hid (fun g (x : World) (hx : GX w (trG newG lx) g x) => l2 ▸ next_c hx.at0 li hI 8 (by decide) (by decide) (hx.tab hT))
  have HTR := Lib.hid (fun g (x : World) (hx : GX w newG g x) => train_c hx.at0 newG_ok lx hI (by decide) (by decide) (hx.tab hT))
  have HC1 := Lib.hid (fun g (x : World) (hx : GX w (trG newG lx) g x) => l3 ▸ counter_c hx.at0 8 (by decide) (by decide))
  have HC2 := Lib.hid (fun g (x : World) (hx : GX w (trG newG lx) g x) => l4 ▸ counter_c hx.at0 12 (by decide) (by decide))
  clear l1 l2 l3 l4 hI hT
  generalize trG newG lx = s1 at *
  generalize newG = s0 at *
  unfold insV li at HN1 HN2
  unfold insV lx li at HTR
  simp only at HN1 HN2 HTR
  have HAF : True := trivial
  go_enter Tryd.func5, Tryd.ntmps5
  go_wp2_with (first
    | (go_at_call 6; refine (HNW.out _).mono ?_; rintro e w1 ⟨g, rfl, hg, hgl, hb⟩; have HX1 : Hid (GX w s0 g w1) := ⟨hg, hb, hgl⟩; have HX2 := Lib.hid (HX1.out.on (BW.new (Below.refl _ _) (.cells #[.int .i64 5, .int .i64 0, .int .i64 0, .int .i64 0, .int .i64 (-8), .bool false, .bool false, .int .i64 0, .int .i64 0] 24))); have HX2lt : g < w1.heap.size := Blk.lt HX1.out.at0; have HK2 := Lib.hid (Blk.new #[.int .i64 5, .int .i64 0, .int .i64 0, .int .i64 0, .int .i64 (-8), .bool false, .bool false, .int .i64 0, .int .i64 0] 24 w1); clear hg hb hgl HX1)
    | (go_at_call 7; refine (HN1.out _ _ HX2.out).mono ?_; rintro e w3 ⟨rfl, hb⟩; have HX3 := Lib.hid (HX2.out.on hb); have HK3 := Lib.hid (HK2.out.on hb); clear hb HX2 HK2)
    | (go_at_call 9; refine (HTR.out _ _ HX3.out).mono ?_; rintro e w4 ⟨rfl, hg, hf⟩; have HX4 := Lib.hid (HX3.out.put hf hg); have HK4 := Lib.hid (hf.blk HK3.out (by simp; have := HX2lt; omega)); clear hg hf HX3 HK3)
    | (go_at_call 7; refine (HN2.out _ _ HX4.out).mono ?_; rintro e w5 ⟨rfl, hb⟩; have HX5 := Lib.hid (HX4.out.on hb); have HK5 := Lib.hid (HK4.out.on hb); clear hb HX4 HK4)
    | (go_at_call 10; (have HFIRST := HAF); clear HAF; refine (HC1.out _ _ HX5.out).mono ?_; rintro e w6 ⟨rfl, n6, rfl⟩; have HX6 := Lib.hid (HX5.out.drewN n6))
    | (go_at_call 10; refine (HC2.out _ _ HX6.out).mono ?_; rintro e w7 ⟨rfl, n7, rfl⟩; have HX7 := Lib.hid (HX6.out.drewN n7))
    | (with_reducible refine load_blk (o := ⟨some 7, .load _ (.tmp 2), _, _, _, _⟩) rfl 24 (.tmp 2) rfl HK2.out rfl Tryd.underlying24 rfl (by kernel_rfl) ?_)
    | (with_reducible refine load_blk (o := ⟨some 10, .load _ (.tmp 2), _, _, _, _⟩) rfl 24 (.tmp 2) rfl HK3.out rfl Tryd.underlying24 rfl (by kernel_rfl) ?_)
    | (with_reducible refine Hz.val_arm (o := ⟨some 16, .load _ (.tmp 2), _, _, _, _⟩) (by kernel_rfl) (Hz.ex_load_all 24 (.tmp 2) rfl rfl HK4.out Tryd.underlying24 rfl (by kernel_rfl)) ?_))
  go_ret
  exact ⟨rfl, by have h9 := HX7.out.low; rwa [World.drewN_drewN] at h9⟩
end Go.Proofs.YtdcmpmmbmjaaiaaDoor
