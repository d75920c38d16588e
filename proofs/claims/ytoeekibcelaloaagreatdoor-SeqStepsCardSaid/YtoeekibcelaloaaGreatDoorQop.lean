/- Of stage 11. -/
import Derived.Test.YtoeekibcelaloaaGreatDoorQnp
set_option linter.unusedVariables false
set_option maxRecDepth 100000
set_option maxHeartbeats 1000000
namespace Go.Proofs.YtoeekibcelaloaaGreatDoor
open Go.RowKit
theorem rof4_at {W : World} {A : Option Addr} {cap : Nat} {B : List Int} (h : ImgAt W A cap B) (k : Nat) (hk : k + 4 ≤ B.length) :
    ∃ b off, A = some ⟨b, off, none⟩ ∧ b < W.heap.size ∧ ∀ x c, BW W x → Calls Tryz.prog 19 #[.slice (some ⟨b, off + k, none⟩) 4 c] x fun e w' => e = .returned (.int .u64 (zr0 B k)) ∧ x = w' := by
  obtain ⟨b, off, rfl, hlt, hcell⟩ := h.1.byte (i := 0) (by omega)
  refine ⟨b, off, rfl, hlt, fun x c hx => ?_⟩
  have h0 := zj4 h.2.1 (i := k) (by omega)
  have h1 := zj4 h.2.1 (i := k + 1) (by omega)
  have h2 := zj4 h.2.1 (i := k + 2) (by omega)
  have h3 := zj4 h.2.1 (i := k + 3) (by omega)
  have g := rof_any (some ⟨b, off + k, none⟩) c [B.getD k 0, B.getD (k + 1) 0, B.getD (k + 2) 0, B.getD (k + 3) 0] x (by simp) (by
    intro z hz
    simp only [List.mem_cons, List.not_mem_nil, or_false] at hz
    rcases hz with rfl | rfl | rfl | rfl <;> assumption) (.inr ⟨b, off + k, rfl, Nat.lt_of_lt_of_le hlt (Below.size hx), fun i v hv => by
    have hi : i < 4 := by
      have := (List.getElem?_eq_some_iff.1 hv).1
      simpa [zb0] using this
    rw [Below.cell hx (p := ⟨b, off + k + i, none⟩) hlt, Nat.add_assoc, hcell (k + i) (by omega)]
    have hi' : i = 0 ∨ i = 1 ∨ i = 2 ∨ i = 3 := by omega
    rcases hi' with rfl | rfl | rfl | rfl <;> exact hv⟩)
  rw [ofB4] at g
  exact g
theorem Zn8 (A : Option Addr) (cap : Nat) (B : List Int) (pc : Int) (w : World) (hi : ImgAt w A cap B) (hp : U64 pc) (h : pc % 4 ≠ 0 ∨ (B.length : Int) < pc + 4) :
    Calls Tryz.prog 7 #[.slice A B.length cap, .int .u64 pc] w (RetF w (fetI B pc) (fetC B pc)) := by
  obtain ⟨e1, e2⟩ := Zg7 h
  rw [e1, e2]
  have hn := hi.2.2.1
  obtain ⟨p0, p1⟩ := hp
  clear hi e1 e2
  generalize B.length = n at *
  have HR : Hid (Blk (za0 za5) 29 w.heap.size (w.alloc (.cells (za0 za5) 29))) := Blk.new _ _ w
  have HB : Hid (Below w.heap.size w (w.alloc (.cells (za0 za5) 29))) := (Below.refl _ _).alloc (Nat.le_refl _) _
  unfold za5 za0 at HR HB
  simp only at HR HB
  have fin : ∀ w1 : World, Blk (za0 za5) 29 w.heap.size w1 → BW w w1 → ∃ w2, (storeVar 29 ⟨w.heap.size, 0, none⟩ (.agg (za0 za5))).run Tryz.prog w1 = .ok () w2 ∧ Blk (za0 za5) 29 w.heap.size w2 ∧ BW w w2 := fun w1 h1 h2 => zt8 za5 h1 h2
  have hc : ((pc % 4 != 0) = true) ∨ ((pc % 4 != 0) = false ∧ 2000 < pc) ∨ ((pc % 4 != 0) = false ∧ ¬ 2000 < pc ∧ (n : Int) < pc + 4) := by
    by_cases h0 : pc % 4 = 0
    · by_cases h4 : 2000 < pc
      · exact .inr (.inl ⟨by simpa using h0, h4⟩)
      · exact .inr (.inr ⟨by simpa using h0, h4, by omega⟩)
    · exact .inl (by simpa using h0)
  have hn1 : (n : Int) ≤ 1024 := by omega
  clear h hn
  rcases hc with b | ⟨b, h4⟩ | ⟨b, h4, h5⟩
  all_goals
    go_enter Tryz.func7, Tryz.ntmps7
    go_upto_region 1 with (fail)
    generalize w.alloc (.cells _ 29) = w0 at *
    obtain ⟨w9, hs, hb9, hbw⟩ := fin w0 HR.out HB.out
    go_wp2_with (with_reducible refine zc3 (o := ⟨none, .store _ (.tmp 4) (.tmp 23), _, _, _, _⟩) rfl 29 (.tmp 4) (.tmp 23) rfl rfl rfl hs ?_)
    refine bodyPost_ret (zc2 rfl rfl hb9 Tryz.underlying29 rfl (by kernel_rfl)) rfl ?_
    exact ⟨rfl, hbw⟩
theorem zY3 (A : Option Addr) (cap : Nat) (B : List Int) (pc : Int) (w : World) (hi : ImgAt w A cap B) (hp : U64 pc) (h1 : pc % 4 = 0) (h2 : ¬ (B.length : Int) < pc + 4) :
    Calls Tryz.prog 7 #[.slice A B.length cap, .int .u64 pc] w (RetF w (fetI B pc) (fetC B pc)) := by
  obtain ⟨e1, e2⟩ := zL4 h1 h2
  rw [e1, e2]
  obtain ⟨k, rfl⟩ : ∃ k : Nat, pc = (k : Int) := ⟨pc.toNat, by have := hp.1; omega⟩
  have hk : k + 4 ≤ B.length := by omega
  obtain ⟨b, off, rfl, hblt, KO⟩ := rof4_at hi k hk
  have hvr := zA4 hi.2.1 k hk
  rw [show ((k : Int)).toNat = k from rfl]
  generalize hV : zr0 B k = V at *
  have KD := fun x => rdec_any (fun op ho => is_any op ho) V hvr.1 hvr.2 x
  have hw32 := w32 hvr
  have hcap := hi.2.2.2.1
  have hcap2 := hi.2.2.2.2
  have hlen := hi.2.2.1
  clear hi e1 e2 h2 hV
  generalize B.length = n at *
  have bm : (((k : Int) % 4) != 0) = false := by simpa using h1
  have g2 : ¬ (2000 : Int) < k := by omega
  have g3 : ¬ (n : Int) < (k : Int) + 4 := by omega
  have g4 : (k : Int) + 4 ≤ cap := by omega
  have g5 : ¬ cap = k := by omega
  have g7 : (n : Int) ≤ 1024 := by omega
  have g8 : (cap : Int) ≤ 9223372036854775807 := by omega
  have HR : Hid (Blk (za0 za5) 29 w.heap.size (w.alloc (.cells (za0 za5) 29))) := Blk.new _ _ w
  have HB : Hid (Below w.heap.size w (w.alloc (.cells (za0 za5) 29))) := (Below.refl _ _).alloc (Nat.le_refl _) _
  unfold za5 za0 at HR HB
  simp only at HR HB
  have HD0 : Hid (decB V = false → decI V = za5) := fun hd => by
    unfold decB at hd
    unfold decI
    rw [if_pos (by simpa using hd)]
  clear h1 hk hcap hcap2 hlen hvr
  cases hd : decB V
  all_goals
    rw [hd] at KD
    have HD := Lib.hid hd
    clear hd
    simp only [Bool.false_eq_true, if_false, if_true]
    unfold insV at KD
    generalize hz : decI V = z at *
    have HZ := Lib.hid hz
    clear hz
    go_enter Tryz.func7, Tryz.ntmps7
    go_upto_region 1 with (fail)
    generalize w.alloc (.cells _ 29) = w0 at *
    go_upto_region 4 with (first
      | (go_at_call 19; refine (KO _ _ HB.out).mono ?_; rintro e w3 ⟨rfl, rfl⟩)
      | (go_at_call 18; refine (KD _).mono ?_; rintro e w4 ⟨rfl, hb4⟩; have hbw4 := BW.on HB.out hb4; have HR4 := Lib.hid (HR.out.on hb4); clear hb4))
  · obtain ⟨w9, hs, hb9, hbw⟩ := zt8 (W := w) za5 ((show Blk (za0 za5) 29 w.heap.size w4 from HR4.out).alloc (.cells (za0 z) 29)) (hbw4.new _)
    obtain rfl : z = za5 := HD0.out HD.out
    clear HR4 HR hbw4 HB
    go_wp2_with (with_reducible refine zc3 (o := ⟨none, .store _ (.tmp 4) (.tmp 39), _, _, _, _⟩) rfl 29 (.tmp 4) (.tmp 39) rfl rfl rfl hs ?_)
    refine bodyPost_ret (zc2 rfl rfl hb9 Tryz.underlying29 rfl (by kernel_rfl)) rfl ?_
    exact ⟨rfl, hbw⟩
  · obtain ⟨w9, hs, hb9, hbw⟩ := zt8 (W := w) z ((show Blk (za0 za5) 29 w.heap.size w4 from HR4.out).alloc (.cells (za0 z) 29)) (hbw4.new _)
    have HX := Blk.new (za0 z) 29 w4
    clear HR4 HR hbw4 HB
    go_wp2_with (first
      | (with_reducible refine za7 (o := ⟨some 40, _, _, _, _, _⟩) rfl 29 (.tmp 6) rfl HX rfl Tryz.underlying29 rfl (by kernel_rfl) ?_)
      | (with_reducible refine zc3 (o := ⟨none, .store _ (.tmp 4) (.tmp 40), _, _, _, _⟩) rfl 29 (.tmp 4) (.tmp 40) rfl rfl rfl hs ?_))
    refine bodyPost_ret (zc2 rfl rfl hb9 Tryz.underlying29 rfl (by kernel_rfl)) rfl ?_
    exact ⟨rfl, hbw⟩
theorem zQ7 (A : Option Addr) (cap : Nat) (B : List Int) (pc : Int) (w : World) (hi : ImgAt w A cap B) (hp : U64 pc) :
    Calls Tryz.prog 7 #[.slice A B.length cap, .int .u64 pc] w (RetF w (fetI B pc) (fetC B pc)) := by
  by_cases h : pc % 4 ≠ 0 ∨ (B.length : Int) < pc + 4
  · exact Zn8 A cap B pc w hi hp h
  · exact zY3 A cap B pc w hi hp (by omega) (by omega)
end Go.Proofs.YtoeekibcelaloaaGreatDoor
