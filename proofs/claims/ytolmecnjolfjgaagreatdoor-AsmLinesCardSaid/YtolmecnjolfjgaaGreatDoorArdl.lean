/- The document's Lines. -/
import Derived.Test.YtolmecnjolfjgaaGreatDoorAlnl
import Derived.Test.YtolmecnjolfjgaaGreatDoorRv9l
import Derived.Test.YtolmecnjolfjgaaGreatDoorWol
set_option maxRecDepth 100000
namespace Go.Proofs.YtolmecnjolfjgaaGreatDoor
open Go.RowKit

theorem same_word {B : List Int} {k : Nat} (h : ∀ j, j < 4 → 0 ≤ B.getD (4 * k + j) 0 ∧ B.getD (4 * k + j) 0 < 256) : (decB (word4 B (4 * k)) = true ∧ wordV (decI (word4 B (4 * k))) = word4 B (4 * k)) ↔ ownB (decI (word4 B (4 * k))) = hereB B k := by
  have h0 := h 0 (by omega)
  have h1 := h 1 (by omega)
  have h2 := h 2 (by omega)
  have h3 := h 3 (by omega)
  rw [Nat.add_zero] at h0
  have hv : U32 (word4 B (4 * k)) := by unfold word4; constructor <;> omega
  have hbe : bytesL (word4 B (4 * k)) 4 = hereB B k := bytes_of4 _ _ _ _ h0 h1 h2 h3
  generalize word4 B (4 * k) = V at *
  constructor
  · rintro ⟨h4, h5⟩
    have hr : rgtB (decI V) = true := by
      rcases dec_ways hv with h6 | ⟨_, h6, _⟩
      · unfold decE at h6; rw [h4] at h6; cases h6
      · exact h6
    unfold ownB
    rw [if_pos hr, h5, hbe]
  · intro he
    have hr : rgtB (decI V) = true := by
      unfold ownB at he
      cases hr : rgtB (decI V)
      · rw [hr] at he; unfold hereB at he; cases he
      · rfl
    unfold ownB at he
    rw [if_pos hr] at he
    refine ⟨?_, ?_⟩
    · unfold decB
      have : opW V ≠ 0 := fun h6 => by
        have := ((rgt_iff _).1 hr).op
        unfold decI at this
        rw [if_pos h6] at this
        exact absurd this.1 (by decide)
      simp [this]
    · have hw := (enc_dec ((rgt_iff _).1 hr)).1
      have e := congrArg ofB (he.trans hbe.symm)
      rw [of_bytes _ hw.1 4 (by decide), of_bytes _ hv.1 4 (by decide)] at e
      rw [show 8 * 4 = 32 from rfl] at e
      have z : ∀ x : Int, 0 ≤ x → x < 4294967296 → zx x 32 = x := fun x a b => by unfold zx; omega
      rw [z _ hw.1 hw.2, z _ hv.1 hv.2] at e
      exact e
/-- What is left of the bytes, in a slice of its own. -/
def LftP (w : World) (bs : List Int) (k : Nat) (A : Option Addr) (cap : Nat) : Prop :=
  4 * k ≤ bs.length ∧ bs.length - 4 * k ≤ cap ∧ cap ≤ 9223372036854775807 ∧ (0 < bs.length - 4 * k → ∃ b off, A = some ⟨b, off, none⟩ ∧ b < w.heap.size ∧ ∀ j, j < bs.length - 4 * k → w.cell? ⟨b, off + j, none⟩ = some (.int .u8 (bs.getD (4 * k + j) 0)))
set_option maxHeartbeats 2000000 in
theorem rlines_any (A : Option Addr) (cap : Nat) (B : List Int) (w : World) (hb : ∀ b ∈ B, 0 ≤ b ∧ b < 256) (hl : B.length ≤ 1100) (hc : B.length ≤ cap) (hc2 : cap ≤ 9223372036854775807) (hr : Rd w w.heap.size A (B.map (Value.int .u8))) :
    Calls Tryz.prog 13 #[.slice A B.length cap] w (RetL w (linesL B)) := by
  obtain ⟨i9, gi, gz0, gz1, gz2⟩ := info_parts info_str
  have HB := Lib.hid (fun i (h : i < B.length) => byte_at hb h)
  have H0 : Hid (LftP w B 0 A cap) := by
    show LftP w B 0 A cap
    refine ⟨by omega, by omega, hc2, fun h => ?_⟩
    obtain ⟨b, off, rfl, hlt, hcell⟩ := hr.byte (i := 0) (by omega)
    exact ⟨b, off, rfl, hlt, fun j hj => by rw [Nat.mul_zero, Nat.zero_add]; exact hcell j (by omega)⟩
  clear hr hb hc hc2
  go_enter Tryz.func13, Tryz.ntmps13
  go_wp2
  go_loopw [0, 3] (fun v0 v3 wr => BW w wr ∧ ∃ (k n : Nat) (A' : Option Addr) (c' : Nat), v0 = .slice A' n c' ∧ n = B.length - 4 * k ∧ Hid (LftP w B k A' c') ∧ Hid (wr.ownsRow w.heap.size 9 1 v3 k (txs (linesK B k)))) (fun v0 _ _ => lenOf v0)
  case atStart => exact ⟨Below.refl _ _, 0, B.length, A, cap, rfl, by omega, H0, ⟨rfl, .inl ⟨rfl, rfl⟩⟩⟩
  case round =>
    clear H0
    obtain ⟨hbw, k, n, A', c', rfl, hn, HL, HO⟩ := hrel
    obtain ⟨w2, rfl⟩ : ∃ w2 : World, w2 = wr := ⟨_, rfl⟩
    have HN := Lib.hid hn
    have hk : k ≤ 275 := by have := HL.out.1; omega
    have hn5 : n ≤ 1100 := by omega
    clear hn
    by_cases h4 : 4 ≤ n
    · have h4I : (4 : Int) ≤ n := by omega
      obtain ⟨hl1, hl2, hl3, hl4⟩ := HL.out
      obtain ⟨b, off, rfl, hblt, hcell⟩ := hl4 (by have := HN.out; omega)
      have hc4 : (4 : Int) ≤ c' := by have := HN.out; omega
      have HY := Lib.hid (fun j (h : j < 4) => HB.out (4 * k + j) (by have := HN.out; omega))
      have hvr : U32 (word4 B (4 * k)) := by
        have h0 := HY.out 0 (by omega)
        have h1 := HY.out 1 (by omega)
        have h2 := HY.out 2 (by omega)
        have h3 := HY.out 3 (by omega)
        rw [Nat.add_zero] at h0
        unfold word4; constructor <;> omega
      have KW : Hid (∀ x, BW w x → Calls Tryz.prog 33 #[.slice (some ⟨b, off, none⟩) 4 c'] x fun e w' => e = .returned (.int .u64 (word4 B (4 * k))) ∧ x = w') := fun x hx => by
        have h := rof_any (some ⟨b, off, none⟩) c' (hereB B k) x (by unfold hereB; simp) (by
          intro z hz
          unfold hereB at hz
          simp only [List.mem_cons, List.not_mem_nil, or_false] at hz
          have h0 := HY.out 0 (by omega)
          have h1 := HY.out 1 (by omega)
          have h2 := HY.out 2 (by omega)
          have h3 := HY.out 3 (by omega)
          rw [Nat.add_zero] at h0
          rcases hz with rfl | rfl | rfl | rfl <;> assumption) (.inr ⟨b, off, rfl, Nat.lt_of_lt_of_le hblt (Below.size hx), fun i v hv => by
          have hi : i < 4 := by
            have := (List.getElem?_eq_some_iff.1 hv).1
            simpa [cellsB, hereB] using this
          rw [Below.cell hx (p := ⟨b, off + i, none⟩) hblt, hcell i (by have := HN.out; omega)]
          have hi' : i = 0 ∨ i = 1 ∨ i = 2 ∨ i = 3 := by omega
          rcases hi' with rfl | rfl | rfl | rfl <;> exact hv⟩)
        unfold hereB at h
        rw [ofB4] at h
        exact h
      have HSW := Lib.hid (same_word (B := B) (k := k) HY.out)
      have HLW : Hid (lineW B k = if ownB (decI (word4 B (4 * k))) = hereB B k then textT (decI (word4 B (4 * k))) else nlT dotW (word4 B (4 * k)).toNat) := rfl
      have HC : Hid (∀ j, j < B.length - 4 * k → w.cell? ⟨b, off + j, none⟩ = some (.int .u8 (B.getD (4 * k + j) 0))) := hcell
      have HL1 := Lib.hid (⟨hl1, hl2, hl3⟩ : 4 * k ≤ B.length ∧ B.length - 4 * k ≤ c' ∧ c' ≤ 9223372036854775807)
      obtain ⟨V, hV⟩ : ∃ V, word4 B (4 * k) = V := ⟨_, rfl⟩
      rw [hV] at KW HSW HLW hvr
      have hw32 := w32 hvr
      have hw64 : IntKind.i64.wrap V = V := by rw [IntKind.wrap_i64]; have := hvr.1; have := hvr.2; omega
      have KO := KW.out
      have KD := fun x => d_decode (W := x) V hvr (Below.refl _ _)
      have hRG : Hid (decB V = true → Rgt (decI V)) := fun h => by
        rcases dec_ways hvr with h6 | ⟨_, h6, _⟩
        · unfold decE at h6; rw [h] at h6; cases h6
        · exact (rgt_iff _).1 h6
      have KG := fun x => rdigits_any V (by unfold I64; have := hvr.1; have := hvr.2; omega) x
      have hVn : ((V.toNat : Nat) : Int) = V := Int.toNat_of_nonneg hvr.1
      have hdl : (digI V).length ≤ 30 := by
        unfold digI
        split
        · have := digF_len 20 V.natAbs; unfold digU; simp; omega
        · have := digF_len 20 V.natAbs; unfold digU; omega
      have hadd : ∀ w2 : World, (Op.stringOp .add ⟨#[46, 119, 111, 114, 100, 32]⟩ (bs (digI V))).run Tryz.prog w2 = .ok (.string (bs (nlT dotW V.toNat))) w2 := fun w2 => by
        have e : nlT dotW V.toNat = [46, 119, 111, 114, 100, 32] ++ digI V := by unfold nlT dotW; rw [hVn]; rfl
        rw [e]
        exact run_string_add_lists w2 [46, 119, 111, 114, 100, 32] (digI V) (by decide) (by omega)
      obtain ⟨LN, hLN⟩ : ∃ l, nlT dotW V.toNat = l := ⟨_, rfl⟩
      rw [hLN] at hadd HLW
      unfold tx at KG
      obtain ⟨zn, hzn⟩ : ∃ z, bs LN = z := ⟨_, rfl⟩
      rw [hzn] at hadd
      have HNZ0 : Hid (¬ ownB (decI V) = hereB B k → tx (lineW B k) = .string zn) := fun hne => by rw [HLW.out, if_neg hne, ← hzn]; rfl
      generalize bs (digI V) = dv at *
      clear KW hV hcell hl4 hVn hdl hzn hLN HL hl1 hl2 hl3
      obtain ⟨d, hd⟩ : ∃ d, decI V = d := ⟨_, rfl⟩
      rw [hd] at KD HSW HLW hRG HNZ0
      have KT0 := Lib.hid (fun (h : Rgt d) x => rtext_any d h x)
      have KWD := Lib.hid (fun (h : Rgt d) x => word_any d h x)
      obtain ⟨zt, hzt⟩ : ∃ z, bs (textT d) = z := ⟨_, rfl⟩
      have HTZ0 : Hid (ownB d = hereB B k → tx (lineW B k) = .string zt) := fun he => by rw [HLW.out, if_pos he, ← hzt]; rfl
      unfold tx at KT0
      rw [hzt] at KT0
      clear hd HLW hzt hvr
      unfold insV at KD KT0 KWD
      obtain ⟨B1, hB1⟩ : ∃ b1, decB V = b1 := ⟨_, rfl⟩
      rw [hB1] at KD HSW hRG
      clear hB1
      go_upto_region 5 with (first
        | (go_at_call 33; refine (KO _ hbw).mono ?_; rintro e w3 ⟨rfl, rfl⟩)
        | (go_at_call 34; refine (KD _).mono ?_; rintro e w4 ⟨rfl, _, hb4⟩; have hbw4 := hbw.on hb4; have HO4 := Lib.hid (row_on HO.out hb4); clear hb4))
      have HX := Blk.new (insCells d) 40 w4
      have hb5 := hbw4.new (.cells (insCells d) 40)
      have HO5 := Lib.hid (HO4.out.alloc (.cells (insCells d) 40))
      unfold insCells at HX hb5 HO5
      generalize w4.alloc (.cells _ 40) = w5 at *
      obtain ⟨g, hg⟩ : ∃ g, w4.heap.size = g := ⟨_, rfl⟩
      rw [hg] at HX ⊢
      clear hg hbw4 HO4 HO hbw KO KD
      cases B1 with
      | true =>
        have hRg := hRG.out rfl
        have KWd := KWD.out hRg
        have KT := KT0.out hRg
        obtain ⟨wv, hwv⟩ : ∃ z, wordV d = z := ⟨_, rfl⟩
        rw [hwv] at KWd HSW
        clear hwv hRg KWD KT0 hRG
        by_cases he : wv = V
        · have HTZ : Hid (tx (lineW B k) = .string zt) := HTZ0.out (HSW.out.1 ⟨rfl, he⟩)
          have hde : (wv == V) = true := by simp [he]
          have hde2 : decide (wv = V) = true := decide_eq_true he
          clear he HSW HTZ0 HNZ0 hadd
          have c0 := HX.cell 0; have c1 := HX.cell 1; have c2 := HX.cell 2; have c3 := HX.cell 3; have c4 := HX.cell 4; have c5 := HX.cell 5; have c6 := HX.cell 6; have c7 := HX.cell 7; have c8 := HX.cell 8
          go_upto_region 6 with (first
            | (go_at_call 35; refine (KWd _).mono ?_; rintro e w6 ⟨rfl, hb6⟩; have hbw6 := hb5.on hb6; have HO6 := Lib.hid (row_on HO5.out hb6); have HX6 := HX.on hb6; clear hb6 c0 c1 c2 c3 c4 c5 c6 c7 c8))
          go_upto_region 8 with (first
            | (with_reducible refine load_blk (o := ⟨some 28, _, _, _, _, _⟩) rfl 40 (.tmp 5) rfl HX6 rfl Tryz.underlying40 rfl (by kernel_rfl) ?_)
            | (go_at_call 36; refine (KT _).mono ?_; rintro e w8 ⟨rfl, hb8⟩; have hbw8 := hbw6.on hb8; have HO8 := Lib.hid (row_on HO6.out hb8); clear hb8)
            | (at_builtin; refine wpList_append_own _ rfl _ _ 25 rfl w.heap.size 9 i9 (.string ByteArray.empty) 1 16 Tryz.underlying25 gi gz0 gz1 gz2 rfl (by decide) _ k (txs (linesK B k)) rfl (HO8.out.alloc _) ⟨w8.heap.size, 0, none⟩ 1 1 [.string zt] rfl rfl (cell_new _ _ _) (by simp [Value.oneCell']) (by unfold maxLen; omega) (by omega) (by have := Below.size hbw8; simp; omega) ?_))
          intro v9 w9 hown hgrow hnn
          clear hnn
          have hb9 : BW w w9 := Below.grown (BW.new hbw8 _) hgrow (by have := Below.size hbw8; simp; omega) (fun q hq => (HO8.out.lt q hq).1)
          have HO9 : Hid (w9.ownsRow w.heap.size 9 1 v9 (k + 1) (txs (linesK B (k + 1)))) := by
            show World.ownsRow _ _ _ _ _ _ _
            rw [linesK_succ, txs_snoc, HTZ.out]
            exact hown
          clear hown hgrow
          by_cases hc5 : c' = 4
          · subst hc5
            have hn4 : n = 4 := by have := HN.out; have := HL1.out; omega
            subst hn4
            go_wp2
            go_roundw
            case rel => exact ⟨hb9, k + 1, 0, some ⟨b, off, none⟩, 0, by rfl, by have := HN.out; omega, (show LftP _ _ _ _ _ from ⟨by have := HN.out; omega, by have := HN.out; omega, by omega, fun h => by have := HN.out; omega⟩), HO9⟩
            case measure => simp [lenOf]
          · have hc6 : ¬ c' = 4 := hc5
            go_wp2
            go_roundw
            case rel =>
              refine ⟨hb9, k + 1, n - 4, some ⟨b, off + 4, none⟩, c' - 4, ?_, by have := HN.out; omega, (show LftP _ _ _ _ _ from ⟨by have := HN.out; omega, by have := HL1.out; omega, by have := HL1.out; omega, fun h => ⟨b, off + 4, rfl, hblt, fun j hj => ?_⟩⟩), HO9⟩
              · rfl
              · have := HC.out (4 + j) (by omega)
                rw [show off + 4 + j = off + (4 + j) by omega, show 4 * (k + 1) + j = 4 * k + (4 + j) by omega]
                exact this
            case measure => simp [lenOf]; omega
        · have HNZ : Hid (tx (lineW B k) = .string zn) := HNZ0.out (fun h => he (HSW.out.2 h).2)
          have hde : (wv == V) = false := by simpa using he
          have hde2 : decide (wv = V) = false := decide_eq_false he
          clear he HSW HTZ0 HNZ0 KT
          have c0 := HX.cell 0; have c1 := HX.cell 1; have c2 := HX.cell 2; have c3 := HX.cell 3; have c4 := HX.cell 4; have c5 := HX.cell 5; have c6 := HX.cell 6; have c7 := HX.cell 7; have c8 := HX.cell 8
          go_upto_region 7 with (first
            | (go_at_call 35; refine (KWd _).mono ?_; rintro e w6 ⟨rfl, hb6⟩; have hbw6 := hb5.on hb6; have HO6 := Lib.hid (row_on HO5.out hb6); have HX6 := HX.on hb6; clear hb6 c0 c1 c2 c3 c4 c5 c6 c7 c8))
          go_upto_region 8 with (first
            | (go_at_call 37; refine (KG _).mono ?_; rintro e w8 ⟨rfl, hb8⟩; have hbw8 := hbw6.on hb8; have HO8 := Lib.hid (row_on HO6.out hb8); clear hb8)
            | (at_builtin; refine wpList_append_own _ rfl _ _ 25 rfl w.heap.size 9 i9 (.string ByteArray.empty) 1 16 Tryz.underlying25 gi gz0 gz1 gz2 rfl (by decide) _ k (txs (linesK B k)) rfl (HO8.out.alloc _) ⟨w8.heap.size, 0, none⟩ 1 1 [.string zn] rfl rfl (cell_new _ _ _) (by simp [Value.oneCell']) (by unfold maxLen; omega) (by omega) (by have := Below.size hbw8; simp; omega) ?_))
          intro v9 w9 hown hgrow hnn
          clear hnn
          have hb9 : BW w w9 := Below.grown (BW.new hbw8 _) hgrow (by have := Below.size hbw8; simp; omega) (fun q hq => (HO8.out.lt q hq).1)
          have HO9 : Hid (w9.ownsRow w.heap.size 9 1 v9 (k + 1) (txs (linesK B (k + 1)))) := by
            show World.ownsRow _ _ _ _ _ _ _
            rw [linesK_succ, txs_snoc, HNZ.out]
            exact hown
          clear hown hgrow
          by_cases hc5 : c' = 4
          · subst hc5
            have hn4 : n = 4 := by have := HN.out; have := HL1.out; omega
            subst hn4
            go_wp2
            go_roundw
            case rel => exact ⟨hb9, k + 1, 0, some ⟨b, off, none⟩, 0, by rfl, by have := HN.out; omega, (show LftP _ _ _ _ _ from ⟨by have := HN.out; omega, by have := HN.out; omega, by omega, fun h => by have := HN.out; omega⟩), HO9⟩
            case measure => simp [lenOf]
          · have hc6 : ¬ c' = 4 := hc5
            go_wp2
            go_roundw
            case rel =>
              refine ⟨hb9, k + 1, n - 4, some ⟨b, off + 4, none⟩, c' - 4, ?_, by have := HN.out; omega, (show LftP _ _ _ _ _ from ⟨by have := HN.out; omega, by have := HL1.out; omega, by have := HL1.out; omega, fun h => ⟨b, off + 4, rfl, hblt, fun j hj => ?_⟩⟩), HO9⟩
              · rfl
              · have := HC.out (4 + j) (by omega)
                rw [show off + 4 + j = off + (4 + j) by omega, show 4 * (k + 1) + j = 4 * k + (4 + j) by omega]
                exact this
            case measure => simp [lenOf]; omega
      | false =>
        have HNZ : Hid (tx (lineW B k) = .string zn) := HNZ0.out (fun h => by have := (HSW.out.2 h).1; cases this)
        have hbw6 := hb5
        have HO6 := HO5
        clear HSW HTZ0 HNZ0 KT0 KWD hRG
        go_upto_region 7 with (fail)
        go_upto_region 8 with (first
          | (go_at_call 37; refine (KG _).mono ?_; rintro e w8 ⟨rfl, hb8⟩; have hbw8 := hbw6.on hb8; have HO8 := Lib.hid (row_on HO6.out hb8); clear hb8)
          | (at_builtin; refine wpList_append_own _ rfl _ _ 25 rfl w.heap.size 9 i9 (.string ByteArray.empty) 1 16 Tryz.underlying25 gi gz0 gz1 gz2 rfl (by decide) _ k (txs (linesK B k)) rfl (HO8.out.alloc _) ⟨w8.heap.size, 0, none⟩ 1 1 [.string zn] rfl rfl (cell_new _ _ _) (by simp [Value.oneCell']) (by unfold maxLen; omega) (by omega) (by have := Below.size hbw8; simp; omega) ?_))
        intro v9 w9 hown hgrow hnn
        clear hnn
        have hb9 : BW w w9 := Below.grown (BW.new hbw8 _) hgrow (by have := Below.size hbw8; simp; omega) (fun q hq => (HO8.out.lt q hq).1)
        have HO9 : Hid (w9.ownsRow w.heap.size 9 1 v9 (k + 1) (txs (linesK B (k + 1)))) := by
          show World.ownsRow _ _ _ _ _ _ _
          rw [linesK_succ, txs_snoc, HNZ.out]
          exact hown
        clear hown hgrow
        by_cases hc5 : c' = 4
        · subst hc5
          have hn4 : n = 4 := by have := HN.out; have := HL1.out; omega
          subst hn4
          go_wp2
          go_roundw
          case rel => exact ⟨hb9, k + 1, 0, some ⟨b, off, none⟩, 0, by rfl, by have := HN.out; omega, (show LftP _ _ _ _ _ from ⟨by have := HN.out; omega, by have := HN.out; omega, by omega, fun h => by have := HN.out; omega⟩), HO9⟩
          case measure => simp [lenOf]
        · have hc6 : ¬ c' = 4 := hc5
          go_wp2
          go_roundw
          case rel =>
            refine ⟨hb9, k + 1, n - 4, some ⟨b, off + 4, none⟩, c' - 4, ?_, by have := HN.out; omega, (show LftP _ _ _ _ _ from ⟨by have := HN.out; omega, by have := HL1.out; omega, by have := HL1.out; omega, fun h => ⟨b, off + 4, rfl, hblt, fun j hj => ?_⟩⟩), HO9⟩
            · rfl
            · have := HC.out (4 + j) (by omega)
              rw [show off + 4 + j = off + (4 + j) by omega, show 4 * (k + 1) + j = 4 * k + (4 + j) by omega]
              exact this
          case measure => simp [lenOf]; omega
    · have hkk : k = B.length / 4 := by have := HN.out; have := HL.out.1; omega
      obtain ⟨hl1, hl2, hl3, hl4⟩ := HL.out
      have HK := Lib.hid hkk
      have h4I : ¬ (4 : Int) ≤ n := by omega
      have hnr : n = B.length % 4 := by have := HN.out; clear hl4; omega
      have HNR := Lib.hid hnr
      have H0 : Hid (w2.ownsRow w.heap.size 9 1 u3 (k + 0) (txs (linesR B 0))) := by
        show World.ownsRow _ _ _ _ _ _ _
        have e : linesR B 0 = linesK B k := by unfold linesR; rw [← hkk]; simp
        rw [e]; exact HO.out
      have HBB := Lib.hid hbw
      have hl5 : 0 < n → 0 < B.length - 4 * k := fun h => by have := HN.out; clear hl4; omega
      have HP := Lib.hid (fun (h : 0 < n) => hl4 (hl5 h))
      clear hl5 hkk hnr hl4 hl1 hl2 hl3 HL HO hbw
      go_wp2
      go_loopg [3, 7] n (fun gg v3 v7 wr => ∃ (j m : Nat), v7 = .int .i64 j ∧ j + gg = n ∧ m = k + j ∧ Hid (BW w wr) ∧ Hid (wr.ownsRow w.heap.size 9 1 v3 m (txs (linesR B j))))
      case atStart => exact ⟨0, k, rfl, by omega, rfl, HBB, H0⟩
      case round =>
        clear H0 HBB
        obtain ⟨j, m, rfl, hj, hm, HBW, HO⟩ := hrel
        obtain ⟨w4, rfl⟩ : ∃ w4 : World, w4 = wr := ⟨_, rfl⟩
        have hm5 : m ≤ 300 := by omega
        have HMM := Lib.hid hm
        clear hm
        by_cases hjr : j < n
        · have hjI : (j : Int) < n := by omega
          obtain ⟨b, off, rfl, hblt, hcell⟩ := HP.out (by omega)
          obtain ⟨y, hy⟩ : ∃ y, B.getD (4 * k + j) 0 = y := ⟨_, rfl⟩
          have hyr := HB.out (4 * k + j) (by have := HN.out; omega)
          rw [hy] at hyr
          have ch : w4.cell? ⟨b, off + j, none⟩ = some (.int .u8 y) := by
            rw [Below.cell HBW.out (p := ⟨b, off + j, none⟩) hblt, hcell j (by have := HN.out; omega), hy]
          have hyn : ((y.toNat : Nat) : Int) = y := Int.toNat_of_nonneg hyr.1
          have hyw : IntKind.i64.wrap y = y := by rw [IntKind.wrap_i64]; omega
          have KG := fun x => rdigits_any y (by unfold I64; omega) x
          have hdl : (digI y).length ≤ 30 := by
            unfold digI
            split
            · have := digF_len 20 y.natAbs; unfold digU; simp; omega
            · have := digF_len 20 y.natAbs; unfold digU; omega
          have hadd : ∀ w2 : World, (Op.stringOp .add ⟨#[46, 98, 121, 116, 101, 32]⟩ (bs (digI y))).run Tryz.prog w2 = .ok (.string (bs (nlT dotB y.toNat))) w2 := fun w2 => by
            have e : nlT dotB y.toNat = [46, 98, 121, 116, 101, 32] ++ digI y := by unfold nlT dotB; rw [hyn]; rfl
            rw [e]
            exact run_string_add_lists w2 [46, 98, 121, 116, 101, 32] (digI y) (by decide) (by omega)
          have HLB : Hid (lineB B (4 * (B.length / 4) + j) = nlT dotB y.toNat) := by show _ = _; unfold lineB; rw [← HK.out, hy]
          obtain ⟨LN, hLN⟩ : ∃ l, nlT dotB y.toNat = l := ⟨_, rfl⟩
          rw [hLN] at hadd HLB
          unfold tx at KG
          obtain ⟨z, hz⟩ : ∃ z, bs LN = z := ⟨_, rfl⟩
          rw [hz] at hadd
          have HLZ : Hid (tx (lineB B (4 * (B.length / 4) + j)) = .string z) := by show _ = _; rw [HLB.out, ← hz]; rfl
          generalize bs (digI y) = dv at *
          clear hyn hLN hz hy hdl hcell
          go_wp2_with (first
            | (go_at_call 37; refine (KG _).mono ?_; rintro e w8 ⟨rfl, hb8⟩; have hbw8 := HBW.out.on hb8; have HO8 := Lib.hid (row_on HO.out hb8); clear hb8)
            | (at_builtin; refine wpList_append_own _ rfl _ _ 25 rfl w.heap.size 9 i9 (.string ByteArray.empty) 1 16 Tryz.underlying25 gi gz0 gz1 gz2 rfl (by decide) _ m (txs (linesR B j)) rfl (HO8.out.alloc _) ⟨w8.heap.size, 0, none⟩ 1 1 [.string z] rfl rfl (cell_new _ _ _) (by simp [Value.oneCell']) (by unfold maxLen; omega) (by omega) (by have := Below.size hbw8; simp; omega) ?_))
          intro v9 w9 hown hgrow hnn
          clear hnn
          have hb9 : BW w w9 := Below.grown (BW.new hbw8 _) hgrow (by have := Below.size hbw8; simp; omega) (fun q hq => (HO8.out.lt q hq).1)
          have HO9 : Hid (w9.ownsRow w.heap.size 9 1 v9 (m + 1) (txs (linesR B (j + 1)))) := by
            show World.ownsRow _ _ _ _ _ _ _
            rw [linesR_succ, txs_snoc, HLZ.out]
            exact hown
          have HBW9 := Lib.hid hb9
          clear hown hgrow hb9
          go_wp2
          go_roundg (n - (j + 1))
          case measure => omega
          case rel => exact ⟨j + 1, m + 1, by go_num, by omega, by have := HMM.out; omega, HBW9, HO9⟩
        · obtain rfl : j = n := by omega
          go_wp2
          try rw [Exit.noGoto_ret]
          go_ret
          have hO := HO.out
          have hlast : linesR B j = linesL B := by unfold linesL; rw [← HNR.out]
          have hlen : m = (linesL B).length := by rw [← hlast, linesR_len, ← HK.out]; exact HMM.out
          rw [hlast] at hO
          exact RetL.of hlen hO HBW.out
end Go.Proofs.YtolmecnjolfjgaaGreatDoor
