/- RamPlays: whatever is stored, reserved and dropped, each answer, all bytes, tags, the log and reservations are the document's. -/
import Derived.Test.YteoemjhhjnkkiaaYf
import Derived.Test.YteoemjhhjnkkiaaYe
import Derived.Test.YteoemjhhjnkkiaaMl
import Derived.Test.YteoemjhhjnkkiaaMn
import Derived.Deep.DeepCutAuto
set_option maxRecDepth 100000
set_option linter.unusedVariables false
namespace Go.Proofs.Yteoemjhhjnkkiaa
open Go.RowKit

/-! ### Plain -/
def actM (s : Mst) (a : Ac) : Mst := if a.kind = 0 then stoM s a.hart a.w else if a.kind = 1 then resM s a.hart a.w.addr a.w.size else if a.kind = 2 then droM s a.hart else s
theorem resM_ok {s : Mst} (h : MsOk s) (t a z : Int) : MsOk (resM s t a z) := by unfold resM; split; exact ⟨h.n, h.byts, h.log⟩; exact h
theorem droM_ok {s : Mst} (h : MsOk s) (t : Int) : MsOk (droM s t) := by unfold droM; split; exact ⟨h.n, h.byts, h.log⟩; exact h
theorem actM_ok {s : Mst} (h : MsOk s) (a : Ac) (ha : Wac a) : MsOk (actM s a) := by
  unfold actM
  split
  · exact stoM_ok h _ _ ha.w.data
  · split
    · exact resM_ok h _ _ _
    · split
      · exact droM_ok h _
      · exact h
theorem actM_len (s : Mst) (a : Ac) : (actM s a).l.length ≤ s.l.length + 1 := by
  unfold actM
  split
  · exact stoM_len _ _ _
  · split
    · rw [(resM_b0 _ _ _ _).2]; omega
    · split
      · unfold droM; split <;> (show s.l.length ≤ _; omega)
      · omega
/-- The first k acts done. -/
def runP (s : Mst) (l : List Ac) (k : Nat) : Mst := (l.take k).foldl actM s
theorem runP_zero (s : Mst) (l : List Ac) : runP s l 0 = s := by simp [runP]
theorem runP_succ (s : Mst) (l : List Ac) (k : Nat) (h : k < l.length) : runP s l (k + 1) = actM (runP s l k) l[k] := by
  unfold runP
  rw [List.take_succ_eq_append_getElem h, List.foldl_append]
  rfl
theorem runP_ok {s : Mst} (h : MsOk s) {l : List Ac} (hl : Wacs l) : ∀ k, k ≤ l.length → MsOk (runP s l k)
  | 0, _ => by rw [runP_zero]; exact h
  | k + 1, hk => by
    rw [runP_succ s l k (by omega)]
    exact actM_ok (runP_ok h hl k (by omega)) _ (hl _ (List.getElem_mem (by omega)))
theorem runP_len (s : Mst) (l : List Ac) : ∀ k, k ≤ l.length → (runP s l k).l.length ≤ s.l.length + k
  | 0, _ => by rw [runP_zero]; omega
  | k + 1, h => by
    rw [runP_succ s l k (by omega)]
    have h1 := actM_len (runP s l k) l[k]
    have h2 := runP_len s l k (by omega)
    omega
/-! ### Two memories, behind W -/
structure LQ (W : World) (s s' : Mst) (p : Pla) (q : Plr) (wx : World) : Prop where
  m : RamAt s p wx
  r : RrAt s' q wx
  fm : ∀ k ∈ p.foot, W.heap.size ≤ k
  fr : ∀ k ∈ q.foot, W.heap.size ≤ k
  ap : ∀ k ∈ p.foot, k ∉ q.foot
  bw : BW W wx
theorem LQ.on {W wx wy : World} {s s' : Mst} {p : Pla} {q : Plr} (h : LQ W s s' p q wx) (k : BW wx wy) : LQ W s s' p q wy := ⟨h.m.on k, h.r.on k, h.fm, h.fr, h.ap, h.bw.on k⟩
/-- The program's memory has turned. -/
theorem LQ.ram {W wx wy : World} {s s2 s' : Mst} {p p2 : Pla} {q : Plr} (h : LQ W s s' p q wx) (hm : RamAt s2 p2 wy) (hf : ∀ k ∈ p2.foot, k ∈ p.foot ∨ wx.heap.size ≤ k) (k : Fr p.foot wx wy) : LQ W s2 s' p2 q wy := by
  have hz := Below.size h.bw
  have hl := h.r.lt
  refine ⟨hm, h.r.fr k (fun i hi hm => h.ap i hm hi), fun i hi => ?_, h.fr, fun i hi hq => ?_, h.bw.fr k h.fm⟩
  · rcases hf i hi with h1 | h1
    · exact h.fm i h1
    · omega
  · rcases hf i hi with h1 | h1
    · exact h.ap i h1 hq
    · have := hl i hq; omega
theorem LQ.rr {W wx wy : World} {s s' s2 : Mst} {p : Pla} {q q2 : Plr} (h : LQ W s s' p q wx) (hm : RrAt s2 q2 wy) (hf : ∀ k ∈ q2.foot, k ∈ q.foot ∨ wx.heap.size ≤ k) (k : Fr q.foot wx wy) : LQ W s s2 p q2 wy := by
  have hz := Below.size h.bw
  have hl := h.m.lt
  refine ⟨h.m.fr k (fun i hi hm => h.ap i hi hm), hm, h.fm, fun i hi => ?_, fun i hi hq => ?_, h.bw.fr k h.fr⟩
  · rcases hf i hi with h1 | h1
    · exact h.fr i h1
    · omega
  · rcases hf i hq with h1 | h1
    · exact h.ap i hi h1
    · have := hl i hi; omega
theorem fr_one_p {p : Pla} {w w' : World} (k : Fr [p.g] w w') : Fr p.foot w w' := ⟨k.os, k.tape, k.output, k.size, fun i hi hn => k.block i hi (fun hm => hn (by
  have e : i = p.g := by simpa using hm
  rw [e]; exact (foot_mem p).1))⟩
theorem fr_one_q {q : Plr} {w w' : World} (k : Fr [q.g] w w') : Fr q.foot w w' := ⟨k.os, k.tape, k.output, k.size, fun i hi hn => k.block i hi (fun hm => hn (by
  have e : i = q.g := by simpa using hm
  rw [e]; simp [Plr.foot]))⟩
theorem ac_at (kd t i a z d : Int) : ∀ j v, [Value.int .i64 i, .int .i64 a, .int .i64 z, .int .u64 d][j]? = some v → (#[Value.int .i64 kd, .int .i64 t, .int .i64 i, .int .i64 a, .int .i64 z, .int .u64 d])[2 + j]? = some v := by
  intro j v hv
  match j, hv with
  | 0, hv => exact hv
  | 1, hv => exact hv
  | 2, hv => exact hv
  | 3, hv => exact hv
/-- Where the place that was asked for lies. -/
def VB (a z : Int) (g : Nat) (x : World) : Prop := x.cell? ⟨g, 3, none⟩ = some (.int .i64 a) ∧ x.cell? ⟨g, 4, none⟩ = some (.int .i64 z)
theorem VB.on {a z : Int} {g : Nat} {x y : World} (h : VB a z g x) (k : BW x y) : VB a z g y := ⟨cell_on h.1 k, cell_on h.2 k⟩
theorem VB.of {kd t i a z d : Int} {ty : TypeId} {g : Nat} {x : World} (h : Blk #[.int .i64 kd, .int .i64 t, .int .i64 i, .int .i64 a, .int .i64 z, .int .u64 d] ty g x) : VB a z g x := ⟨h.cell 3, h.cell 4⟩
set_option maxHeartbeats 16000000 in
theorem plays_walk (A : Option Addr) (cap : Nat) (img : List Int) (B : Option Addr) (bap : Nat) (l : List Ac) (W : World) (hl : img.length ≤ cap) (hcap : cap ≤ 9223372036854775807) (hA : A = none → cap = 0 ∧ img = []) (hby : Byts img) (hr : Rd W W.heap.size A (cellsB img))
    (hm : l.length ≤ bap) (hbap : bap ≤ 9223372036854775807) (hws : Wacs l) (hra : Rd W W.heap.size B (cellsA l)) :
    Calls Try.prog 3 #[.slice A img.length cap, .slice B l.length bap] W fun e w' => e = .returned (.bool true) ∧ BW W w' := by
  have HAL := Lib.hid (fun w => alive12_any w)
  have hi2 : img.length ≤ 9223372036854775807 := by omega
  have hl2 : l.length ≤ 9223372036854775807 := by omega
  by_cases h2 : 1100 < img.length
  · have h2' : (1100 : Int) < (img.length : Int) := by omega
    go_enter Try.func3, Try.ntmps3
    go_wp2_with fail
    refine (HAL.out _).mono ?_
    rintro e w1 ⟨rfl, hb⟩
    have HB1 := Lib.hid hb
    clear hb
    go_wp2_with fail
    refine (HAL.out _).mono ?_
    rintro e w2 ⟨rfl, hb⟩
    go_wp2
    go_ret
    exact ⟨rfl, HB1.out.on hb⟩
  · have h2' : ¬ (1100 : Int) < (img.length : Int) := by omega
    have hok0 := newM_ok hby
    go_enter Try.func3, Try.ntmps3
    go_wp2_with fail
    refine (HAL.out _).mono ?_
    rintro e w1 ⟨rfl, hb⟩
    have HB1 := Lib.hid hb
    have hr1 := (hr.below hb).mono (Below.size hb)
    have HNEW := Lib.hid (new_c A cap img w1 hl hcap hA hr1)
    have HRA := Lib.hid hra
    have HRI := Lib.hid hr
    clear hr1 hr hra hb
    go_wp2_with fail
    refine HNEW.out.mono ?_
    rintro e w2 ⟨p, rfl, hlh⟩
    have hB2 := HB1.out.on hlh.bw
    have HRN := Lib.hid (rnew_c A cap img w2 hi2 ((HRI.out.below hB2).mono (Below.size hB2)))
    have HLH := Lib.hid hlh
    clear hlh HNEW hB2
    go_wp2_with fail
    refine HRN.out.mono ?_
    rintro e w3 ⟨q, rfl, hrr, hfq, hb3⟩
    have hlt2 := HLH.out.at'.lt
    have HLQ : Hid (LQ w1 (newM img) (newM img) p q w3) := ⟨HLH.out.at'.on hb3, hrr, HLH.out.foot, fun k hk => by have := hfq k hk; have := Below.size HLH.out.bw; omega, fun k hk hq => by have h3 := hfq k hq; have h4 := hlt2 k hk; omega, HLH.out.bw.on hb3⟩
    clear hrr hfq hb3 HLH HRN hlt2
    obtain ⟨s0, hs0⟩ : ∃ s0, s0 = newM img := ⟨_, rfl⟩
    have hls0 : s0.l.length = 0 := by rw [hs0]; rfl
    rw [← hs0] at HLQ hok0
    clear hs0
    have HOK := Lib.hid (runP_ok hok0 hws)
    have HLS := Lib.hid hls0
    clear hok0 hls0
    obtain ⟨g, hg⟩ : ∃ g, p.g = g := ⟨_, rfl⟩
    obtain ⟨gq, hgq⟩ : ∃ g, q.g = g := ⟨_, rfl⟩
    rw [hg, hgq]
    have HG := Lib.hid hg
    have HGQ := Lib.hid hgq
    clear hg hgq
    go_wp2
    go_loopw [7] (fun i wx => ∃ (k : Nat) (p : Pla) (q : Plr), k ≤ l.length ∧ k ≤ 40 ∧ i = .int .i64 (k : Int) ∧ LQ w1 (runP s0 l k) (runP s0 l k) p q wx ∧ p.g = g ∧ q.g = gq) (fun i _ => 40 - (intOf i).toNat)
    case atStart => exact ⟨0, p, q, by omega, by omega, rfl, by rw [runP_zero]; exact HLQ.out, HG.out, HGQ.out⟩
    case round =>
      obtain ⟨k, p, q, hk1, hk2, rfl, hlq, hpg, hqg⟩ := hrel
      clear HLQ HG HGQ
      have HLQ := Lib.hid hlq
      have HPG := Lib.hid hpg
      have HQG := Lib.hid hqg
      clear hlq hpg hqg
      obtain ⟨wo, rfl⟩ : ∃ wo : World, wo = wr := ⟨_, rfl⟩
      by_cases hc : k < l.length ∧ k < 40
      · obtain ⟨hc1, hc2⟩ := hc
        have hc1' : (k : Int) < (l.length : Int) := by omega
        have hc2' : (k : Int) < 40 := by omega
        have HBW := Lib.hid (HB1.out.on HLQ.out.bw)
        obtain ⟨b, off, hB, hbl, hcell⟩ := ac_cell ((HRA.out.below HBW.out).mono (Below.size HBW.out)) (by omega)
        obtain ⟨g0, g1, g2, g3, g4, g5⟩ := hcell k hc1
        have hwk := hws _ (List.getElem_mem hc1)
        have hsu := runP_succ s0 l k hc1
        have hl3 := runP_len s0 l k (by omega)
        have hok := HOK.out k (by omega)
        have hok2 := HOK.out (k + 1) (by omega)
        obtain ⟨⟨kd, t, ⟨i, a, z, d⟩⟩, hx⟩ : ∃ x, l[k] = x := ⟨_, rfl⟩
        rw [hx] at g0 g1 g2 g3 g4 g5 hwk hsu
        obtain ⟨s, hs⟩ : ∃ s, runP s0 l k = s := ⟨_, rfl⟩
        obtain ⟨s', hs'⟩ : ∃ s, runP s0 l (k + 1) = s := ⟨_, rfl⟩
        rw [hs] at HLQ hsu hl3 hok
        rw [hs'] at hsu hok2
        have hl4 : s.l.length ≤ 1000 := by have := HLS.out; omega
        have hn2 := hok.n
        have hl5' : s'.l.length ≤ 1000 := by have := HLS.out; have h9 := actM_len s ⟨kd, t, ⟨i, a, z, d⟩⟩; rw [← hsu] at h9; omega
        have ha2 : a ≤ 9223372036854775807 := hwk.w.addr.2
        have HWK := Lib.hid hwk
        have HSU := Lib.hid hsu
        have HS' := Lib.hid hs'
        have HSO := Lib.hid hok
        have HSO2 := Lib.hid hok2
        have HLV := Lib.hid (HLQ.out.on (BW.new (Below.refl _ _) (.cells #[.int .i64 kd, .int .i64 t, .int .i64 i, .int .i64 a, .int .i64 z, .int .u64 d] 33)))
        have HV := Lib.hid (Blk.new #[.int .i64 kd, .int .i64 t, .int .i64 i, .int .i64 a, .int .i64 z, .int .u64 d] 33 wo)
        have HNV : Hid (∀ x, x ∈ p.foot ∨ x ∈ q.foot → x < wo.heap.size) := fun x hx => by
          rcases hx with h | h
          · exact HLQ.out.m.lt x h
          · exact HLQ.out.r.lt x h
        subst hB
        clear hcell hx hs hs' hsu hwk hok hok2 HLQ HBW hbl
        have hmain : True := trivial
        by_cases h0 : kd = 0
        · subst h0
          have hnv : wo.heap.size ∉ p.foot := fun hm => by have := HNV.out _ (.inl hm); omega
          have hnq : wo.heap.size ∉ q.foot := fun hm => by have := HNV.out _ (.inr hm); omega
          have hst := fun (w : World) (h : RamAt s p w) => store_c h hn2 hl4 t i a z d ha2 HWK.out.w.data.1 HWK.out.w.data.2
          have hrs := fun (w : World) (h : RrAt s q w) => rstore_c h hn2 hl4 t i a z d ha2 HWK.out.w.data.1 HWK.out.w.data.2
          rw [HPG.out] at hst
          rw [HQG.out] at hrs
          have HST := Lib.hid hst
          have HRS := Lib.hid hrs
          have hsu : s' = stoM s t ⟨i, a, z, d⟩ := HSU.out
          have HSV := Lib.hid hsu
          obtain ⟨ok, hok⟩ : ∃ ok, stoOk s.n t ⟨i, a, z, d⟩ = ok := ⟨_, rfl⟩
          have HOKB := Lib.hid hok
          clear hst hrs hsu hok HSU
          go_upto_region 12 with (fail)
          have HLW := Lib.hid (HLV.out.on (Below.drew (Below.refl _ _)))
          have HS0 : Blk #[.int .i64 0, .int .i64 t, .int .i64 i, .int .i64 a, .int .i64 z, .int .u64 d] 33 wo.heap.size (World.drew _) := HV.out.drew
          refine wp_region_held (S := fun x => Blk #[.int .i64 0, .int .i64 t, .int .i64 i, .int .i64 a, .int .i64 z, .int .u64 d] 33 wo.heap.size x) (by kernel_rfl) ?_
          change wpAnyH _ _ _ _ _ _ _ _ (World.drew _)
          generalize World.drew _ = w4 at *
          clear HV HLV
          refine hk_val (i := 0) (oi := ⟨some 43, .move _, _, _, _, _⟩) (.pointer (some ⟨g, 0, none⟩)) rfl (by kernel_rfl) (by kernel_rfl) (by kernel_rfl) (fun _ _ _ h => h) (by kernel_rfl) (fun _ _ => rfl) HS0 ?_
          simp only [Act.put, List.setIfInBounds_toArray, List.set_cons_zero, List.set_cons_succ]
          refine hk_val (i := 1) (oi := ⟨some 44, .fieldAddr _ _ _, _, _, _, _⟩) (.pointer (some ⟨wo.heap.size, 1, none⟩)) rfl (by kernel_rfl) (by kernel_rfl) (by kernel_rfl) (fun _ _ _ h => h) (by kernel_rfl) (fun _ _ => by kernel_rfl) HS0 ?_
          simp only [Act.put, List.setIfInBounds_toArray, List.set_cons_zero, List.set_cons_succ]
          refine hk_val (i := 2) (oi := ⟨some 45, .load _ _, _, _, _, _⟩) (.int .i64 t) rfl (by kernel_rfl) (by kernel_rfl) (by kernel_rfl) (fun _ _ _ h => h) (by kernel_rfl) (fun x hx => ex_load rfl rfl (Blk.cell hx 1) (by kernel_rfl)) HS0 ?_
          simp only [Act.put, List.setIfInBounds_toArray, List.set_cons_zero, List.set_cons_succ]
          refine hk_val (i := 3) (oi := ⟨some 46, .fieldAddr _ _ _, _, _, _, _⟩) (.pointer (some ⟨wo.heap.size, 2, none⟩)) rfl (by kernel_rfl) (by kernel_rfl) (by kernel_rfl) (fun _ _ _ h => h) (by kernel_rfl) (fun _ _ => by kernel_rfl) HS0 ?_
          simp only [Act.put, List.setIfInBounds_toArray, List.set_cons_zero, List.set_cons_succ]
          refine hk_val (i := 4) (oi := ⟨some 47, .load _ _, _, _, _, _⟩) (.agg #[.int .i64 i, .int .i64 a, .int .i64 z, .int .u64 d]) rfl (by kernel_rfl) (by kernel_rfl) (by kernel_rfl) (fun _ _ _ h => h) (by kernel_rfl) (fun x hx => ex_load_mid [.int .i64 i, .int .i64 a, .int .i64 z, .int .u64 d] rfl rfl hx (ac_at _ _ _ _ _ _) Try.underlying31 rfl (by kernel_rfl)) HS0 ?_
          simp only [Act.put, List.setIfInBounds_toArray, List.set_cons_zero, List.set_cons_succ]
          refine hk_val (i := 6) (oi := ⟨some 49, .move _, _, _, _, _⟩) (.pointer (some ⟨gq, 0, none⟩)) rfl (by kernel_rfl) (by kernel_rfl) (by kernel_rfl) (fun _ _ _ h => h) (by kernel_rfl) (fun _ _ => rfl) HS0 ?_
          simp only [Act.put, List.setIfInBounds_toArray, List.set_cons_zero, List.set_cons_succ]
          refine hk_val (i := 7) (oi := ⟨some 50, .fieldAddr _ _ _, _, _, _, _⟩) (.pointer (some ⟨wo.heap.size, 1, none⟩)) rfl (by kernel_rfl) (by kernel_rfl) (by kernel_rfl) (fun _ _ _ h => h) (by kernel_rfl) (fun _ _ => by kernel_rfl) HS0 ?_
          simp only [Act.put, List.setIfInBounds_toArray, List.set_cons_zero, List.set_cons_succ]
          refine hk_val (i := 8) (oi := ⟨some 51, .load _ _, _, _, _, _⟩) (.int .i64 t) rfl (by kernel_rfl) (by kernel_rfl) (by kernel_rfl) (fun _ _ _ h => h) (by kernel_rfl) (fun x hx => ex_load rfl rfl (Blk.cell hx 1) (by kernel_rfl)) HS0 ?_
          simp only [Act.put, List.setIfInBounds_toArray, List.set_cons_zero, List.set_cons_succ]
          refine hk_val (i := 9) (oi := ⟨some 52, .fieldAddr _ _ _, _, _, _, _⟩) (.pointer (some ⟨wo.heap.size, 2, none⟩)) rfl (by kernel_rfl) (by kernel_rfl) (by kernel_rfl) (fun _ _ _ h => h) (by kernel_rfl) (fun _ _ => by kernel_rfl) HS0 ?_
          simp only [Act.put, List.setIfInBounds_toArray, List.set_cons_zero, List.set_cons_succ]
          refine hk_val (i := 10) (oi := ⟨some 53, .load _ _, _, _, _, _⟩) (.agg #[.int .i64 i, .int .i64 a, .int .i64 z, .int .u64 d]) rfl (by kernel_rfl) (by kernel_rfl) (by kernel_rfl) (fun _ _ _ h => h) (by kernel_rfl) (fun x hx => ex_load_mid [.int .i64 i, .int .i64 a, .int .i64 z, .int .u64 d] rfl rfl hx (ac_at _ _ _ _ _ _) Try.underlying31 rfl (by kernel_rfl)) HS0 ?_
          simp only [Act.put, List.setIfInBounds_toArray, List.set_cons_zero, List.set_cons_succ]
          refine hk_call (i := 5) (oi := ⟨some 48, .call _, _, _, _, _⟩) (by kernel_rfl) rfl (by kernel_rfl) (by first | rfl | kernel_rfl) (HST.out _ HLW.out.m) ?_
          rintro e w5 ⟨rfl, p5, hr5, hpg5, hf5, hk5⟩
          rw [HOKB.out]
          have HLX := Lib.hid (HLW.out.ram hr5 hf5 hk5)
          have HP5 : Hid (p5.g = g) := hpg5.trans HPG.out
          have HS1 := fr_keep hk5 HS0 hnv
          refine ⟨_, rfl, HS1, ?_⟩
          clear HS0 hr5 hpg5 hf5 hk5 HLW HST
          simp only [Act.put, List.setIfInBounds_toArray, List.set_cons_zero, List.set_cons_succ]
          refine hk_call (i := 11) (oi := ⟨some 54, .call _, _, _, _, _⟩) (by kernel_rfl) rfl (by kernel_rfl) (by first | rfl | kernel_rfl) (HRS.out _ HLX.out.r) ?_
          rintro e w6 ⟨rfl, q5, hr6, hqg6, hf6, hk6⟩
          rw [HOKB.out]
          have HLY := Lib.hid (HLX.out.rr hr6 hf6 hk6)
          have HQ5 : Hid (q5.g = gq) := hqg6.trans HQG.out
          have HS2 := fr_keep hk6 HS1 hnq
          refine ⟨_, rfl, HS2, ?_⟩
          clear HS1 hr6 hqg6 hf6 hk6 HLX HRS
          simp only [Act.put, List.setIfInBounds_toArray, List.set_cons_zero, List.set_cons_succ]
          refine hk_val (i := 12) (oi := ⟨some 55, .binOp _ _ _ _ _, _, _, _, _⟩) (.bool false) rfl (by kernel_rfl) (by kernel_rfl) (by kernel_rfl) (fun _ _ _ h => h) (by kernel_rfl) (fun _ _ => by cases ok <;> kernel_rfl) HS2 ?_
          simp only [Act.put, List.setIfInBounds_toArray, List.set_cons_zero, List.set_cons_succ]
          refine wpAnyH_done (by kernel_rfl) ?_ _
          rw [← HSV.out] at HLY
          have HVY := Lib.hid (VB.of HS2)
          have q3 : w6.cell? ⟨wo.heap.size, 3, none⟩ = some (.int .i64 a) := HS2.cell 3
          have q4 : w6.cell? ⟨wo.heap.size, 4, none⟩ = some (.int .i64 z) := HS2.cell 4
          clear HS2 HSV HOKB hnv hnq
          obtain ⟨w7, hw7⟩ : ∃ x, w6 = x := ⟨_, rfl⟩
          subst hw7
          go_wp2_with fail
          have hmay := fun (w : World) (h : RrAt s' q5 w) => rmay_c h HSO2.out.n a z ha2
          rw [HQ5.out] at hmay
          have hl5 : s'.l.length ≤ 1000 := hl5'
          cases hmm : mayP s'.n a z with
          | false =>
            have ha3 := ha2
            have hln := fun (w : World) (h : RamAt s' p5 w) => load_no h HSO2.out.n a z ha2 hmm
            rw [HP5.out] at hln
            rw [hmm] at hmay
            have HLN := Lib.hid hln
            have HMY := Lib.hid hmay
            clear hln hmay hmm
            refine (HLN.out _ HLY.out.m).mono ?_
            rintro e w8 ⟨rfl, hb8⟩
            have HLM := Lib.hid (HLY.out.on hb8)
            have HVM := Lib.hid (HVY.out.on hb8)
            have u3 : w8.cell? ⟨wo.heap.size, 3, none⟩ = some (.int .i64 a) := HVM.out.1
            have u4 : w8.cell? ⟨wo.heap.size, 4, none⟩ = some (.int .i64 z) := HVM.out.2
            clear HLY HVY hb8 HLN
            go_wp2_with (first
              | (go_at_call 17; refine (HMY.out _ HLM.out.r).mono ?_; rintro e w9 ⟨rfl, rfl⟩))
            clear u3 u4 HMY
            have HOKK := Lib.hid (fun (w : World) (h : Int) (hm : RamAt s' p5 w) => held_c hm HSO2.out.n h a z ha3)
            have HHAS := Lib.hid (fun (w : World) (h : Int) (hm : RrAt s' q5 w) => rhas_c hm HSO2.out.n h a z ha3)
            rw [HP5.out] at HOKK
            rw [HQ5.out] at HHAS
            go_loopw [14] (fun hh wx => ∃ h : Int, -1 ≤ h ∧ h ≤ 4 ∧ hh = .int .i64 h ∧ LQ w1 s' s' p5 q5 wx ∧ VB a z wo.heap.size wx) (fun hh _ => (4 - intOf hh).toNat)
            case atStart => exact ⟨-1, by omega, by omega, rfl, HLM.out, HVM.out⟩
            case round =>
              obtain ⟨h, hh1, hh2, rfl, hlq, hvb⟩ := hrel
              clear HLM HVM
              have HLM := Lib.hid hlq
              have HVM := Lib.hid hvb
              clear hlq hvb
              by_cases h4 : h < 4
              · go_upto_region 30 with (fail)
                have HLW := Lib.hid (HLM.out.on (Below.drew (Below.refl _ _)))
                have HS0 := VB.on HVM.out (Below.drew (Below.refl _ _))
                clear HLM HVM
                obtain ⟨ok, hok⟩ : ∃ ok, helM s' h a z = ok := ⟨_, rfl⟩
                have HC1 := Lib.hid (HOKK.out · h)
                have HC2 := Lib.hid (HHAS.out · h)
                rw [hok] at HC1 HC2
                clear hok
                refine wp_region_held (S := fun x => VB a z wo.heap.size x) (by kernel_rfl) ?_
                change wpAnyH _ _ _ _ _ _ _ _ (World.drew _)
                generalize World.drew _ = w14 at *
                refine hk_val (i := 0) (oi := ⟨some 149, .move _, _, _, _, _⟩) (.pointer (some ⟨g, 0, none⟩)) rfl (by kernel_rfl) (by kernel_rfl) (by kernel_rfl) (fun _ _ _ h => h) (by kernel_rfl) (fun _ _ => rfl) HS0 ?_
                simp only [Act.put, List.setIfInBounds_toArray, List.set_cons_zero, List.set_cons_succ]
                refine hk_val (i := 1) (oi := ⟨some 150, .move _, _, _, _, _⟩) (.int .i64 h) rfl (by kernel_rfl) (by kernel_rfl) (by kernel_rfl) (fun _ _ _ h => h) (by kernel_rfl) (fun _ _ => rfl) HS0 ?_
                simp only [Act.put, List.setIfInBounds_toArray, List.set_cons_zero, List.set_cons_succ]
                refine hk_val (i := 2) (oi := ⟨some 151, .fieldAddr _ _ _, _, _, _, _⟩) (.pointer (some ⟨wo.heap.size, 2, none⟩)) rfl (by kernel_rfl) (by kernel_rfl) (by kernel_rfl) (fun _ _ _ h => h) (by kernel_rfl) (fun _ _ => by kernel_rfl) HS0 ?_
                simp only [Act.put, List.setIfInBounds_toArray, List.set_cons_zero, List.set_cons_succ]
                refine hk_val (i := 3) (oi := ⟨some 152, .fieldAddr _ _ _, _, _, _, _⟩) (.pointer (some ⟨wo.heap.size, 3, none⟩)) rfl (by kernel_rfl) (by kernel_rfl) (by kernel_rfl) (fun _ _ _ h => h) (by kernel_rfl) (fun _ _ => by kernel_rfl) HS0 ?_
                simp only [Act.put, List.setIfInBounds_toArray, List.set_cons_zero, List.set_cons_succ]
                refine hk_val (i := 4) (oi := ⟨some 153, .load _ _, _, _, _, _⟩) (.int .i64 a) rfl (by kernel_rfl) (by kernel_rfl) (by kernel_rfl) (fun _ _ _ h => h) (by kernel_rfl) (fun x hx => ex_load rfl rfl hx.1 (by kernel_rfl)) HS0 ?_
                simp only [Act.put, List.setIfInBounds_toArray, List.set_cons_zero, List.set_cons_succ]
                refine hk_val (i := 5) (oi := ⟨some 154, .fieldAddr _ _ _, _, _, _, _⟩) (.pointer (some ⟨wo.heap.size, 2, none⟩)) rfl (by kernel_rfl) (by kernel_rfl) (by kernel_rfl) (fun _ _ _ h => h) (by kernel_rfl) (fun _ _ => by kernel_rfl) HS0 ?_
                simp only [Act.put, List.setIfInBounds_toArray, List.set_cons_zero, List.set_cons_succ]
                refine hk_val (i := 6) (oi := ⟨some 155, .fieldAddr _ _ _, _, _, _, _⟩) (.pointer (some ⟨wo.heap.size, 4, none⟩)) rfl (by kernel_rfl) (by kernel_rfl) (by kernel_rfl) (fun _ _ _ h => h) (by kernel_rfl) (fun _ _ => by kernel_rfl) HS0 ?_
                simp only [Act.put, List.setIfInBounds_toArray, List.set_cons_zero, List.set_cons_succ]
                refine hk_val (i := 7) (oi := ⟨some 156, .load _ _, _, _, _, _⟩) (.int .i64 z) rfl (by kernel_rfl) (by kernel_rfl) (by kernel_rfl) (fun _ _ _ h => h) (by kernel_rfl) (fun x hx => ex_load rfl rfl hx.2 (by kernel_rfl)) HS0 ?_
                simp only [Act.put, List.setIfInBounds_toArray, List.set_cons_zero, List.set_cons_succ]
                refine hk_val (i := 9) (oi := ⟨some 158, .move _, _, _, _, _⟩) (.pointer (some ⟨gq, 0, none⟩)) rfl (by kernel_rfl) (by kernel_rfl) (by kernel_rfl) (fun _ _ _ h => h) (by kernel_rfl) (fun _ _ => rfl) HS0 ?_
                simp only [Act.put, List.setIfInBounds_toArray, List.set_cons_zero, List.set_cons_succ]
                refine hk_val (i := 10) (oi := ⟨some 159, .move _, _, _, _, _⟩) (.int .i64 h) rfl (by kernel_rfl) (by kernel_rfl) (by kernel_rfl) (fun _ _ _ h => h) (by kernel_rfl) (fun _ _ => rfl) HS0 ?_
                simp only [Act.put, List.setIfInBounds_toArray, List.set_cons_zero, List.set_cons_succ]
                refine hk_val (i := 11) (oi := ⟨some 160, .fieldAddr _ _ _, _, _, _, _⟩) (.pointer (some ⟨wo.heap.size, 2, none⟩)) rfl (by kernel_rfl) (by kernel_rfl) (by kernel_rfl) (fun _ _ _ h => h) (by kernel_rfl) (fun _ _ => by kernel_rfl) HS0 ?_
                simp only [Act.put, List.setIfInBounds_toArray, List.set_cons_zero, List.set_cons_succ]
                refine hk_val (i := 12) (oi := ⟨some 161, .fieldAddr _ _ _, _, _, _, _⟩) (.pointer (some ⟨wo.heap.size, 3, none⟩)) rfl (by kernel_rfl) (by kernel_rfl) (by kernel_rfl) (fun _ _ _ h => h) (by kernel_rfl) (fun _ _ => by kernel_rfl) HS0 ?_
                simp only [Act.put, List.setIfInBounds_toArray, List.set_cons_zero, List.set_cons_succ]
                refine hk_val (i := 13) (oi := ⟨some 162, .load _ _, _, _, _, _⟩) (.int .i64 a) rfl (by kernel_rfl) (by kernel_rfl) (by kernel_rfl) (fun _ _ _ h => h) (by kernel_rfl) (fun x hx => ex_load rfl rfl hx.1 (by kernel_rfl)) HS0 ?_
                simp only [Act.put, List.setIfInBounds_toArray, List.set_cons_zero, List.set_cons_succ]
                refine hk_val (i := 14) (oi := ⟨some 163, .fieldAddr _ _ _, _, _, _, _⟩) (.pointer (some ⟨wo.heap.size, 2, none⟩)) rfl (by kernel_rfl) (by kernel_rfl) (by kernel_rfl) (fun _ _ _ h => h) (by kernel_rfl) (fun _ _ => by kernel_rfl) HS0 ?_
                simp only [Act.put, List.setIfInBounds_toArray, List.set_cons_zero, List.set_cons_succ]
                refine hk_val (i := 15) (oi := ⟨some 164, .fieldAddr _ _ _, _, _, _, _⟩) (.pointer (some ⟨wo.heap.size, 4, none⟩)) rfl (by kernel_rfl) (by kernel_rfl) (by kernel_rfl) (fun _ _ _ h => h) (by kernel_rfl) (fun _ _ => by kernel_rfl) HS0 ?_
                simp only [Act.put, List.setIfInBounds_toArray, List.set_cons_zero, List.set_cons_succ]
                refine hk_val (i := 16) (oi := ⟨some 165, .load _ _, _, _, _, _⟩) (.int .i64 z) rfl (by kernel_rfl) (by kernel_rfl) (by kernel_rfl) (fun _ _ _ h => h) (by kernel_rfl) (fun x hx => ex_load rfl rfl hx.2 (by kernel_rfl)) HS0 ?_
                simp only [Act.put, List.setIfInBounds_toArray, List.set_cons_zero, List.set_cons_succ]
                refine hk_call (i := 8) (oi := ⟨some 157, .call _, _, _, _, _⟩) (by kernel_rfl) rfl (by kernel_rfl) (by first | rfl | kernel_rfl) (HC1.out _ HLW.out.m) ?_
                rintro e w15 ⟨rfl, hb15⟩
                have HLX := Lib.hid (HLW.out.on hb15)
                have HS1 := HS0.on hb15
                refine ⟨_, rfl, HS1, ?_⟩
                clear HS0 hb15 HLW HC1
                simp only [Act.put, List.setIfInBounds_toArray, List.set_cons_zero, List.set_cons_succ]
                refine hk_call (i := 17) (oi := ⟨some 166, .call _, _, _, _, _⟩) (by kernel_rfl) rfl (by kernel_rfl) (by first | rfl | kernel_rfl) (HC2.out _ HLX.out.r) ?_
                rintro e w16 ⟨rfl, rfl⟩
                refine ⟨_, rfl, HS1, ?_⟩
                simp only [Act.put, List.setIfInBounds_toArray, List.set_cons_zero, List.set_cons_succ]
                refine hk_val (i := 18) (oi := ⟨some 167, .binOp _ _ _ _ _, _, _, _, _⟩) (.bool false) rfl (by kernel_rfl) (by kernel_rfl) (by kernel_rfl) (fun _ _ _ h => h) (by kernel_rfl) (fun _ _ => by cases ok <;> kernel_rfl) HS1 ?_
                simp only [Act.put, List.setIfInBounds_toArray, List.set_cons_zero, List.set_cons_succ]
                refine wpAnyH_done (by kernel_rfl) ?_ _
                go_wp2
                go_roundw
                case rel => exact ⟨h + 1, by omega, by omega, rfl, HLX.out, HS1⟩
                case measure => simp [intOf]; omega
              · go_wp2
                go_roundw
                case rel => exact ⟨k + 1, p5, q5, by omega, by omega, by go_num, by rw [HS'.out]; exact HLM.out, HP5.out, HQ5.out⟩
                case measure => simp [intOf]; omega
          | true =>
            have hmo := mayP_out hmm
            obtain ⟨A2, rfl⟩ : ∃ k : Nat, a = (k : Int) := ⟨a.toNat, by omega⟩
            obtain ⟨Z2, rfl⟩ : ∃ k : Nat, z = (k : Int) := ⟨z.toNat, by omega⟩
            have ha3 := ha2
            have haz : A2 + Z2 ≤ s'.b0.length := by have := hmo.2.2.2; unfold Mst.n at this; omega
            have hz8 : Z2 ≤ 8 := by omega
            have hly := fun (w : World) (h : RamAt s' p5 w) => load_yes h HSO2.out.n HSO2.out.byts A2 Z2 hmm
            have hrl := fun (w : World) (h : RrAt s' q5 w) => rload_c h HSO2.out hl5 A2 Z2 hz8 haz
            rw [HP5.out] at hly
            rw [HQ5.out] at hrl
            rw [hmm] at hmay
            have HLN := Lib.hid hly
            have HRL := Lib.hid hrl
            have HMY := Lib.hid hmay
            have HTP := Lib.hid (tagsP_len s' A2 Z2 haz)
            clear hly hrl hmay hmm hmo haz
            refine (HLN.out _ HLY.out.m).mono ?_
            rintro e w8 ⟨v8, rfl, ho8, hb8⟩
            rw [HTP.out] at ho8
            obtain ⟨A8, c8, rfl, -⟩ := own_parts ho8
            have HR8 := Lib.hid (Rd.of_row ho8)
            have HLM8 := Lib.hid (HLY.out.on hb8)
            have HVM8 := Lib.hid (HVY.out.on hb8)
            have u3 : w8.cell? ⟨wo.heap.size, 3, none⟩ = some (.int .i64 (A2 : Int)) := HVM8.out.1
            have u4 : w8.cell? ⟨wo.heap.size, 4, none⟩ = some (.int .i64 (Z2 : Int)) := HVM8.out.2
            clear HLY HVY hb8 HLN ho8
            obtain ⟨X, hX⟩ : ∃ X, ofB (bytesP s' A2 Z2) = X := ⟨_, rfl⟩
            rw [hX] at HRL ⊢
            clear hX
            have hxx : (X != X) = false := by simp
            go_wp2_with (first
              | (go_at_call 17; refine (HMY.out _ HLM8.out.r).mono ?_; rintro e w9 ⟨rfl, rfl⟩))
            refine (HRL.out _ HLM8.out.r).mono ?_
            rintro e w9 ⟨v9, rfl, ho9, hb9⟩
            rw [HTP.out] at ho9
            obtain ⟨A9, c9, rfl, -⟩ := own_parts ho9
            have HR9 := Lib.hid (Rd.of_row ho9)
            have HR89 := Lib.hid ((HR8.out.below hb9).mono (Below.size hb9))
            have HLM9 := Lib.hid (HLM8.out.on hb9)
            have HVM9 := Lib.hid (HVM8.out.on hb9)
            clear HLM8 HVM8 HR8 ho9 hb9 u3 u4 HMY HRL
            go_wp2_with fail
            refine (sameI_eq A8 A9 c8 c9 (tagsP s' A2 Z2) Z2 _ HTP.out (by omega) HR89.out HR9.out).mono ?_
            rintro e w10 ⟨rfl, hb10⟩
            have HLM := Lib.hid (HLM9.out.on hb10)
            have HVM := Lib.hid (HVM9.out.on hb10)
            clear HLM9 HVM9 HR89 HR9 hb10 hxx
            go_wp2
            have HOKK := Lib.hid (fun (w : World) (h : Int) (hm : RamAt s' p5 w) => held_c hm HSO2.out.n h (A2 : Int) (Z2 : Int) ha3)
            have HHAS := Lib.hid (fun (w : World) (h : Int) (hm : RrAt s' q5 w) => rhas_c hm HSO2.out.n h (A2 : Int) (Z2 : Int) ha3)
            rw [HP5.out] at HOKK
            rw [HQ5.out] at HHAS
            go_loopw [14] (fun hh wx => ∃ h : Int, -1 ≤ h ∧ h ≤ 4 ∧ hh = .int .i64 h ∧ LQ w1 s' s' p5 q5 wx ∧ VB (A2 : Int) (Z2 : Int) wo.heap.size wx) (fun hh _ => (4 - intOf hh).toNat)
            case atStart => exact ⟨-1, by omega, by omega, rfl, HLM.out, HVM.out⟩
            case round =>
              obtain ⟨h, hh1, hh2, rfl, hlq, hvb⟩ := hrel
              clear HLM HVM
              have HLM := Lib.hid hlq
              have HVM := Lib.hid hvb
              clear hlq hvb
              by_cases h4 : h < 4
              · go_upto_region 30 with (fail)
                have HLW := Lib.hid (HLM.out.on (Below.drew (Below.refl _ _)))
                have HS0 := VB.on HVM.out (Below.drew (Below.refl _ _))
                clear HLM HVM
                obtain ⟨ok, hok⟩ : ∃ ok, helM s' h (A2 : Int) (Z2 : Int) = ok := ⟨_, rfl⟩
                have HC1 := Lib.hid (HOKK.out · h)
                have HC2 := Lib.hid (HHAS.out · h)
                rw [hok] at HC1 HC2
                clear hok
                refine wp_region_held (S := fun x => VB (A2 : Int) (Z2 : Int) wo.heap.size x) (by kernel_rfl) ?_
                change wpAnyH _ _ _ _ _ _ _ _ (World.drew _)
                generalize World.drew _ = w14 at *
                refine hk_val (i := 0) (oi := ⟨some 149, .move _, _, _, _, _⟩) (.pointer (some ⟨g, 0, none⟩)) rfl (by kernel_rfl) (by kernel_rfl) (by kernel_rfl) (fun _ _ _ h => h) (by kernel_rfl) (fun _ _ => rfl) HS0 ?_
                simp only [Act.put, List.setIfInBounds_toArray, List.set_cons_zero, List.set_cons_succ]
                refine hk_val (i := 1) (oi := ⟨some 150, .move _, _, _, _, _⟩) (.int .i64 h) rfl (by kernel_rfl) (by kernel_rfl) (by kernel_rfl) (fun _ _ _ h => h) (by kernel_rfl) (fun _ _ => rfl) HS0 ?_
                simp only [Act.put, List.setIfInBounds_toArray, List.set_cons_zero, List.set_cons_succ]
                refine hk_val (i := 2) (oi := ⟨some 151, .fieldAddr _ _ _, _, _, _, _⟩) (.pointer (some ⟨wo.heap.size, 2, none⟩)) rfl (by kernel_rfl) (by kernel_rfl) (by kernel_rfl) (fun _ _ _ h => h) (by kernel_rfl) (fun _ _ => by kernel_rfl) HS0 ?_
                simp only [Act.put, List.setIfInBounds_toArray, List.set_cons_zero, List.set_cons_succ]
                refine hk_val (i := 3) (oi := ⟨some 152, .fieldAddr _ _ _, _, _, _, _⟩) (.pointer (some ⟨wo.heap.size, 3, none⟩)) rfl (by kernel_rfl) (by kernel_rfl) (by kernel_rfl) (fun _ _ _ h => h) (by kernel_rfl) (fun _ _ => by kernel_rfl) HS0 ?_
                simp only [Act.put, List.setIfInBounds_toArray, List.set_cons_zero, List.set_cons_succ]
                refine hk_val (i := 4) (oi := ⟨some 153, .load _ _, _, _, _, _⟩) (.int .i64 (A2 : Int)) rfl (by kernel_rfl) (by kernel_rfl) (by kernel_rfl) (fun _ _ _ h => h) (by kernel_rfl) (fun x hx => ex_load rfl rfl hx.1 (by kernel_rfl)) HS0 ?_
                simp only [Act.put, List.setIfInBounds_toArray, List.set_cons_zero, List.set_cons_succ]
                refine hk_val (i := 5) (oi := ⟨some 154, .fieldAddr _ _ _, _, _, _, _⟩) (.pointer (some ⟨wo.heap.size, 2, none⟩)) rfl (by kernel_rfl) (by kernel_rfl) (by kernel_rfl) (fun _ _ _ h => h) (by kernel_rfl) (fun _ _ => by kernel_rfl) HS0 ?_
                simp only [Act.put, List.setIfInBounds_toArray, List.set_cons_zero, List.set_cons_succ]
                refine hk_val (i := 6) (oi := ⟨some 155, .fieldAddr _ _ _, _, _, _, _⟩) (.pointer (some ⟨wo.heap.size, 4, none⟩)) rfl (by kernel_rfl) (by kernel_rfl) (by kernel_rfl) (fun _ _ _ h => h) (by kernel_rfl) (fun _ _ => by kernel_rfl) HS0 ?_
                simp only [Act.put, List.setIfInBounds_toArray, List.set_cons_zero, List.set_cons_succ]
                refine hk_val (i := 7) (oi := ⟨some 156, .load _ _, _, _, _, _⟩) (.int .i64 (Z2 : Int)) rfl (by kernel_rfl) (by kernel_rfl) (by kernel_rfl) (fun _ _ _ h => h) (by kernel_rfl) (fun x hx => ex_load rfl rfl hx.2 (by kernel_rfl)) HS0 ?_
                simp only [Act.put, List.setIfInBounds_toArray, List.set_cons_zero, List.set_cons_succ]
                refine hk_val (i := 9) (oi := ⟨some 158, .move _, _, _, _, _⟩) (.pointer (some ⟨gq, 0, none⟩)) rfl (by kernel_rfl) (by kernel_rfl) (by kernel_rfl) (fun _ _ _ h => h) (by kernel_rfl) (fun _ _ => rfl) HS0 ?_
                simp only [Act.put, List.setIfInBounds_toArray, List.set_cons_zero, List.set_cons_succ]
                refine hk_val (i := 10) (oi := ⟨some 159, .move _, _, _, _, _⟩) (.int .i64 h) rfl (by kernel_rfl) (by kernel_rfl) (by kernel_rfl) (fun _ _ _ h => h) (by kernel_rfl) (fun _ _ => rfl) HS0 ?_
                simp only [Act.put, List.setIfInBounds_toArray, List.set_cons_zero, List.set_cons_succ]
                refine hk_val (i := 11) (oi := ⟨some 160, .fieldAddr _ _ _, _, _, _, _⟩) (.pointer (some ⟨wo.heap.size, 2, none⟩)) rfl (by kernel_rfl) (by kernel_rfl) (by kernel_rfl) (fun _ _ _ h => h) (by kernel_rfl) (fun _ _ => by kernel_rfl) HS0 ?_
                simp only [Act.put, List.setIfInBounds_toArray, List.set_cons_zero, List.set_cons_succ]
                refine hk_val (i := 12) (oi := ⟨some 161, .fieldAddr _ _ _, _, _, _, _⟩) (.pointer (some ⟨wo.heap.size, 3, none⟩)) rfl (by kernel_rfl) (by kernel_rfl) (by kernel_rfl) (fun _ _ _ h => h) (by kernel_rfl) (fun _ _ => by kernel_rfl) HS0 ?_
                simp only [Act.put, List.setIfInBounds_toArray, List.set_cons_zero, List.set_cons_succ]
                refine hk_val (i := 13) (oi := ⟨some 162, .load _ _, _, _, _, _⟩) (.int .i64 (A2 : Int)) rfl (by kernel_rfl) (by kernel_rfl) (by kernel_rfl) (fun _ _ _ h => h) (by kernel_rfl) (fun x hx => ex_load rfl rfl hx.1 (by kernel_rfl)) HS0 ?_
                simp only [Act.put, List.setIfInBounds_toArray, List.set_cons_zero, List.set_cons_succ]
                refine hk_val (i := 14) (oi := ⟨some 163, .fieldAddr _ _ _, _, _, _, _⟩) (.pointer (some ⟨wo.heap.size, 2, none⟩)) rfl (by kernel_rfl) (by kernel_rfl) (by kernel_rfl) (fun _ _ _ h => h) (by kernel_rfl) (fun _ _ => by kernel_rfl) HS0 ?_
                simp only [Act.put, List.setIfInBounds_toArray, List.set_cons_zero, List.set_cons_succ]
                refine hk_val (i := 15) (oi := ⟨some 164, .fieldAddr _ _ _, _, _, _, _⟩) (.pointer (some ⟨wo.heap.size, 4, none⟩)) rfl (by kernel_rfl) (by kernel_rfl) (by kernel_rfl) (fun _ _ _ h => h) (by kernel_rfl) (fun _ _ => by kernel_rfl) HS0 ?_
                simp only [Act.put, List.setIfInBounds_toArray, List.set_cons_zero, List.set_cons_succ]
                refine hk_val (i := 16) (oi := ⟨some 165, .load _ _, _, _, _, _⟩) (.int .i64 (Z2 : Int)) rfl (by kernel_rfl) (by kernel_rfl) (by kernel_rfl) (fun _ _ _ h => h) (by kernel_rfl) (fun x hx => ex_load rfl rfl hx.2 (by kernel_rfl)) HS0 ?_
                simp only [Act.put, List.setIfInBounds_toArray, List.set_cons_zero, List.set_cons_succ]
                refine hk_call (i := 8) (oi := ⟨some 157, .call _, _, _, _, _⟩) (by kernel_rfl) rfl (by kernel_rfl) (by first | rfl | kernel_rfl) (HC1.out _ HLW.out.m) ?_
                rintro e w15 ⟨rfl, hb15⟩
                have HLX := Lib.hid (HLW.out.on hb15)
                have HS1 := HS0.on hb15
                refine ⟨_, rfl, HS1, ?_⟩
                clear HS0 hb15 HLW HC1
                simp only [Act.put, List.setIfInBounds_toArray, List.set_cons_zero, List.set_cons_succ]
                refine hk_call (i := 17) (oi := ⟨some 166, .call _, _, _, _, _⟩) (by kernel_rfl) rfl (by kernel_rfl) (by first | rfl | kernel_rfl) (HC2.out _ HLX.out.r) ?_
                rintro e w16 ⟨rfl, rfl⟩
                refine ⟨_, rfl, HS1, ?_⟩
                simp only [Act.put, List.setIfInBounds_toArray, List.set_cons_zero, List.set_cons_succ]
                refine hk_val (i := 18) (oi := ⟨some 167, .binOp _ _ _ _ _, _, _, _, _⟩) (.bool false) rfl (by kernel_rfl) (by kernel_rfl) (by kernel_rfl) (fun _ _ _ h => h) (by kernel_rfl) (fun _ _ => by cases ok <;> kernel_rfl) HS1 ?_
                simp only [Act.put, List.setIfInBounds_toArray, List.set_cons_zero, List.set_cons_succ]
                refine wpAnyH_done (by kernel_rfl) ?_ _
                go_wp2
                go_roundw
                case rel => exact ⟨h + 1, by omega, by omega, rfl, HLX.out, HS1⟩
                case measure => simp [intOf]; omega
              · go_wp2
                go_roundw
                case rel => exact ⟨k + 1, p5, q5, by omega, by omega, by go_num, by rw [HS'.out]; exact HLM.out, HP5.out, HQ5.out⟩
                case measure => simp [intOf]; omega
        · by_cases h1 : kd = 1
          · subst h1
            have hnv : wo.heap.size ∉ p.foot := fun hm => by have := HNV.out _ (.inl hm); omega
            have hnq : wo.heap.size ∉ q.foot := fun hm => by have := HNV.out _ (.inr hm); omega
            have hst := fun (w : World) (h : RamAt s p w) => reserve_c h hn2 t a z ha2
            have hrs := fun (w : World) (h : RrAt s q w) => rreserve_c h hn2 t a z ha2
            rw [HPG.out] at hst
            rw [HQG.out] at hrs
            have HST := Lib.hid hst
            have HRS := Lib.hid hrs
            have hsu : s' = resM s t a z := HSU.out
            have HSV := Lib.hid hsu
            obtain ⟨ok, hok⟩ : ∃ ok, (mayP s.n a z && isHt t) = ok := ⟨_, rfl⟩
            have HOKB := Lib.hid hok
            clear hst hrs hsu hok HSU
            go_upto_region 15 with (fail)
            have HLW := Lib.hid (HLV.out.on (Below.drew (Below.refl _ _)))
            have HS0 : Blk #[.int .i64 1, .int .i64 t, .int .i64 i, .int .i64 a, .int .i64 z, .int .u64 d] 33 wo.heap.size (World.drew _) := HV.out.drew
            refine wp_region_held (S := fun x => Blk #[.int .i64 1, .int .i64 t, .int .i64 i, .int .i64 a, .int .i64 z, .int .u64 d] 33 wo.heap.size x) (by kernel_rfl) ?_
            change wpAnyH _ _ _ _ _ _ _ _ (World.drew _)
            generalize World.drew _ = w4 at *
            clear HV HLV
            refine hk_val (i := 0) (oi := ⟨some 58, .move _, _, _, _, _⟩) (.pointer (some ⟨g, 0, none⟩)) rfl (by kernel_rfl) (by kernel_rfl) (by kernel_rfl) (fun _ _ _ h => h) (by kernel_rfl) (fun _ _ => rfl) HS0 ?_
            simp only [Act.put, List.setIfInBounds_toArray, List.set_cons_zero, List.set_cons_succ]
            refine hk_val (i := 1) (oi := ⟨some 59, .fieldAddr _ _ _, _, _, _, _⟩) (.pointer (some ⟨wo.heap.size, 1, none⟩)) rfl (by kernel_rfl) (by kernel_rfl) (by kernel_rfl) (fun _ _ _ h => h) (by kernel_rfl) (fun _ _ => by kernel_rfl) HS0 ?_
            simp only [Act.put, List.setIfInBounds_toArray, List.set_cons_zero, List.set_cons_succ]
            refine hk_val (i := 2) (oi := ⟨some 60, .load _ _, _, _, _, _⟩) (.int .i64 t) rfl (by kernel_rfl) (by kernel_rfl) (by kernel_rfl) (fun _ _ _ h => h) (by kernel_rfl) (fun x hx => ex_load rfl rfl (Blk.cell hx 1) (by kernel_rfl)) HS0 ?_
            simp only [Act.put, List.setIfInBounds_toArray, List.set_cons_zero, List.set_cons_succ]
            refine hk_val (i := 3) (oi := ⟨some 61, .fieldAddr _ _ _, _, _, _, _⟩) (.pointer (some ⟨wo.heap.size, 2, none⟩)) rfl (by kernel_rfl) (by kernel_rfl) (by kernel_rfl) (fun _ _ _ h => h) (by kernel_rfl) (fun _ _ => by kernel_rfl) HS0 ?_
            simp only [Act.put, List.setIfInBounds_toArray, List.set_cons_zero, List.set_cons_succ]
            refine hk_val (i := 4) (oi := ⟨some 62, .fieldAddr _ _ _, _, _, _, _⟩) (.pointer (some ⟨wo.heap.size, 3, none⟩)) rfl (by kernel_rfl) (by kernel_rfl) (by kernel_rfl) (fun _ _ _ h => h) (by kernel_rfl) (fun _ _ => by kernel_rfl) HS0 ?_
            simp only [Act.put, List.setIfInBounds_toArray, List.set_cons_zero, List.set_cons_succ]
            refine hk_val (i := 5) (oi := ⟨some 63, .load _ _, _, _, _, _⟩) (.int .i64 a) rfl (by kernel_rfl) (by kernel_rfl) (by kernel_rfl) (fun _ _ _ h => h) (by kernel_rfl) (fun x hx => ex_load rfl rfl (Blk.cell hx 3) (by kernel_rfl)) HS0 ?_
            simp only [Act.put, List.setIfInBounds_toArray, List.set_cons_zero, List.set_cons_succ]
            refine hk_val (i := 6) (oi := ⟨some 64, .fieldAddr _ _ _, _, _, _, _⟩) (.pointer (some ⟨wo.heap.size, 2, none⟩)) rfl (by kernel_rfl) (by kernel_rfl) (by kernel_rfl) (fun _ _ _ h => h) (by kernel_rfl) (fun _ _ => by kernel_rfl) HS0 ?_
            simp only [Act.put, List.setIfInBounds_toArray, List.set_cons_zero, List.set_cons_succ]
            refine hk_val (i := 7) (oi := ⟨some 65, .fieldAddr _ _ _, _, _, _, _⟩) (.pointer (some ⟨wo.heap.size, 4, none⟩)) rfl (by kernel_rfl) (by kernel_rfl) (by kernel_rfl) (fun _ _ _ h => h) (by kernel_rfl) (fun _ _ => by kernel_rfl) HS0 ?_
            simp only [Act.put, List.setIfInBounds_toArray, List.set_cons_zero, List.set_cons_succ]
            refine hk_val (i := 8) (oi := ⟨some 66, .load _ _, _, _, _, _⟩) (.int .i64 z) rfl (by kernel_rfl) (by kernel_rfl) (by kernel_rfl) (fun _ _ _ h => h) (by kernel_rfl) (fun x hx => ex_load rfl rfl (Blk.cell hx 4) (by kernel_rfl)) HS0 ?_
            simp only [Act.put, List.setIfInBounds_toArray, List.set_cons_zero, List.set_cons_succ]
            refine hk_val (i := 10) (oi := ⟨some 68, .move _, _, _, _, _⟩) (.pointer (some ⟨gq, 0, none⟩)) rfl (by kernel_rfl) (by kernel_rfl) (by kernel_rfl) (fun _ _ _ h => h) (by kernel_rfl) (fun _ _ => rfl) HS0 ?_
            simp only [Act.put, List.setIfInBounds_toArray, List.set_cons_zero, List.set_cons_succ]
            refine hk_val (i := 11) (oi := ⟨some 69, .fieldAddr _ _ _, _, _, _, _⟩) (.pointer (some ⟨wo.heap.size, 1, none⟩)) rfl (by kernel_rfl) (by kernel_rfl) (by kernel_rfl) (fun _ _ _ h => h) (by kernel_rfl) (fun _ _ => by kernel_rfl) HS0 ?_
            simp only [Act.put, List.setIfInBounds_toArray, List.set_cons_zero, List.set_cons_succ]
            refine hk_val (i := 12) (oi := ⟨some 70, .load _ _, _, _, _, _⟩) (.int .i64 t) rfl (by kernel_rfl) (by kernel_rfl) (by kernel_rfl) (fun _ _ _ h => h) (by kernel_rfl) (fun x hx => ex_load rfl rfl (Blk.cell hx 1) (by kernel_rfl)) HS0 ?_
            simp only [Act.put, List.setIfInBounds_toArray, List.set_cons_zero, List.set_cons_succ]
            refine hk_val (i := 13) (oi := ⟨some 71, .fieldAddr _ _ _, _, _, _, _⟩) (.pointer (some ⟨wo.heap.size, 2, none⟩)) rfl (by kernel_rfl) (by kernel_rfl) (by kernel_rfl) (fun _ _ _ h => h) (by kernel_rfl) (fun _ _ => by kernel_rfl) HS0 ?_
            simp only [Act.put, List.setIfInBounds_toArray, List.set_cons_zero, List.set_cons_succ]
            refine hk_val (i := 14) (oi := ⟨some 72, .fieldAddr _ _ _, _, _, _, _⟩) (.pointer (some ⟨wo.heap.size, 3, none⟩)) rfl (by kernel_rfl) (by kernel_rfl) (by kernel_rfl) (fun _ _ _ h => h) (by kernel_rfl) (fun _ _ => by kernel_rfl) HS0 ?_
            simp only [Act.put, List.setIfInBounds_toArray, List.set_cons_zero, List.set_cons_succ]
            refine hk_val (i := 15) (oi := ⟨some 73, .load _ _, _, _, _, _⟩) (.int .i64 a) rfl (by kernel_rfl) (by kernel_rfl) (by kernel_rfl) (fun _ _ _ h => h) (by kernel_rfl) (fun x hx => ex_load rfl rfl (Blk.cell hx 3) (by kernel_rfl)) HS0 ?_
            simp only [Act.put, List.setIfInBounds_toArray, List.set_cons_zero, List.set_cons_succ]
            refine hk_val (i := 16) (oi := ⟨some 74, .fieldAddr _ _ _, _, _, _, _⟩) (.pointer (some ⟨wo.heap.size, 2, none⟩)) rfl (by kernel_rfl) (by kernel_rfl) (by kernel_rfl) (fun _ _ _ h => h) (by kernel_rfl) (fun _ _ => by kernel_rfl) HS0 ?_
            simp only [Act.put, List.setIfInBounds_toArray, List.set_cons_zero, List.set_cons_succ]
            refine hk_val (i := 17) (oi := ⟨some 75, .fieldAddr _ _ _, _, _, _, _⟩) (.pointer (some ⟨wo.heap.size, 4, none⟩)) rfl (by kernel_rfl) (by kernel_rfl) (by kernel_rfl) (fun _ _ _ h => h) (by kernel_rfl) (fun _ _ => by kernel_rfl) HS0 ?_
            simp only [Act.put, List.setIfInBounds_toArray, List.set_cons_zero, List.set_cons_succ]
            refine hk_val (i := 18) (oi := ⟨some 76, .load _ _, _, _, _, _⟩) (.int .i64 z) rfl (by kernel_rfl) (by kernel_rfl) (by kernel_rfl) (fun _ _ _ h => h) (by kernel_rfl) (fun x hx => ex_load rfl rfl (Blk.cell hx 4) (by kernel_rfl)) HS0 ?_
            simp only [Act.put, List.setIfInBounds_toArray, List.set_cons_zero, List.set_cons_succ]
            refine hk_call (i := 9) (oi := ⟨some 67, .call _, _, _, _, _⟩) (by kernel_rfl) rfl (by kernel_rfl) (by first | rfl | kernel_rfl) (HST.out _ HLW.out.m) ?_
            rintro e w5 ⟨rfl, hr5, hk5⟩
            rw [HOKB.out]
            have HLX := Lib.hid (HLW.out.ram (p2 := p) (by rw [← HPG.out] at hk5; exact hr5) (fun _ h => .inl h) (fr_one_p (by rw [HPG.out]; exact hk5)))
            have HS1 := fr_keep (fr_one_p (p := p) (by rw [HPG.out]; exact hk5)) HS0 hnv
            refine ⟨_, rfl, HS1, ?_⟩
            clear HS0 hr5 hk5 HLW HST
            simp only [Act.put, List.setIfInBounds_toArray, List.set_cons_zero, List.set_cons_succ]
            refine hk_call (i := 19) (oi := ⟨some 77, .call _, _, _, _, _⟩) (by kernel_rfl) rfl (by kernel_rfl) (by first | rfl | kernel_rfl) (HRS.out _ HLX.out.r) ?_
            rintro e w6 ⟨rfl, hr6, hk6⟩
            rw [HOKB.out]
            have HLY := Lib.hid (HLX.out.rr (q2 := q) hr6 (fun _ h => .inl h) (fr_one_q (by rw [HQG.out]; exact hk6)))
            have HS2 := fr_keep (fr_one_q (q := q) (by rw [HQG.out]; exact hk6)) HS1 hnq
            refine ⟨_, rfl, HS2, ?_⟩
            clear HS1 hr6 hk6 HLX HRS
            simp only [Act.put, List.setIfInBounds_toArray, List.set_cons_zero, List.set_cons_succ]
            refine hk_val (i := 20) (oi := ⟨some 78, .binOp _ _ _ _ _, _, _, _, _⟩) (.bool false) rfl (by kernel_rfl) (by kernel_rfl) (by kernel_rfl) (fun _ _ _ h => h) (by kernel_rfl) (fun _ _ => by cases ok <;> kernel_rfl) HS2 ?_
            simp only [Act.put, List.setIfInBounds_toArray, List.set_cons_zero, List.set_cons_succ]
            refine wpAnyH_done (by kernel_rfl) ?_ _
            rw [← HSV.out] at HLY
            have HVY := Lib.hid (VB.of HS2)
            have q3 : w6.cell? ⟨wo.heap.size, 3, none⟩ = some (.int .i64 a) := HS2.cell 3
            have q4 : w6.cell? ⟨wo.heap.size, 4, none⟩ = some (.int .i64 z) := HS2.cell 4
            clear HS2 HSV HOKB hnv hnq
            have HP5 := HPG
            have HQ5 := HQG
            obtain ⟨p5, rfl⟩ : ∃ x, x = p := ⟨_, rfl⟩
            obtain ⟨q5, rfl⟩ : ∃ x, x = q := ⟨_, rfl⟩
            go_wp2_with fail
            have hmay := fun (w : World) (h : RrAt s' q5 w) => rmay_c h HSO2.out.n a z ha2
            rw [HQ5.out] at hmay
            have hl5 : s'.l.length ≤ 1000 := hl5'
            cases hmm : mayP s'.n a z with
            | false =>
              have ha3 := ha2
              have hln := fun (w : World) (h : RamAt s' p5 w) => load_no h HSO2.out.n a z ha2 hmm
              rw [HP5.out] at hln
              rw [hmm] at hmay
              have HLN := Lib.hid hln
              have HMY := Lib.hid hmay
              clear hln hmay hmm
              refine (HLN.out _ HLY.out.m).mono ?_
              rintro e w8 ⟨rfl, hb8⟩
              have HLM := Lib.hid (HLY.out.on hb8)
              have HVM := Lib.hid (HVY.out.on hb8)
              have u3 : w8.cell? ⟨wo.heap.size, 3, none⟩ = some (.int .i64 a) := HVM.out.1
              have u4 : w8.cell? ⟨wo.heap.size, 4, none⟩ = some (.int .i64 z) := HVM.out.2
              clear HLY HVY hb8 HLN
              go_wp2_with (first
                | (go_at_call 17; refine (HMY.out _ HLM.out.r).mono ?_; rintro e w9 ⟨rfl, rfl⟩))
              clear u3 u4 HMY
              have HOKK := Lib.hid (fun (w : World) (h : Int) (hm : RamAt s' p5 w) => held_c hm HSO2.out.n h a z ha3)
              have HHAS := Lib.hid (fun (w : World) (h : Int) (hm : RrAt s' q5 w) => rhas_c hm HSO2.out.n h a z ha3)
              rw [HP5.out] at HOKK
              rw [HQ5.out] at HHAS
              go_loopw [14] (fun hh wx => ∃ h : Int, -1 ≤ h ∧ h ≤ 4 ∧ hh = .int .i64 h ∧ LQ w1 s' s' p5 q5 wx ∧ VB a z wo.heap.size wx) (fun hh _ => (4 - intOf hh).toNat)
              case atStart => exact ⟨-1, by omega, by omega, rfl, HLM.out, HVM.out⟩
              case round =>
                obtain ⟨h, hh1, hh2, rfl, hlq, hvb⟩ := hrel
                clear HLM HVM
                have HLM := Lib.hid hlq
                have HVM := Lib.hid hvb
                clear hlq hvb
                by_cases h4 : h < 4
                · go_upto_region 30 with (fail)
                  have HLW := Lib.hid (HLM.out.on (Below.drew (Below.refl _ _)))
                  have HS0 := VB.on HVM.out (Below.drew (Below.refl _ _))
                  clear HLM HVM
                  obtain ⟨ok, hok⟩ : ∃ ok, helM s' h a z = ok := ⟨_, rfl⟩
                  have HC1 := Lib.hid (HOKK.out · h)
                  have HC2 := Lib.hid (HHAS.out · h)
                  rw [hok] at HC1 HC2
                  clear hok
                  refine wp_region_held (S := fun x => VB a z wo.heap.size x) (by kernel_rfl) ?_
                  change wpAnyH _ _ _ _ _ _ _ _ (World.drew _)
                  generalize World.drew _ = w14 at *
                  refine hk_val (i := 0) (oi := ⟨some 149, .move _, _, _, _, _⟩) (.pointer (some ⟨g, 0, none⟩)) rfl (by kernel_rfl) (by kernel_rfl) (by kernel_rfl) (fun _ _ _ h => h) (by kernel_rfl) (fun _ _ => rfl) HS0 ?_
                  simp only [Act.put, List.setIfInBounds_toArray, List.set_cons_zero, List.set_cons_succ]
                  refine hk_val (i := 1) (oi := ⟨some 150, .move _, _, _, _, _⟩) (.int .i64 h) rfl (by kernel_rfl) (by kernel_rfl) (by kernel_rfl) (fun _ _ _ h => h) (by kernel_rfl) (fun _ _ => rfl) HS0 ?_
                  simp only [Act.put, List.setIfInBounds_toArray, List.set_cons_zero, List.set_cons_succ]
                  refine hk_val (i := 2) (oi := ⟨some 151, .fieldAddr _ _ _, _, _, _, _⟩) (.pointer (some ⟨wo.heap.size, 2, none⟩)) rfl (by kernel_rfl) (by kernel_rfl) (by kernel_rfl) (fun _ _ _ h => h) (by kernel_rfl) (fun _ _ => by kernel_rfl) HS0 ?_
                  simp only [Act.put, List.setIfInBounds_toArray, List.set_cons_zero, List.set_cons_succ]
                  refine hk_val (i := 3) (oi := ⟨some 152, .fieldAddr _ _ _, _, _, _, _⟩) (.pointer (some ⟨wo.heap.size, 3, none⟩)) rfl (by kernel_rfl) (by kernel_rfl) (by kernel_rfl) (fun _ _ _ h => h) (by kernel_rfl) (fun _ _ => by kernel_rfl) HS0 ?_
                  simp only [Act.put, List.setIfInBounds_toArray, List.set_cons_zero, List.set_cons_succ]
                  refine hk_val (i := 4) (oi := ⟨some 153, .load _ _, _, _, _, _⟩) (.int .i64 a) rfl (by kernel_rfl) (by kernel_rfl) (by kernel_rfl) (fun _ _ _ h => h) (by kernel_rfl) (fun x hx => ex_load rfl rfl hx.1 (by kernel_rfl)) HS0 ?_
                  simp only [Act.put, List.setIfInBounds_toArray, List.set_cons_zero, List.set_cons_succ]
                  refine hk_val (i := 5) (oi := ⟨some 154, .fieldAddr _ _ _, _, _, _, _⟩) (.pointer (some ⟨wo.heap.size, 2, none⟩)) rfl (by kernel_rfl) (by kernel_rfl) (by kernel_rfl) (fun _ _ _ h => h) (by kernel_rfl) (fun _ _ => by kernel_rfl) HS0 ?_
                  simp only [Act.put, List.setIfInBounds_toArray, List.set_cons_zero, List.set_cons_succ]
                  refine hk_val (i := 6) (oi := ⟨some 155, .fieldAddr _ _ _, _, _, _, _⟩) (.pointer (some ⟨wo.heap.size, 4, none⟩)) rfl (by kernel_rfl) (by kernel_rfl) (by kernel_rfl) (fun _ _ _ h => h) (by kernel_rfl) (fun _ _ => by kernel_rfl) HS0 ?_
                  simp only [Act.put, List.setIfInBounds_toArray, List.set_cons_zero, List.set_cons_succ]
                  refine hk_val (i := 7) (oi := ⟨some 156, .load _ _, _, _, _, _⟩) (.int .i64 z) rfl (by kernel_rfl) (by kernel_rfl) (by kernel_rfl) (fun _ _ _ h => h) (by kernel_rfl) (fun x hx => ex_load rfl rfl hx.2 (by kernel_rfl)) HS0 ?_
                  simp only [Act.put, List.setIfInBounds_toArray, List.set_cons_zero, List.set_cons_succ]
                  refine hk_val (i := 9) (oi := ⟨some 158, .move _, _, _, _, _⟩) (.pointer (some ⟨gq, 0, none⟩)) rfl (by kernel_rfl) (by kernel_rfl) (by kernel_rfl) (fun _ _ _ h => h) (by kernel_rfl) (fun _ _ => rfl) HS0 ?_
                  simp only [Act.put, List.setIfInBounds_toArray, List.set_cons_zero, List.set_cons_succ]
                  refine hk_val (i := 10) (oi := ⟨some 159, .move _, _, _, _, _⟩) (.int .i64 h) rfl (by kernel_rfl) (by kernel_rfl) (by kernel_rfl) (fun _ _ _ h => h) (by kernel_rfl) (fun _ _ => rfl) HS0 ?_
                  simp only [Act.put, List.setIfInBounds_toArray, List.set_cons_zero, List.set_cons_succ]
                  refine hk_val (i := 11) (oi := ⟨some 160, .fieldAddr _ _ _, _, _, _, _⟩) (.pointer (some ⟨wo.heap.size, 2, none⟩)) rfl (by kernel_rfl) (by kernel_rfl) (by kernel_rfl) (fun _ _ _ h => h) (by kernel_rfl) (fun _ _ => by kernel_rfl) HS0 ?_
                  simp only [Act.put, List.setIfInBounds_toArray, List.set_cons_zero, List.set_cons_succ]
                  refine hk_val (i := 12) (oi := ⟨some 161, .fieldAddr _ _ _, _, _, _, _⟩) (.pointer (some ⟨wo.heap.size, 3, none⟩)) rfl (by kernel_rfl) (by kernel_rfl) (by kernel_rfl) (fun _ _ _ h => h) (by kernel_rfl) (fun _ _ => by kernel_rfl) HS0 ?_
                  simp only [Act.put, List.setIfInBounds_toArray, List.set_cons_zero, List.set_cons_succ]
                  refine hk_val (i := 13) (oi := ⟨some 162, .load _ _, _, _, _, _⟩) (.int .i64 a) rfl (by kernel_rfl) (by kernel_rfl) (by kernel_rfl) (fun _ _ _ h => h) (by kernel_rfl) (fun x hx => ex_load rfl rfl hx.1 (by kernel_rfl)) HS0 ?_
                  simp only [Act.put, List.setIfInBounds_toArray, List.set_cons_zero, List.set_cons_succ]
                  refine hk_val (i := 14) (oi := ⟨some 163, .fieldAddr _ _ _, _, _, _, _⟩) (.pointer (some ⟨wo.heap.size, 2, none⟩)) rfl (by kernel_rfl) (by kernel_rfl) (by kernel_rfl) (fun _ _ _ h => h) (by kernel_rfl) (fun _ _ => by kernel_rfl) HS0 ?_
                  simp only [Act.put, List.setIfInBounds_toArray, List.set_cons_zero, List.set_cons_succ]
                  refine hk_val (i := 15) (oi := ⟨some 164, .fieldAddr _ _ _, _, _, _, _⟩) (.pointer (some ⟨wo.heap.size, 4, none⟩)) rfl (by kernel_rfl) (by kernel_rfl) (by kernel_rfl) (fun _ _ _ h => h) (by kernel_rfl) (fun _ _ => by kernel_rfl) HS0 ?_
                  simp only [Act.put, List.setIfInBounds_toArray, List.set_cons_zero, List.set_cons_succ]
                  refine hk_val (i := 16) (oi := ⟨some 165, .load _ _, _, _, _, _⟩) (.int .i64 z) rfl (by kernel_rfl) (by kernel_rfl) (by kernel_rfl) (fun _ _ _ h => h) (by kernel_rfl) (fun x hx => ex_load rfl rfl hx.2 (by kernel_rfl)) HS0 ?_
                  simp only [Act.put, List.setIfInBounds_toArray, List.set_cons_zero, List.set_cons_succ]
                  refine hk_call (i := 8) (oi := ⟨some 157, .call _, _, _, _, _⟩) (by kernel_rfl) rfl (by kernel_rfl) (by first | rfl | kernel_rfl) (HC1.out _ HLW.out.m) ?_
                  rintro e w15 ⟨rfl, hb15⟩
                  have HLX := Lib.hid (HLW.out.on hb15)
                  have HS1 := HS0.on hb15
                  refine ⟨_, rfl, HS1, ?_⟩
                  clear HS0 hb15 HLW HC1
                  simp only [Act.put, List.setIfInBounds_toArray, List.set_cons_zero, List.set_cons_succ]
                  refine hk_call (i := 17) (oi := ⟨some 166, .call _, _, _, _, _⟩) (by kernel_rfl) rfl (by kernel_rfl) (by first | rfl | kernel_rfl) (HC2.out _ HLX.out.r) ?_
                  rintro e w16 ⟨rfl, rfl⟩
                  refine ⟨_, rfl, HS1, ?_⟩
                  simp only [Act.put, List.setIfInBounds_toArray, List.set_cons_zero, List.set_cons_succ]
                  refine hk_val (i := 18) (oi := ⟨some 167, .binOp _ _ _ _ _, _, _, _, _⟩) (.bool false) rfl (by kernel_rfl) (by kernel_rfl) (by kernel_rfl) (fun _ _ _ h => h) (by kernel_rfl) (fun _ _ => by cases ok <;> kernel_rfl) HS1 ?_
                  simp only [Act.put, List.setIfInBounds_toArray, List.set_cons_zero, List.set_cons_succ]
                  refine wpAnyH_done (by kernel_rfl) ?_ _
                  go_wp2
                  go_roundw
                  case rel => exact ⟨h + 1, by omega, by omega, rfl, HLX.out, HS1⟩
                  case measure => simp [intOf]; omega
                · go_wp2
                  go_roundw
                  case rel => exact ⟨k + 1, p5, q5, by omega, by omega, by go_num, by rw [HS'.out]; exact HLM.out, HP5.out, HQ5.out⟩
                  case measure => simp [intOf]; omega
            | true =>
              have hmo := mayP_out hmm
              obtain ⟨A2, rfl⟩ : ∃ k : Nat, a = (k : Int) := ⟨a.toNat, by omega⟩
              obtain ⟨Z2, rfl⟩ : ∃ k : Nat, z = (k : Int) := ⟨z.toNat, by omega⟩
              have ha3 := ha2
              have haz : A2 + Z2 ≤ s'.b0.length := by have := hmo.2.2.2; unfold Mst.n at this; omega
              have hz8 : Z2 ≤ 8 := by omega
              have hly := fun (w : World) (h : RamAt s' p5 w) => load_yes h HSO2.out.n HSO2.out.byts A2 Z2 hmm
              have hrl := fun (w : World) (h : RrAt s' q5 w) => rload_c h HSO2.out hl5 A2 Z2 hz8 haz
              rw [HP5.out] at hly
              rw [HQ5.out] at hrl
              rw [hmm] at hmay
              have HLN := Lib.hid hly
              have HRL := Lib.hid hrl
              have HMY := Lib.hid hmay
              have HTP := Lib.hid (tagsP_len s' A2 Z2 haz)
              clear hly hrl hmay hmm hmo haz
              refine (HLN.out _ HLY.out.m).mono ?_
              rintro e w8 ⟨v8, rfl, ho8, hb8⟩
              rw [HTP.out] at ho8
              obtain ⟨A8, c8, rfl, -⟩ := own_parts ho8
              have HR8 := Lib.hid (Rd.of_row ho8)
              have HLM8 := Lib.hid (HLY.out.on hb8)
              have HVM8 := Lib.hid (HVY.out.on hb8)
              have u3 : w8.cell? ⟨wo.heap.size, 3, none⟩ = some (.int .i64 (A2 : Int)) := HVM8.out.1
              have u4 : w8.cell? ⟨wo.heap.size, 4, none⟩ = some (.int .i64 (Z2 : Int)) := HVM8.out.2
              clear HLY HVY hb8 HLN ho8
              obtain ⟨X, hX⟩ : ∃ X, ofB (bytesP s' A2 Z2) = X := ⟨_, rfl⟩
              rw [hX] at HRL ⊢
              clear hX
              have hxx : (X != X) = false := by simp
              go_wp2_with (first
                | (go_at_call 17; refine (HMY.out _ HLM8.out.r).mono ?_; rintro e w9 ⟨rfl, rfl⟩))
              refine (HRL.out _ HLM8.out.r).mono ?_
              rintro e w9 ⟨v9, rfl, ho9, hb9⟩
              rw [HTP.out] at ho9
              obtain ⟨A9, c9, rfl, -⟩ := own_parts ho9
              have HR9 := Lib.hid (Rd.of_row ho9)
              have HR89 := Lib.hid ((HR8.out.below hb9).mono (Below.size hb9))
              have HLM9 := Lib.hid (HLM8.out.on hb9)
              have HVM9 := Lib.hid (HVM8.out.on hb9)
              clear HLM8 HVM8 HR8 ho9 hb9 u3 u4 HMY HRL
              go_wp2_with fail
              refine (sameI_eq A8 A9 c8 c9 (tagsP s' A2 Z2) Z2 _ HTP.out (by omega) HR89.out HR9.out).mono ?_
              rintro e w10 ⟨rfl, hb10⟩
              have HLM := Lib.hid (HLM9.out.on hb10)
              have HVM := Lib.hid (HVM9.out.on hb10)
              clear HLM9 HVM9 HR89 HR9 hb10 hxx
              go_wp2
              have HOKK := Lib.hid (fun (w : World) (h : Int) (hm : RamAt s' p5 w) => held_c hm HSO2.out.n h (A2 : Int) (Z2 : Int) ha3)
              have HHAS := Lib.hid (fun (w : World) (h : Int) (hm : RrAt s' q5 w) => rhas_c hm HSO2.out.n h (A2 : Int) (Z2 : Int) ha3)
              rw [HP5.out] at HOKK
              rw [HQ5.out] at HHAS
              go_loopw [14] (fun hh wx => ∃ h : Int, -1 ≤ h ∧ h ≤ 4 ∧ hh = .int .i64 h ∧ LQ w1 s' s' p5 q5 wx ∧ VB (A2 : Int) (Z2 : Int) wo.heap.size wx) (fun hh _ => (4 - intOf hh).toNat)
              case atStart => exact ⟨-1, by omega, by omega, rfl, HLM.out, HVM.out⟩
              case round =>
                obtain ⟨h, hh1, hh2, rfl, hlq, hvb⟩ := hrel
                clear HLM HVM
                have HLM := Lib.hid hlq
                have HVM := Lib.hid hvb
                clear hlq hvb
                by_cases h4 : h < 4
                · go_upto_region 30 with (fail)
                  have HLW := Lib.hid (HLM.out.on (Below.drew (Below.refl _ _)))
                  have HS0 := VB.on HVM.out (Below.drew (Below.refl _ _))
                  clear HLM HVM
                  obtain ⟨ok, hok⟩ : ∃ ok, helM s' h (A2 : Int) (Z2 : Int) = ok := ⟨_, rfl⟩
                  have HC1 := Lib.hid (HOKK.out · h)
                  have HC2 := Lib.hid (HHAS.out · h)
                  rw [hok] at HC1 HC2
                  clear hok
                  refine wp_region_held (S := fun x => VB (A2 : Int) (Z2 : Int) wo.heap.size x) (by kernel_rfl) ?_
                  change wpAnyH _ _ _ _ _ _ _ _ (World.drew _)
                  generalize World.drew _ = w14 at *
                  refine hk_val (i := 0) (oi := ⟨some 149, .move _, _, _, _, _⟩) (.pointer (some ⟨g, 0, none⟩)) rfl (by kernel_rfl) (by kernel_rfl) (by kernel_rfl) (fun _ _ _ h => h) (by kernel_rfl) (fun _ _ => rfl) HS0 ?_
                  simp only [Act.put, List.setIfInBounds_toArray, List.set_cons_zero, List.set_cons_succ]
                  refine hk_val (i := 1) (oi := ⟨some 150, .move _, _, _, _, _⟩) (.int .i64 h) rfl (by kernel_rfl) (by kernel_rfl) (by kernel_rfl) (fun _ _ _ h => h) (by kernel_rfl) (fun _ _ => rfl) HS0 ?_
                  simp only [Act.put, List.setIfInBounds_toArray, List.set_cons_zero, List.set_cons_succ]
                  refine hk_val (i := 2) (oi := ⟨some 151, .fieldAddr _ _ _, _, _, _, _⟩) (.pointer (some ⟨wo.heap.size, 2, none⟩)) rfl (by kernel_rfl) (by kernel_rfl) (by kernel_rfl) (fun _ _ _ h => h) (by kernel_rfl) (fun _ _ => by kernel_rfl) HS0 ?_
                  simp only [Act.put, List.setIfInBounds_toArray, List.set_cons_zero, List.set_cons_succ]
                  refine hk_val (i := 3) (oi := ⟨some 152, .fieldAddr _ _ _, _, _, _, _⟩) (.pointer (some ⟨wo.heap.size, 3, none⟩)) rfl (by kernel_rfl) (by kernel_rfl) (by kernel_rfl) (fun _ _ _ h => h) (by kernel_rfl) (fun _ _ => by kernel_rfl) HS0 ?_
                  simp only [Act.put, List.setIfInBounds_toArray, List.set_cons_zero, List.set_cons_succ]
                  refine hk_val (i := 4) (oi := ⟨some 153, .load _ _, _, _, _, _⟩) (.int .i64 (A2 : Int)) rfl (by kernel_rfl) (by kernel_rfl) (by kernel_rfl) (fun _ _ _ h => h) (by kernel_rfl) (fun x hx => ex_load rfl rfl hx.1 (by kernel_rfl)) HS0 ?_
                  simp only [Act.put, List.setIfInBounds_toArray, List.set_cons_zero, List.set_cons_succ]
                  refine hk_val (i := 5) (oi := ⟨some 154, .fieldAddr _ _ _, _, _, _, _⟩) (.pointer (some ⟨wo.heap.size, 2, none⟩)) rfl (by kernel_rfl) (by kernel_rfl) (by kernel_rfl) (fun _ _ _ h => h) (by kernel_rfl) (fun _ _ => by kernel_rfl) HS0 ?_
                  simp only [Act.put, List.setIfInBounds_toArray, List.set_cons_zero, List.set_cons_succ]
                  refine hk_val (i := 6) (oi := ⟨some 155, .fieldAddr _ _ _, _, _, _, _⟩) (.pointer (some ⟨wo.heap.size, 4, none⟩)) rfl (by kernel_rfl) (by kernel_rfl) (by kernel_rfl) (fun _ _ _ h => h) (by kernel_rfl) (fun _ _ => by kernel_rfl) HS0 ?_
                  simp only [Act.put, List.setIfInBounds_toArray, List.set_cons_zero, List.set_cons_succ]
                  refine hk_val (i := 7) (oi := ⟨some 156, .load _ _, _, _, _, _⟩) (.int .i64 (Z2 : Int)) rfl (by kernel_rfl) (by kernel_rfl) (by kernel_rfl) (fun _ _ _ h => h) (by kernel_rfl) (fun x hx => ex_load rfl rfl hx.2 (by kernel_rfl)) HS0 ?_
                  simp only [Act.put, List.setIfInBounds_toArray, List.set_cons_zero, List.set_cons_succ]
                  refine hk_val (i := 9) (oi := ⟨some 158, .move _, _, _, _, _⟩) (.pointer (some ⟨gq, 0, none⟩)) rfl (by kernel_rfl) (by kernel_rfl) (by kernel_rfl) (fun _ _ _ h => h) (by kernel_rfl) (fun _ _ => rfl) HS0 ?_
                  simp only [Act.put, List.setIfInBounds_toArray, List.set_cons_zero, List.set_cons_succ]
                  refine hk_val (i := 10) (oi := ⟨some 159, .move _, _, _, _, _⟩) (.int .i64 h) rfl (by kernel_rfl) (by kernel_rfl) (by kernel_rfl) (fun _ _ _ h => h) (by kernel_rfl) (fun _ _ => rfl) HS0 ?_
                  simp only [Act.put, List.setIfInBounds_toArray, List.set_cons_zero, List.set_cons_succ]
                  refine hk_val (i := 11) (oi := ⟨some 160, .fieldAddr _ _ _, _, _, _, _⟩) (.pointer (some ⟨wo.heap.size, 2, none⟩)) rfl (by kernel_rfl) (by kernel_rfl) (by kernel_rfl) (fun _ _ _ h => h) (by kernel_rfl) (fun _ _ => by kernel_rfl) HS0 ?_
                  simp only [Act.put, List.setIfInBounds_toArray, List.set_cons_zero, List.set_cons_succ]
                  refine hk_val (i := 12) (oi := ⟨some 161, .fieldAddr _ _ _, _, _, _, _⟩) (.pointer (some ⟨wo.heap.size, 3, none⟩)) rfl (by kernel_rfl) (by kernel_rfl) (by kernel_rfl) (fun _ _ _ h => h) (by kernel_rfl) (fun _ _ => by kernel_rfl) HS0 ?_
                  simp only [Act.put, List.setIfInBounds_toArray, List.set_cons_zero, List.set_cons_succ]
                  refine hk_val (i := 13) (oi := ⟨some 162, .load _ _, _, _, _, _⟩) (.int .i64 (A2 : Int)) rfl (by kernel_rfl) (by kernel_rfl) (by kernel_rfl) (fun _ _ _ h => h) (by kernel_rfl) (fun x hx => ex_load rfl rfl hx.1 (by kernel_rfl)) HS0 ?_
                  simp only [Act.put, List.setIfInBounds_toArray, List.set_cons_zero, List.set_cons_succ]
                  refine hk_val (i := 14) (oi := ⟨some 163, .fieldAddr _ _ _, _, _, _, _⟩) (.pointer (some ⟨wo.heap.size, 2, none⟩)) rfl (by kernel_rfl) (by kernel_rfl) (by kernel_rfl) (fun _ _ _ h => h) (by kernel_rfl) (fun _ _ => by kernel_rfl) HS0 ?_
                  simp only [Act.put, List.setIfInBounds_toArray, List.set_cons_zero, List.set_cons_succ]
                  refine hk_val (i := 15) (oi := ⟨some 164, .fieldAddr _ _ _, _, _, _, _⟩) (.pointer (some ⟨wo.heap.size, 4, none⟩)) rfl (by kernel_rfl) (by kernel_rfl) (by kernel_rfl) (fun _ _ _ h => h) (by kernel_rfl) (fun _ _ => by kernel_rfl) HS0 ?_
                  simp only [Act.put, List.setIfInBounds_toArray, List.set_cons_zero, List.set_cons_succ]
                  refine hk_val (i := 16) (oi := ⟨some 165, .load _ _, _, _, _, _⟩) (.int .i64 (Z2 : Int)) rfl (by kernel_rfl) (by kernel_rfl) (by kernel_rfl) (fun _ _ _ h => h) (by kernel_rfl) (fun x hx => ex_load rfl rfl hx.2 (by kernel_rfl)) HS0 ?_
                  simp only [Act.put, List.setIfInBounds_toArray, List.set_cons_zero, List.set_cons_succ]
                  refine hk_call (i := 8) (oi := ⟨some 157, .call _, _, _, _, _⟩) (by kernel_rfl) rfl (by kernel_rfl) (by first | rfl | kernel_rfl) (HC1.out _ HLW.out.m) ?_
                  rintro e w15 ⟨rfl, hb15⟩
                  have HLX := Lib.hid (HLW.out.on hb15)
                  have HS1 := HS0.on hb15
                  refine ⟨_, rfl, HS1, ?_⟩
                  clear HS0 hb15 HLW HC1
                  simp only [Act.put, List.setIfInBounds_toArray, List.set_cons_zero, List.set_cons_succ]
                  refine hk_call (i := 17) (oi := ⟨some 166, .call _, _, _, _, _⟩) (by kernel_rfl) rfl (by kernel_rfl) (by first | rfl | kernel_rfl) (HC2.out _ HLX.out.r) ?_
                  rintro e w16 ⟨rfl, rfl⟩
                  refine ⟨_, rfl, HS1, ?_⟩
                  simp only [Act.put, List.setIfInBounds_toArray, List.set_cons_zero, List.set_cons_succ]
                  refine hk_val (i := 18) (oi := ⟨some 167, .binOp _ _ _ _ _, _, _, _, _⟩) (.bool false) rfl (by kernel_rfl) (by kernel_rfl) (by kernel_rfl) (fun _ _ _ h => h) (by kernel_rfl) (fun _ _ => by cases ok <;> kernel_rfl) HS1 ?_
                  simp only [Act.put, List.setIfInBounds_toArray, List.set_cons_zero, List.set_cons_succ]
                  refine wpAnyH_done (by kernel_rfl) ?_ _
                  go_wp2
                  go_roundw
                  case rel => exact ⟨h + 1, by omega, by omega, rfl, HLX.out, HS1⟩
                  case measure => simp [intOf]; omega
                · go_wp2
                  go_roundw
                  case rel => exact ⟨k + 1, p5, q5, by omega, by omega, by go_num, by rw [HS'.out]; exact HLM.out, HP5.out, HQ5.out⟩
                  case measure => simp [intOf]; omega
          · by_cases h2 : kd = 2
            · subst h2
              have hnv : wo.heap.size ∉ p.foot := fun hm => by have := HNV.out _ (.inl hm); omega
              have hnq : wo.heap.size ∉ q.foot := fun hm => by have := HNV.out _ (.inr hm); omega
              have hst := fun (w : World) (h : RamAt s p w) => drop_c h t
              have hrs := fun (w : World) (h : RrAt s q w) => rdrop_c h t
              have HPG' := HPG
              rw [HPG.out] at hst
              rw [HQG.out] at hrs
              have HST := Lib.hid hst
              have HRS := Lib.hid hrs
              have hsu : s' = droM s t := HSU.out
              have HSV := Lib.hid hsu
              have HOKB : Hid True := trivial
              clear hst hrs hsu HSU
              go_wp2_with fail
              refine (HST.out _ HLV.out.m).mono ?_
              rintro e w5 ⟨rfl, hr5, hk5⟩
              have HLX := Lib.hid (HLV.out.ram (p2 := p) hr5 (fun _ h => .inl h) (fr_one_p (by rw [HPG.out]; exact hk5)))
              have HS1 := fr_keep (fr_one_p (p := p) (by rw [HPG.out]; exact hk5)) HV.out hnv
              have q1 : w5.cell? ⟨wo.heap.size, 1, none⟩ = some (.int .i64 t) := HS1.cell 1
              clear hr5 hk5 HLV HST HV g0 g1 g2 g3 g4 g5
              have HS1h := Lib.hid HS1
              clear HS1
              go_wp2_with fail
              refine (HRS.out _ HLX.out.r).mono ?_
              rintro e w6 ⟨rfl, hr6, hk6⟩
              have HLY := Lib.hid (HLX.out.rr (q2 := q) hr6 (fun _ h => .inl h) (fr_one_q (by rw [HQG.out]; exact hk6)))
              have HS2 := fr_keep (fr_one_q (q := q) (by rw [HQG.out]; exact hk6)) HS1h.out hnq
              clear HS1h hr6 hk6 HLX HRS q1 HPG'
              rw [← HSV.out] at HLY
              have HVY := Lib.hid (VB.of HS2)
              have q3 : w6.cell? ⟨wo.heap.size, 3, none⟩ = some (.int .i64 a) := HS2.cell 3
              have q4 : w6.cell? ⟨wo.heap.size, 4, none⟩ = some (.int .i64 z) := HS2.cell 4
              clear HS2 HSV HOKB hnv hnq
              have HP5 := HPG
              have HQ5 := HQG
              obtain ⟨p5, rfl⟩ : ∃ x, x = p := ⟨_, rfl⟩
              obtain ⟨q5, rfl⟩ : ∃ x, x = q := ⟨_, rfl⟩
              go_wp2_with fail
              have hmay := fun (w : World) (h : RrAt s' q5 w) => rmay_c h HSO2.out.n a z ha2
              rw [HQ5.out] at hmay
              have hl5 : s'.l.length ≤ 1000 := hl5'
              cases hmm : mayP s'.n a z with
              | false =>
                have ha3 := ha2
                have hln := fun (w : World) (h : RamAt s' p5 w) => load_no h HSO2.out.n a z ha2 hmm
                rw [HP5.out] at hln
                rw [hmm] at hmay
                have HLN := Lib.hid hln
                have HMY := Lib.hid hmay
                clear hln hmay hmm
                refine (HLN.out _ HLY.out.m).mono ?_
                rintro e w8 ⟨rfl, hb8⟩
                have HLM := Lib.hid (HLY.out.on hb8)
                have HVM := Lib.hid (HVY.out.on hb8)
                have u3 : w8.cell? ⟨wo.heap.size, 3, none⟩ = some (.int .i64 a) := HVM.out.1
                have u4 : w8.cell? ⟨wo.heap.size, 4, none⟩ = some (.int .i64 z) := HVM.out.2
                clear HLY HVY hb8 HLN
                go_wp2_with (first
                  | (go_at_call 17; refine (HMY.out _ HLM.out.r).mono ?_; rintro e w9 ⟨rfl, rfl⟩))
                clear u3 u4 HMY
                have HOKK := Lib.hid (fun (w : World) (h : Int) (hm : RamAt s' p5 w) => held_c hm HSO2.out.n h a z ha3)
                have HHAS := Lib.hid (fun (w : World) (h : Int) (hm : RrAt s' q5 w) => rhas_c hm HSO2.out.n h a z ha3)
                rw [HP5.out] at HOKK
                rw [HQ5.out] at HHAS
                go_loopw [14] (fun hh wx => ∃ h : Int, -1 ≤ h ∧ h ≤ 4 ∧ hh = .int .i64 h ∧ LQ w1 s' s' p5 q5 wx ∧ VB a z wo.heap.size wx) (fun hh _ => (4 - intOf hh).toNat)
                case atStart => exact ⟨-1, by omega, by omega, rfl, HLM.out, HVM.out⟩
                case round =>
                  obtain ⟨h, hh1, hh2, rfl, hlq, hvb⟩ := hrel
                  clear HLM HVM
                  have HLM := Lib.hid hlq
                  have HVM := Lib.hid hvb
                  clear hlq hvb
                  by_cases h4 : h < 4
                  · go_upto_region 30 with (fail)
                    have HLW := Lib.hid (HLM.out.on (Below.drew (Below.refl _ _)))
                    have HS0 := VB.on HVM.out (Below.drew (Below.refl _ _))
                    clear HLM HVM
                    obtain ⟨ok, hok⟩ : ∃ ok, helM s' h a z = ok := ⟨_, rfl⟩
                    have HC1 := Lib.hid (HOKK.out · h)
                    have HC2 := Lib.hid (HHAS.out · h)
                    rw [hok] at HC1 HC2
                    clear hok
                    refine wp_region_held (S := fun x => VB a z wo.heap.size x) (by kernel_rfl) ?_
                    change wpAnyH _ _ _ _ _ _ _ _ (World.drew _)
                    generalize World.drew _ = w14 at *
                    refine hk_val (i := 0) (oi := ⟨some 149, .move _, _, _, _, _⟩) (.pointer (some ⟨g, 0, none⟩)) rfl (by kernel_rfl) (by kernel_rfl) (by kernel_rfl) (fun _ _ _ h => h) (by kernel_rfl) (fun _ _ => rfl) HS0 ?_
                    simp only [Act.put, List.setIfInBounds_toArray, List.set_cons_zero, List.set_cons_succ]
                    refine hk_val (i := 1) (oi := ⟨some 150, .move _, _, _, _, _⟩) (.int .i64 h) rfl (by kernel_rfl) (by kernel_rfl) (by kernel_rfl) (fun _ _ _ h => h) (by kernel_rfl) (fun _ _ => rfl) HS0 ?_
                    simp only [Act.put, List.setIfInBounds_toArray, List.set_cons_zero, List.set_cons_succ]
                    refine hk_val (i := 2) (oi := ⟨some 151, .fieldAddr _ _ _, _, _, _, _⟩) (.pointer (some ⟨wo.heap.size, 2, none⟩)) rfl (by kernel_rfl) (by kernel_rfl) (by kernel_rfl) (fun _ _ _ h => h) (by kernel_rfl) (fun _ _ => by kernel_rfl) HS0 ?_
                    simp only [Act.put, List.setIfInBounds_toArray, List.set_cons_zero, List.set_cons_succ]
                    refine hk_val (i := 3) (oi := ⟨some 152, .fieldAddr _ _ _, _, _, _, _⟩) (.pointer (some ⟨wo.heap.size, 3, none⟩)) rfl (by kernel_rfl) (by kernel_rfl) (by kernel_rfl) (fun _ _ _ h => h) (by kernel_rfl) (fun _ _ => by kernel_rfl) HS0 ?_
                    simp only [Act.put, List.setIfInBounds_toArray, List.set_cons_zero, List.set_cons_succ]
                    refine hk_val (i := 4) (oi := ⟨some 153, .load _ _, _, _, _, _⟩) (.int .i64 a) rfl (by kernel_rfl) (by kernel_rfl) (by kernel_rfl) (fun _ _ _ h => h) (by kernel_rfl) (fun x hx => ex_load rfl rfl hx.1 (by kernel_rfl)) HS0 ?_
                    simp only [Act.put, List.setIfInBounds_toArray, List.set_cons_zero, List.set_cons_succ]
                    refine hk_val (i := 5) (oi := ⟨some 154, .fieldAddr _ _ _, _, _, _, _⟩) (.pointer (some ⟨wo.heap.size, 2, none⟩)) rfl (by kernel_rfl) (by kernel_rfl) (by kernel_rfl) (fun _ _ _ h => h) (by kernel_rfl) (fun _ _ => by kernel_rfl) HS0 ?_
                    simp only [Act.put, List.setIfInBounds_toArray, List.set_cons_zero, List.set_cons_succ]
                    refine hk_val (i := 6) (oi := ⟨some 155, .fieldAddr _ _ _, _, _, _, _⟩) (.pointer (some ⟨wo.heap.size, 4, none⟩)) rfl (by kernel_rfl) (by kernel_rfl) (by kernel_rfl) (fun _ _ _ h => h) (by kernel_rfl) (fun _ _ => by kernel_rfl) HS0 ?_
                    simp only [Act.put, List.setIfInBounds_toArray, List.set_cons_zero, List.set_cons_succ]
                    refine hk_val (i := 7) (oi := ⟨some 156, .load _ _, _, _, _, _⟩) (.int .i64 z) rfl (by kernel_rfl) (by kernel_rfl) (by kernel_rfl) (fun _ _ _ h => h) (by kernel_rfl) (fun x hx => ex_load rfl rfl hx.2 (by kernel_rfl)) HS0 ?_
                    simp only [Act.put, List.setIfInBounds_toArray, List.set_cons_zero, List.set_cons_succ]
                    refine hk_val (i := 9) (oi := ⟨some 158, .move _, _, _, _, _⟩) (.pointer (some ⟨gq, 0, none⟩)) rfl (by kernel_rfl) (by kernel_rfl) (by kernel_rfl) (fun _ _ _ h => h) (by kernel_rfl) (fun _ _ => rfl) HS0 ?_
                    simp only [Act.put, List.setIfInBounds_toArray, List.set_cons_zero, List.set_cons_succ]
                    refine hk_val (i := 10) (oi := ⟨some 159, .move _, _, _, _, _⟩) (.int .i64 h) rfl (by kernel_rfl) (by kernel_rfl) (by kernel_rfl) (fun _ _ _ h => h) (by kernel_rfl) (fun _ _ => rfl) HS0 ?_
                    simp only [Act.put, List.setIfInBounds_toArray, List.set_cons_zero, List.set_cons_succ]
                    refine hk_val (i := 11) (oi := ⟨some 160, .fieldAddr _ _ _, _, _, _, _⟩) (.pointer (some ⟨wo.heap.size, 2, none⟩)) rfl (by kernel_rfl) (by kernel_rfl) (by kernel_rfl) (fun _ _ _ h => h) (by kernel_rfl) (fun _ _ => by kernel_rfl) HS0 ?_
                    simp only [Act.put, List.setIfInBounds_toArray, List.set_cons_zero, List.set_cons_succ]
                    refine hk_val (i := 12) (oi := ⟨some 161, .fieldAddr _ _ _, _, _, _, _⟩) (.pointer (some ⟨wo.heap.size, 3, none⟩)) rfl (by kernel_rfl) (by kernel_rfl) (by kernel_rfl) (fun _ _ _ h => h) (by kernel_rfl) (fun _ _ => by kernel_rfl) HS0 ?_
                    simp only [Act.put, List.setIfInBounds_toArray, List.set_cons_zero, List.set_cons_succ]
                    refine hk_val (i := 13) (oi := ⟨some 162, .load _ _, _, _, _, _⟩) (.int .i64 a) rfl (by kernel_rfl) (by kernel_rfl) (by kernel_rfl) (fun _ _ _ h => h) (by kernel_rfl) (fun x hx => ex_load rfl rfl hx.1 (by kernel_rfl)) HS0 ?_
                    simp only [Act.put, List.setIfInBounds_toArray, List.set_cons_zero, List.set_cons_succ]
                    refine hk_val (i := 14) (oi := ⟨some 163, .fieldAddr _ _ _, _, _, _, _⟩) (.pointer (some ⟨wo.heap.size, 2, none⟩)) rfl (by kernel_rfl) (by kernel_rfl) (by kernel_rfl) (fun _ _ _ h => h) (by kernel_rfl) (fun _ _ => by kernel_rfl) HS0 ?_
                    simp only [Act.put, List.setIfInBounds_toArray, List.set_cons_zero, List.set_cons_succ]
                    refine hk_val (i := 15) (oi := ⟨some 164, .fieldAddr _ _ _, _, _, _, _⟩) (.pointer (some ⟨wo.heap.size, 4, none⟩)) rfl (by kernel_rfl) (by kernel_rfl) (by kernel_rfl) (fun _ _ _ h => h) (by kernel_rfl) (fun _ _ => by kernel_rfl) HS0 ?_
                    simp only [Act.put, List.setIfInBounds_toArray, List.set_cons_zero, List.set_cons_succ]
                    refine hk_val (i := 16) (oi := ⟨some 165, .load _ _, _, _, _, _⟩) (.int .i64 z) rfl (by kernel_rfl) (by kernel_rfl) (by kernel_rfl) (fun _ _ _ h => h) (by kernel_rfl) (fun x hx => ex_load rfl rfl hx.2 (by kernel_rfl)) HS0 ?_
                    simp only [Act.put, List.setIfInBounds_toArray, List.set_cons_zero, List.set_cons_succ]
                    refine hk_call (i := 8) (oi := ⟨some 157, .call _, _, _, _, _⟩) (by kernel_rfl) rfl (by kernel_rfl) (by first | rfl | kernel_rfl) (HC1.out _ HLW.out.m) ?_
                    rintro e w15 ⟨rfl, hb15⟩
                    have HLX := Lib.hid (HLW.out.on hb15)
                    have HS1 := HS0.on hb15
                    refine ⟨_, rfl, HS1, ?_⟩
                    clear HS0 hb15 HLW HC1
                    simp only [Act.put, List.setIfInBounds_toArray, List.set_cons_zero, List.set_cons_succ]
                    refine hk_call (i := 17) (oi := ⟨some 166, .call _, _, _, _, _⟩) (by kernel_rfl) rfl (by kernel_rfl) (by first | rfl | kernel_rfl) (HC2.out _ HLX.out.r) ?_
                    rintro e w16 ⟨rfl, rfl⟩
                    refine ⟨_, rfl, HS1, ?_⟩
                    simp only [Act.put, List.setIfInBounds_toArray, List.set_cons_zero, List.set_cons_succ]
                    refine hk_val (i := 18) (oi := ⟨some 167, .binOp _ _ _ _ _, _, _, _, _⟩) (.bool false) rfl (by kernel_rfl) (by kernel_rfl) (by kernel_rfl) (fun _ _ _ h => h) (by kernel_rfl) (fun _ _ => by cases ok <;> kernel_rfl) HS1 ?_
                    simp only [Act.put, List.setIfInBounds_toArray, List.set_cons_zero, List.set_cons_succ]
                    refine wpAnyH_done (by kernel_rfl) ?_ _
                    go_wp2
                    go_roundw
                    case rel => exact ⟨h + 1, by omega, by omega, rfl, HLX.out, HS1⟩
                    case measure => simp [intOf]; omega
                  · go_wp2
                    go_roundw
                    case rel => exact ⟨k + 1, p5, q5, by omega, by omega, by go_num, by rw [HS'.out]; exact HLM.out, HP5.out, HQ5.out⟩
                    case measure => simp [intOf]; omega
              | true =>
                have hmo := mayP_out hmm
                obtain ⟨A2, rfl⟩ : ∃ k : Nat, a = (k : Int) := ⟨a.toNat, by omega⟩
                obtain ⟨Z2, rfl⟩ : ∃ k : Nat, z = (k : Int) := ⟨z.toNat, by omega⟩
                have ha3 := ha2
                have haz : A2 + Z2 ≤ s'.b0.length := by have := hmo.2.2.2; unfold Mst.n at this; omega
                have hz8 : Z2 ≤ 8 := by omega
                have hly := fun (w : World) (h : RamAt s' p5 w) => load_yes h HSO2.out.n HSO2.out.byts A2 Z2 hmm
                have hrl := fun (w : World) (h : RrAt s' q5 w) => rload_c h HSO2.out hl5 A2 Z2 hz8 haz
                rw [HP5.out] at hly
                rw [HQ5.out] at hrl
                rw [hmm] at hmay
                have HLN := Lib.hid hly
                have HRL := Lib.hid hrl
                have HMY := Lib.hid hmay
                have HTP := Lib.hid (tagsP_len s' A2 Z2 haz)
                clear hly hrl hmay hmm hmo haz
                refine (HLN.out _ HLY.out.m).mono ?_
                rintro e w8 ⟨v8, rfl, ho8, hb8⟩
                rw [HTP.out] at ho8
                obtain ⟨A8, c8, rfl, -⟩ := own_parts ho8
                have HR8 := Lib.hid (Rd.of_row ho8)
                have HLM8 := Lib.hid (HLY.out.on hb8)
                have HVM8 := Lib.hid (HVY.out.on hb8)
                have u3 : w8.cell? ⟨wo.heap.size, 3, none⟩ = some (.int .i64 (A2 : Int)) := HVM8.out.1
                have u4 : w8.cell? ⟨wo.heap.size, 4, none⟩ = some (.int .i64 (Z2 : Int)) := HVM8.out.2
                clear HLY HVY hb8 HLN ho8
                obtain ⟨X, hX⟩ : ∃ X, ofB (bytesP s' A2 Z2) = X := ⟨_, rfl⟩
                rw [hX] at HRL ⊢
                clear hX
                have hxx : (X != X) = false := by simp
                go_wp2_with (first
                  | (go_at_call 17; refine (HMY.out _ HLM8.out.r).mono ?_; rintro e w9 ⟨rfl, rfl⟩))
                refine (HRL.out _ HLM8.out.r).mono ?_
                rintro e w9 ⟨v9, rfl, ho9, hb9⟩
                rw [HTP.out] at ho9
                obtain ⟨A9, c9, rfl, -⟩ := own_parts ho9
                have HR9 := Lib.hid (Rd.of_row ho9)
                have HR89 := Lib.hid ((HR8.out.below hb9).mono (Below.size hb9))
                have HLM9 := Lib.hid (HLM8.out.on hb9)
                have HVM9 := Lib.hid (HVM8.out.on hb9)
                clear HLM8 HVM8 HR8 ho9 hb9 u3 u4 HMY HRL
                go_wp2_with fail
                refine (sameI_eq A8 A9 c8 c9 (tagsP s' A2 Z2) Z2 _ HTP.out (by omega) HR89.out HR9.out).mono ?_
                rintro e w10 ⟨rfl, hb10⟩
                have HLM := Lib.hid (HLM9.out.on hb10)
                have HVM := Lib.hid (HVM9.out.on hb10)
                clear HLM9 HVM9 HR89 HR9 hb10 hxx
                go_wp2
                have HOKK := Lib.hid (fun (w : World) (h : Int) (hm : RamAt s' p5 w) => held_c hm HSO2.out.n h (A2 : Int) (Z2 : Int) ha3)
                have HHAS := Lib.hid (fun (w : World) (h : Int) (hm : RrAt s' q5 w) => rhas_c hm HSO2.out.n h (A2 : Int) (Z2 : Int) ha3)
                rw [HP5.out] at HOKK
                rw [HQ5.out] at HHAS
                go_loopw [14] (fun hh wx => ∃ h : Int, -1 ≤ h ∧ h ≤ 4 ∧ hh = .int .i64 h ∧ LQ w1 s' s' p5 q5 wx ∧ VB (A2 : Int) (Z2 : Int) wo.heap.size wx) (fun hh _ => (4 - intOf hh).toNat)
                case atStart => exact ⟨-1, by omega, by omega, rfl, HLM.out, HVM.out⟩
                case round =>
                  obtain ⟨h, hh1, hh2, rfl, hlq, hvb⟩ := hrel
                  clear HLM HVM
                  have HLM := Lib.hid hlq
                  have HVM := Lib.hid hvb
                  clear hlq hvb
                  by_cases h4 : h < 4
                  · go_upto_region 30 with (fail)
                    have HLW := Lib.hid (HLM.out.on (Below.drew (Below.refl _ _)))
                    have HS0 := VB.on HVM.out (Below.drew (Below.refl _ _))
                    clear HLM HVM
                    obtain ⟨ok, hok⟩ : ∃ ok, helM s' h (A2 : Int) (Z2 : Int) = ok := ⟨_, rfl⟩
                    have HC1 := Lib.hid (HOKK.out · h)
                    have HC2 := Lib.hid (HHAS.out · h)
                    rw [hok] at HC1 HC2
                    clear hok
                    refine wp_region_held (S := fun x => VB (A2 : Int) (Z2 : Int) wo.heap.size x) (by kernel_rfl) ?_
                    change wpAnyH _ _ _ _ _ _ _ _ (World.drew _)
                    generalize World.drew _ = w14 at *
                    refine hk_val (i := 0) (oi := ⟨some 149, .move _, _, _, _, _⟩) (.pointer (some ⟨g, 0, none⟩)) rfl (by kernel_rfl) (by kernel_rfl) (by kernel_rfl) (fun _ _ _ h => h) (by kernel_rfl) (fun _ _ => rfl) HS0 ?_
                    simp only [Act.put, List.setIfInBounds_toArray, List.set_cons_zero, List.set_cons_succ]
                    refine hk_val (i := 1) (oi := ⟨some 150, .move _, _, _, _, _⟩) (.int .i64 h) rfl (by kernel_rfl) (by kernel_rfl) (by kernel_rfl) (fun _ _ _ h => h) (by kernel_rfl) (fun _ _ => rfl) HS0 ?_
                    simp only [Act.put, List.setIfInBounds_toArray, List.set_cons_zero, List.set_cons_succ]
                    refine hk_val (i := 2) (oi := ⟨some 151, .fieldAddr _ _ _, _, _, _, _⟩) (.pointer (some ⟨wo.heap.size, 2, none⟩)) rfl (by kernel_rfl) (by kernel_rfl) (by kernel_rfl) (fun _ _ _ h => h) (by kernel_rfl) (fun _ _ => by kernel_rfl) HS0 ?_
                    simp only [Act.put, List.setIfInBounds_toArray, List.set_cons_zero, List.set_cons_succ]
                    refine hk_val (i := 3) (oi := ⟨some 152, .fieldAddr _ _ _, _, _, _, _⟩) (.pointer (some ⟨wo.heap.size, 3, none⟩)) rfl (by kernel_rfl) (by kernel_rfl) (by kernel_rfl) (fun _ _ _ h => h) (by kernel_rfl) (fun _ _ => by kernel_rfl) HS0 ?_
                    simp only [Act.put, List.setIfInBounds_toArray, List.set_cons_zero, List.set_cons_succ]
                    refine hk_val (i := 4) (oi := ⟨some 153, .load _ _, _, _, _, _⟩) (.int .i64 (A2 : Int)) rfl (by kernel_rfl) (by kernel_rfl) (by kernel_rfl) (fun _ _ _ h => h) (by kernel_rfl) (fun x hx => ex_load rfl rfl hx.1 (by kernel_rfl)) HS0 ?_
                    simp only [Act.put, List.setIfInBounds_toArray, List.set_cons_zero, List.set_cons_succ]
                    refine hk_val (i := 5) (oi := ⟨some 154, .fieldAddr _ _ _, _, _, _, _⟩) (.pointer (some ⟨wo.heap.size, 2, none⟩)) rfl (by kernel_rfl) (by kernel_rfl) (by kernel_rfl) (fun _ _ _ h => h) (by kernel_rfl) (fun _ _ => by kernel_rfl) HS0 ?_
                    simp only [Act.put, List.setIfInBounds_toArray, List.set_cons_zero, List.set_cons_succ]
                    refine hk_val (i := 6) (oi := ⟨some 155, .fieldAddr _ _ _, _, _, _, _⟩) (.pointer (some ⟨wo.heap.size, 4, none⟩)) rfl (by kernel_rfl) (by kernel_rfl) (by kernel_rfl) (fun _ _ _ h => h) (by kernel_rfl) (fun _ _ => by kernel_rfl) HS0 ?_
                    simp only [Act.put, List.setIfInBounds_toArray, List.set_cons_zero, List.set_cons_succ]
                    refine hk_val (i := 7) (oi := ⟨some 156, .load _ _, _, _, _, _⟩) (.int .i64 (Z2 : Int)) rfl (by kernel_rfl) (by kernel_rfl) (by kernel_rfl) (fun _ _ _ h => h) (by kernel_rfl) (fun x hx => ex_load rfl rfl hx.2 (by kernel_rfl)) HS0 ?_
                    simp only [Act.put, List.setIfInBounds_toArray, List.set_cons_zero, List.set_cons_succ]
                    refine hk_val (i := 9) (oi := ⟨some 158, .move _, _, _, _, _⟩) (.pointer (some ⟨gq, 0, none⟩)) rfl (by kernel_rfl) (by kernel_rfl) (by kernel_rfl) (fun _ _ _ h => h) (by kernel_rfl) (fun _ _ => rfl) HS0 ?_
                    simp only [Act.put, List.setIfInBounds_toArray, List.set_cons_zero, List.set_cons_succ]
                    refine hk_val (i := 10) (oi := ⟨some 159, .move _, _, _, _, _⟩) (.int .i64 h) rfl (by kernel_rfl) (by kernel_rfl) (by kernel_rfl) (fun _ _ _ h => h) (by kernel_rfl) (fun _ _ => rfl) HS0 ?_
                    simp only [Act.put, List.setIfInBounds_toArray, List.set_cons_zero, List.set_cons_succ]
                    refine hk_val (i := 11) (oi := ⟨some 160, .fieldAddr _ _ _, _, _, _, _⟩) (.pointer (some ⟨wo.heap.size, 2, none⟩)) rfl (by kernel_rfl) (by kernel_rfl) (by kernel_rfl) (fun _ _ _ h => h) (by kernel_rfl) (fun _ _ => by kernel_rfl) HS0 ?_
                    simp only [Act.put, List.setIfInBounds_toArray, List.set_cons_zero, List.set_cons_succ]
                    refine hk_val (i := 12) (oi := ⟨some 161, .fieldAddr _ _ _, _, _, _, _⟩) (.pointer (some ⟨wo.heap.size, 3, none⟩)) rfl (by kernel_rfl) (by kernel_rfl) (by kernel_rfl) (fun _ _ _ h => h) (by kernel_rfl) (fun _ _ => by kernel_rfl) HS0 ?_
                    simp only [Act.put, List.setIfInBounds_toArray, List.set_cons_zero, List.set_cons_succ]
                    refine hk_val (i := 13) (oi := ⟨some 162, .load _ _, _, _, _, _⟩) (.int .i64 (A2 : Int)) rfl (by kernel_rfl) (by kernel_rfl) (by kernel_rfl) (fun _ _ _ h => h) (by kernel_rfl) (fun x hx => ex_load rfl rfl hx.1 (by kernel_rfl)) HS0 ?_
                    simp only [Act.put, List.setIfInBounds_toArray, List.set_cons_zero, List.set_cons_succ]
                    refine hk_val (i := 14) (oi := ⟨some 163, .fieldAddr _ _ _, _, _, _, _⟩) (.pointer (some ⟨wo.heap.size, 2, none⟩)) rfl (by kernel_rfl) (by kernel_rfl) (by kernel_rfl) (fun _ _ _ h => h) (by kernel_rfl) (fun _ _ => by kernel_rfl) HS0 ?_
                    simp only [Act.put, List.setIfInBounds_toArray, List.set_cons_zero, List.set_cons_succ]
                    refine hk_val (i := 15) (oi := ⟨some 164, .fieldAddr _ _ _, _, _, _, _⟩) (.pointer (some ⟨wo.heap.size, 4, none⟩)) rfl (by kernel_rfl) (by kernel_rfl) (by kernel_rfl) (fun _ _ _ h => h) (by kernel_rfl) (fun _ _ => by kernel_rfl) HS0 ?_
                    simp only [Act.put, List.setIfInBounds_toArray, List.set_cons_zero, List.set_cons_succ]
                    refine hk_val (i := 16) (oi := ⟨some 165, .load _ _, _, _, _, _⟩) (.int .i64 (Z2 : Int)) rfl (by kernel_rfl) (by kernel_rfl) (by kernel_rfl) (fun _ _ _ h => h) (by kernel_rfl) (fun x hx => ex_load rfl rfl hx.2 (by kernel_rfl)) HS0 ?_
                    simp only [Act.put, List.setIfInBounds_toArray, List.set_cons_zero, List.set_cons_succ]
                    refine hk_call (i := 8) (oi := ⟨some 157, .call _, _, _, _, _⟩) (by kernel_rfl) rfl (by kernel_rfl) (by first | rfl | kernel_rfl) (HC1.out _ HLW.out.m) ?_
                    rintro e w15 ⟨rfl, hb15⟩
                    have HLX := Lib.hid (HLW.out.on hb15)
                    have HS1 := HS0.on hb15
                    refine ⟨_, rfl, HS1, ?_⟩
                    clear HS0 hb15 HLW HC1
                    simp only [Act.put, List.setIfInBounds_toArray, List.set_cons_zero, List.set_cons_succ]
                    refine hk_call (i := 17) (oi := ⟨some 166, .call _, _, _, _, _⟩) (by kernel_rfl) rfl (by kernel_rfl) (by first | rfl | kernel_rfl) (HC2.out _ HLX.out.r) ?_
                    rintro e w16 ⟨rfl, rfl⟩
                    refine ⟨_, rfl, HS1, ?_⟩
                    simp only [Act.put, List.setIfInBounds_toArray, List.set_cons_zero, List.set_cons_succ]
                    refine hk_val (i := 18) (oi := ⟨some 167, .binOp _ _ _ _ _, _, _, _, _⟩) (.bool false) rfl (by kernel_rfl) (by kernel_rfl) (by kernel_rfl) (fun _ _ _ h => h) (by kernel_rfl) (fun _ _ => by cases ok <;> kernel_rfl) HS1 ?_
                    simp only [Act.put, List.setIfInBounds_toArray, List.set_cons_zero, List.set_cons_succ]
                    refine wpAnyH_done (by kernel_rfl) ?_ _
                    go_wp2
                    go_roundw
                    case rel => exact ⟨h + 1, by omega, by omega, rfl, HLX.out, HS1⟩
                    case measure => simp [intOf]; omega
                  · go_wp2
                    go_roundw
                    case rel => exact ⟨k + 1, p5, q5, by omega, by omega, by go_num, by rw [HS'.out]; exact HLM.out, HP5.out, HQ5.out⟩
                    case measure => simp [intOf]; omega
            · have hsu : s' = s := by
                have := HSU.out
                unfold actM at this
                rw [if_neg h0, if_neg h1, if_neg h2] at this
                exact this
              have HLY := Lib.hid HLV.out
              have HVY := Lib.hid (VB.of HV.out)
              rw [← hsu] at HLY
              clear hsu HSU HLV HV
              have b0 : (kd == 0) = false := by simpa using h0
              have b1 : (kd == 1) = false := by simpa using h1
              have b2 : (kd == 2) = false := by simpa using h2
              clear h0 h1 h2
              have HP5 := HPG
              have HQ5 := HQG
              obtain ⟨p5, rfl⟩ : ∃ x, x = p := ⟨_, rfl⟩
              obtain ⟨q5, rfl⟩ : ∃ x, x = q := ⟨_, rfl⟩
              go_wp2_with fail
              have hmay := fun (w : World) (h : RrAt s' q5 w) => rmay_c h HSO2.out.n a z ha2
              rw [HQ5.out] at hmay
              have hl5 : s'.l.length ≤ 1000 := hl5'
              cases hmm : mayP s'.n a z with
              | false =>
                have ha3 := ha2
                have hln := fun (w : World) (h : RamAt s' p5 w) => load_no h HSO2.out.n a z ha2 hmm
                rw [HP5.out] at hln
                rw [hmm] at hmay
                have HLN := Lib.hid hln
                have HMY := Lib.hid hmay
                clear hln hmay hmm
                refine (HLN.out _ HLY.out.m).mono ?_
                rintro e w8 ⟨rfl, hb8⟩
                have HLM := Lib.hid (HLY.out.on hb8)
                have HVM := Lib.hid (HVY.out.on hb8)
                have u3 : w8.cell? ⟨wo.heap.size, 3, none⟩ = some (.int .i64 a) := HVM.out.1
                have u4 : w8.cell? ⟨wo.heap.size, 4, none⟩ = some (.int .i64 z) := HVM.out.2
                clear HLY HVY hb8 HLN
                go_wp2_with (first
                  | (go_at_call 17; refine (HMY.out _ HLM.out.r).mono ?_; rintro e w9 ⟨rfl, rfl⟩))
                clear u3 u4 HMY
                have HOKK := Lib.hid (fun (w : World) (h : Int) (hm : RamAt s' p5 w) => held_c hm HSO2.out.n h a z ha3)
                have HHAS := Lib.hid (fun (w : World) (h : Int) (hm : RrAt s' q5 w) => rhas_c hm HSO2.out.n h a z ha3)
                rw [HP5.out] at HOKK
                rw [HQ5.out] at HHAS
                go_loopw [14] (fun hh wx => ∃ h : Int, -1 ≤ h ∧ h ≤ 4 ∧ hh = .int .i64 h ∧ LQ w1 s' s' p5 q5 wx ∧ VB a z wo.heap.size wx) (fun hh _ => (4 - intOf hh).toNat)
                case atStart => exact ⟨-1, by omega, by omega, rfl, HLM.out, HVM.out⟩
                case round =>
                  obtain ⟨h, hh1, hh2, rfl, hlq, hvb⟩ := hrel
                  clear HLM HVM
                  have HLM := Lib.hid hlq
                  have HVM := Lib.hid hvb
                  clear hlq hvb
                  by_cases h4 : h < 4
                  · go_upto_region 30 with (fail)
                    have HLW := Lib.hid (HLM.out.on (Below.drew (Below.refl _ _)))
                    have HS0 := VB.on HVM.out (Below.drew (Below.refl _ _))
                    clear HLM HVM
                    obtain ⟨ok, hok⟩ : ∃ ok, helM s' h a z = ok := ⟨_, rfl⟩
                    have HC1 := Lib.hid (HOKK.out · h)
                    have HC2 := Lib.hid (HHAS.out · h)
                    rw [hok] at HC1 HC2
                    clear hok
                    refine wp_region_held (S := fun x => VB a z wo.heap.size x) (by kernel_rfl) ?_
                    change wpAnyH _ _ _ _ _ _ _ _ (World.drew _)
                    generalize World.drew _ = w14 at *
                    refine hk_val (i := 0) (oi := ⟨some 149, .move _, _, _, _, _⟩) (.pointer (some ⟨g, 0, none⟩)) rfl (by kernel_rfl) (by kernel_rfl) (by kernel_rfl) (fun _ _ _ h => h) (by kernel_rfl) (fun _ _ => rfl) HS0 ?_
                    simp only [Act.put, List.setIfInBounds_toArray, List.set_cons_zero, List.set_cons_succ]
                    refine hk_val (i := 1) (oi := ⟨some 150, .move _, _, _, _, _⟩) (.int .i64 h) rfl (by kernel_rfl) (by kernel_rfl) (by kernel_rfl) (fun _ _ _ h => h) (by kernel_rfl) (fun _ _ => rfl) HS0 ?_
                    simp only [Act.put, List.setIfInBounds_toArray, List.set_cons_zero, List.set_cons_succ]
                    refine hk_val (i := 2) (oi := ⟨some 151, .fieldAddr _ _ _, _, _, _, _⟩) (.pointer (some ⟨wo.heap.size, 2, none⟩)) rfl (by kernel_rfl) (by kernel_rfl) (by kernel_rfl) (fun _ _ _ h => h) (by kernel_rfl) (fun _ _ => by kernel_rfl) HS0 ?_
                    simp only [Act.put, List.setIfInBounds_toArray, List.set_cons_zero, List.set_cons_succ]
                    refine hk_val (i := 3) (oi := ⟨some 152, .fieldAddr _ _ _, _, _, _, _⟩) (.pointer (some ⟨wo.heap.size, 3, none⟩)) rfl (by kernel_rfl) (by kernel_rfl) (by kernel_rfl) (fun _ _ _ h => h) (by kernel_rfl) (fun _ _ => by kernel_rfl) HS0 ?_
                    simp only [Act.put, List.setIfInBounds_toArray, List.set_cons_zero, List.set_cons_succ]
                    refine hk_val (i := 4) (oi := ⟨some 153, .load _ _, _, _, _, _⟩) (.int .i64 a) rfl (by kernel_rfl) (by kernel_rfl) (by kernel_rfl) (fun _ _ _ h => h) (by kernel_rfl) (fun x hx => ex_load rfl rfl hx.1 (by kernel_rfl)) HS0 ?_
                    simp only [Act.put, List.setIfInBounds_toArray, List.set_cons_zero, List.set_cons_succ]
                    refine hk_val (i := 5) (oi := ⟨some 154, .fieldAddr _ _ _, _, _, _, _⟩) (.pointer (some ⟨wo.heap.size, 2, none⟩)) rfl (by kernel_rfl) (by kernel_rfl) (by kernel_rfl) (fun _ _ _ h => h) (by kernel_rfl) (fun _ _ => by kernel_rfl) HS0 ?_
                    simp only [Act.put, List.setIfInBounds_toArray, List.set_cons_zero, List.set_cons_succ]
                    refine hk_val (i := 6) (oi := ⟨some 155, .fieldAddr _ _ _, _, _, _, _⟩) (.pointer (some ⟨wo.heap.size, 4, none⟩)) rfl (by kernel_rfl) (by kernel_rfl) (by kernel_rfl) (fun _ _ _ h => h) (by kernel_rfl) (fun _ _ => by kernel_rfl) HS0 ?_
                    simp only [Act.put, List.setIfInBounds_toArray, List.set_cons_zero, List.set_cons_succ]
                    refine hk_val (i := 7) (oi := ⟨some 156, .load _ _, _, _, _, _⟩) (.int .i64 z) rfl (by kernel_rfl) (by kernel_rfl) (by kernel_rfl) (fun _ _ _ h => h) (by kernel_rfl) (fun x hx => ex_load rfl rfl hx.2 (by kernel_rfl)) HS0 ?_
                    simp only [Act.put, List.setIfInBounds_toArray, List.set_cons_zero, List.set_cons_succ]
                    refine hk_val (i := 9) (oi := ⟨some 158, .move _, _, _, _, _⟩) (.pointer (some ⟨gq, 0, none⟩)) rfl (by kernel_rfl) (by kernel_rfl) (by kernel_rfl) (fun _ _ _ h => h) (by kernel_rfl) (fun _ _ => rfl) HS0 ?_
                    simp only [Act.put, List.setIfInBounds_toArray, List.set_cons_zero, List.set_cons_succ]
                    refine hk_val (i := 10) (oi := ⟨some 159, .move _, _, _, _, _⟩) (.int .i64 h) rfl (by kernel_rfl) (by kernel_rfl) (by kernel_rfl) (fun _ _ _ h => h) (by kernel_rfl) (fun _ _ => rfl) HS0 ?_
                    simp only [Act.put, List.setIfInBounds_toArray, List.set_cons_zero, List.set_cons_succ]
                    refine hk_val (i := 11) (oi := ⟨some 160, .fieldAddr _ _ _, _, _, _, _⟩) (.pointer (some ⟨wo.heap.size, 2, none⟩)) rfl (by kernel_rfl) (by kernel_rfl) (by kernel_rfl) (fun _ _ _ h => h) (by kernel_rfl) (fun _ _ => by kernel_rfl) HS0 ?_
                    simp only [Act.put, List.setIfInBounds_toArray, List.set_cons_zero, List.set_cons_succ]
                    refine hk_val (i := 12) (oi := ⟨some 161, .fieldAddr _ _ _, _, _, _, _⟩) (.pointer (some ⟨wo.heap.size, 3, none⟩)) rfl (by kernel_rfl) (by kernel_rfl) (by kernel_rfl) (fun _ _ _ h => h) (by kernel_rfl) (fun _ _ => by kernel_rfl) HS0 ?_
                    simp only [Act.put, List.setIfInBounds_toArray, List.set_cons_zero, List.set_cons_succ]
                    refine hk_val (i := 13) (oi := ⟨some 162, .load _ _, _, _, _, _⟩) (.int .i64 a) rfl (by kernel_rfl) (by kernel_rfl) (by kernel_rfl) (fun _ _ _ h => h) (by kernel_rfl) (fun x hx => ex_load rfl rfl hx.1 (by kernel_rfl)) HS0 ?_
                    simp only [Act.put, List.setIfInBounds_toArray, List.set_cons_zero, List.set_cons_succ]
                    refine hk_val (i := 14) (oi := ⟨some 163, .fieldAddr _ _ _, _, _, _, _⟩) (.pointer (some ⟨wo.heap.size, 2, none⟩)) rfl (by kernel_rfl) (by kernel_rfl) (by kernel_rfl) (fun _ _ _ h => h) (by kernel_rfl) (fun _ _ => by kernel_rfl) HS0 ?_
                    simp only [Act.put, List.setIfInBounds_toArray, List.set_cons_zero, List.set_cons_succ]
                    refine hk_val (i := 15) (oi := ⟨some 164, .fieldAddr _ _ _, _, _, _, _⟩) (.pointer (some ⟨wo.heap.size, 4, none⟩)) rfl (by kernel_rfl) (by kernel_rfl) (by kernel_rfl) (fun _ _ _ h => h) (by kernel_rfl) (fun _ _ => by kernel_rfl) HS0 ?_
                    simp only [Act.put, List.setIfInBounds_toArray, List.set_cons_zero, List.set_cons_succ]
                    refine hk_val (i := 16) (oi := ⟨some 165, .load _ _, _, _, _, _⟩) (.int .i64 z) rfl (by kernel_rfl) (by kernel_rfl) (by kernel_rfl) (fun _ _ _ h => h) (by kernel_rfl) (fun x hx => ex_load rfl rfl hx.2 (by kernel_rfl)) HS0 ?_
                    simp only [Act.put, List.setIfInBounds_toArray, List.set_cons_zero, List.set_cons_succ]
                    refine hk_call (i := 8) (oi := ⟨some 157, .call _, _, _, _, _⟩) (by kernel_rfl) rfl (by kernel_rfl) (by first | rfl | kernel_rfl) (HC1.out _ HLW.out.m) ?_
                    rintro e w15 ⟨rfl, hb15⟩
                    have HLX := Lib.hid (HLW.out.on hb15)
                    have HS1 := HS0.on hb15
                    refine ⟨_, rfl, HS1, ?_⟩
                    clear HS0 hb15 HLW HC1
                    simp only [Act.put, List.setIfInBounds_toArray, List.set_cons_zero, List.set_cons_succ]
                    refine hk_call (i := 17) (oi := ⟨some 166, .call _, _, _, _, _⟩) (by kernel_rfl) rfl (by kernel_rfl) (by first | rfl | kernel_rfl) (HC2.out _ HLX.out.r) ?_
                    rintro e w16 ⟨rfl, rfl⟩
                    refine ⟨_, rfl, HS1, ?_⟩
                    simp only [Act.put, List.setIfInBounds_toArray, List.set_cons_zero, List.set_cons_succ]
                    refine hk_val (i := 18) (oi := ⟨some 167, .binOp _ _ _ _ _, _, _, _, _⟩) (.bool false) rfl (by kernel_rfl) (by kernel_rfl) (by kernel_rfl) (fun _ _ _ h => h) (by kernel_rfl) (fun _ _ => by cases ok <;> kernel_rfl) HS1 ?_
                    simp only [Act.put, List.setIfInBounds_toArray, List.set_cons_zero, List.set_cons_succ]
                    refine wpAnyH_done (by kernel_rfl) ?_ _
                    go_wp2
                    go_roundw
                    case rel => exact ⟨h + 1, by omega, by omega, rfl, HLX.out, HS1⟩
                    case measure => simp [intOf]; omega
                  · go_wp2
                    go_roundw
                    case rel => exact ⟨k + 1, p5, q5, by omega, by omega, by go_num, by rw [HS'.out]; exact HLM.out, HP5.out, HQ5.out⟩
                    case measure => simp [intOf]; omega
              | true =>
                have hmo := mayP_out hmm
                obtain ⟨A2, rfl⟩ : ∃ k : Nat, a = (k : Int) := ⟨a.toNat, by omega⟩
                obtain ⟨Z2, rfl⟩ : ∃ k : Nat, z = (k : Int) := ⟨z.toNat, by omega⟩
                have ha3 := ha2
                have haz : A2 + Z2 ≤ s'.b0.length := by have := hmo.2.2.2; unfold Mst.n at this; omega
                have hz8 : Z2 ≤ 8 := by omega
                have hly := fun (w : World) (h : RamAt s' p5 w) => load_yes h HSO2.out.n HSO2.out.byts A2 Z2 hmm
                have hrl := fun (w : World) (h : RrAt s' q5 w) => rload_c h HSO2.out hl5 A2 Z2 hz8 haz
                rw [HP5.out] at hly
                rw [HQ5.out] at hrl
                rw [hmm] at hmay
                have HLN := Lib.hid hly
                have HRL := Lib.hid hrl
                have HMY := Lib.hid hmay
                have HTP := Lib.hid (tagsP_len s' A2 Z2 haz)
                clear hly hrl hmay hmm hmo haz
                refine (HLN.out _ HLY.out.m).mono ?_
                rintro e w8 ⟨v8, rfl, ho8, hb8⟩
                rw [HTP.out] at ho8
                obtain ⟨A8, c8, rfl, -⟩ := own_parts ho8
                have HR8 := Lib.hid (Rd.of_row ho8)
                have HLM8 := Lib.hid (HLY.out.on hb8)
                have HVM8 := Lib.hid (HVY.out.on hb8)
                have u3 : w8.cell? ⟨wo.heap.size, 3, none⟩ = some (.int .i64 (A2 : Int)) := HVM8.out.1
                have u4 : w8.cell? ⟨wo.heap.size, 4, none⟩ = some (.int .i64 (Z2 : Int)) := HVM8.out.2
                clear HLY HVY hb8 HLN ho8
                obtain ⟨X, hX⟩ : ∃ X, ofB (bytesP s' A2 Z2) = X := ⟨_, rfl⟩
                rw [hX] at HRL ⊢
                clear hX
                have hxx : (X != X) = false := by simp
                go_wp2_with (first
                  | (go_at_call 17; refine (HMY.out _ HLM8.out.r).mono ?_; rintro e w9 ⟨rfl, rfl⟩))
                refine (HRL.out _ HLM8.out.r).mono ?_
                rintro e w9 ⟨v9, rfl, ho9, hb9⟩
                rw [HTP.out] at ho9
                obtain ⟨A9, c9, rfl, -⟩ := own_parts ho9
                have HR9 := Lib.hid (Rd.of_row ho9)
                have HR89 := Lib.hid ((HR8.out.below hb9).mono (Below.size hb9))
                have HLM9 := Lib.hid (HLM8.out.on hb9)
                have HVM9 := Lib.hid (HVM8.out.on hb9)
                clear HLM8 HVM8 HR8 ho9 hb9 u3 u4 HMY HRL
                go_wp2_with fail
                refine (sameI_eq A8 A9 c8 c9 (tagsP s' A2 Z2) Z2 _ HTP.out (by omega) HR89.out HR9.out).mono ?_
                rintro e w10 ⟨rfl, hb10⟩
                have HLM := Lib.hid (HLM9.out.on hb10)
                have HVM := Lib.hid (HVM9.out.on hb10)
                clear HLM9 HVM9 HR89 HR9 hb10 hxx
                go_wp2
                have HOKK := Lib.hid (fun (w : World) (h : Int) (hm : RamAt s' p5 w) => held_c hm HSO2.out.n h (A2 : Int) (Z2 : Int) ha3)
                have HHAS := Lib.hid (fun (w : World) (h : Int) (hm : RrAt s' q5 w) => rhas_c hm HSO2.out.n h (A2 : Int) (Z2 : Int) ha3)
                rw [HP5.out] at HOKK
                rw [HQ5.out] at HHAS
                go_loopw [14] (fun hh wx => ∃ h : Int, -1 ≤ h ∧ h ≤ 4 ∧ hh = .int .i64 h ∧ LQ w1 s' s' p5 q5 wx ∧ VB (A2 : Int) (Z2 : Int) wo.heap.size wx) (fun hh _ => (4 - intOf hh).toNat)
                case atStart => exact ⟨-1, by omega, by omega, rfl, HLM.out, HVM.out⟩
                case round =>
                  obtain ⟨h, hh1, hh2, rfl, hlq, hvb⟩ := hrel
                  clear HLM HVM
                  have HLM := Lib.hid hlq
                  have HVM := Lib.hid hvb
                  clear hlq hvb
                  by_cases h4 : h < 4
                  · go_upto_region 30 with (fail)
                    have HLW := Lib.hid (HLM.out.on (Below.drew (Below.refl _ _)))
                    have HS0 := VB.on HVM.out (Below.drew (Below.refl _ _))
                    clear HLM HVM
                    obtain ⟨ok, hok⟩ : ∃ ok, helM s' h (A2 : Int) (Z2 : Int) = ok := ⟨_, rfl⟩
                    have HC1 := Lib.hid (HOKK.out · h)
                    have HC2 := Lib.hid (HHAS.out · h)
                    rw [hok] at HC1 HC2
                    clear hok
                    refine wp_region_held (S := fun x => VB (A2 : Int) (Z2 : Int) wo.heap.size x) (by kernel_rfl) ?_
                    change wpAnyH _ _ _ _ _ _ _ _ (World.drew _)
                    generalize World.drew _ = w14 at *
                    refine hk_val (i := 0) (oi := ⟨some 149, .move _, _, _, _, _⟩) (.pointer (some ⟨g, 0, none⟩)) rfl (by kernel_rfl) (by kernel_rfl) (by kernel_rfl) (fun _ _ _ h => h) (by kernel_rfl) (fun _ _ => rfl) HS0 ?_
                    simp only [Act.put, List.setIfInBounds_toArray, List.set_cons_zero, List.set_cons_succ]
                    refine hk_val (i := 1) (oi := ⟨some 150, .move _, _, _, _, _⟩) (.int .i64 h) rfl (by kernel_rfl) (by kernel_rfl) (by kernel_rfl) (fun _ _ _ h => h) (by kernel_rfl) (fun _ _ => rfl) HS0 ?_
                    simp only [Act.put, List.setIfInBounds_toArray, List.set_cons_zero, List.set_cons_succ]
                    refine hk_val (i := 2) (oi := ⟨some 151, .fieldAddr _ _ _, _, _, _, _⟩) (.pointer (some ⟨wo.heap.size, 2, none⟩)) rfl (by kernel_rfl) (by kernel_rfl) (by kernel_rfl) (fun _ _ _ h => h) (by kernel_rfl) (fun _ _ => by kernel_rfl) HS0 ?_
                    simp only [Act.put, List.setIfInBounds_toArray, List.set_cons_zero, List.set_cons_succ]
                    refine hk_val (i := 3) (oi := ⟨some 152, .fieldAddr _ _ _, _, _, _, _⟩) (.pointer (some ⟨wo.heap.size, 3, none⟩)) rfl (by kernel_rfl) (by kernel_rfl) (by kernel_rfl) (fun _ _ _ h => h) (by kernel_rfl) (fun _ _ => by kernel_rfl) HS0 ?_
                    simp only [Act.put, List.setIfInBounds_toArray, List.set_cons_zero, List.set_cons_succ]
                    refine hk_val (i := 4) (oi := ⟨some 153, .load _ _, _, _, _, _⟩) (.int .i64 (A2 : Int)) rfl (by kernel_rfl) (by kernel_rfl) (by kernel_rfl) (fun _ _ _ h => h) (by kernel_rfl) (fun x hx => ex_load rfl rfl hx.1 (by kernel_rfl)) HS0 ?_
                    simp only [Act.put, List.setIfInBounds_toArray, List.set_cons_zero, List.set_cons_succ]
                    refine hk_val (i := 5) (oi := ⟨some 154, .fieldAddr _ _ _, _, _, _, _⟩) (.pointer (some ⟨wo.heap.size, 2, none⟩)) rfl (by kernel_rfl) (by kernel_rfl) (by kernel_rfl) (fun _ _ _ h => h) (by kernel_rfl) (fun _ _ => by kernel_rfl) HS0 ?_
                    simp only [Act.put, List.setIfInBounds_toArray, List.set_cons_zero, List.set_cons_succ]
                    refine hk_val (i := 6) (oi := ⟨some 155, .fieldAddr _ _ _, _, _, _, _⟩) (.pointer (some ⟨wo.heap.size, 4, none⟩)) rfl (by kernel_rfl) (by kernel_rfl) (by kernel_rfl) (fun _ _ _ h => h) (by kernel_rfl) (fun _ _ => by kernel_rfl) HS0 ?_
                    simp only [Act.put, List.setIfInBounds_toArray, List.set_cons_zero, List.set_cons_succ]
                    refine hk_val (i := 7) (oi := ⟨some 156, .load _ _, _, _, _, _⟩) (.int .i64 (Z2 : Int)) rfl (by kernel_rfl) (by kernel_rfl) (by kernel_rfl) (fun _ _ _ h => h) (by kernel_rfl) (fun x hx => ex_load rfl rfl hx.2 (by kernel_rfl)) HS0 ?_
                    simp only [Act.put, List.setIfInBounds_toArray, List.set_cons_zero, List.set_cons_succ]
                    refine hk_val (i := 9) (oi := ⟨some 158, .move _, _, _, _, _⟩) (.pointer (some ⟨gq, 0, none⟩)) rfl (by kernel_rfl) (by kernel_rfl) (by kernel_rfl) (fun _ _ _ h => h) (by kernel_rfl) (fun _ _ => rfl) HS0 ?_
                    simp only [Act.put, List.setIfInBounds_toArray, List.set_cons_zero, List.set_cons_succ]
                    refine hk_val (i := 10) (oi := ⟨some 159, .move _, _, _, _, _⟩) (.int .i64 h) rfl (by kernel_rfl) (by kernel_rfl) (by kernel_rfl) (fun _ _ _ h => h) (by kernel_rfl) (fun _ _ => rfl) HS0 ?_
                    simp only [Act.put, List.setIfInBounds_toArray, List.set_cons_zero, List.set_cons_succ]
                    refine hk_val (i := 11) (oi := ⟨some 160, .fieldAddr _ _ _, _, _, _, _⟩) (.pointer (some ⟨wo.heap.size, 2, none⟩)) rfl (by kernel_rfl) (by kernel_rfl) (by kernel_rfl) (fun _ _ _ h => h) (by kernel_rfl) (fun _ _ => by kernel_rfl) HS0 ?_
                    simp only [Act.put, List.setIfInBounds_toArray, List.set_cons_zero, List.set_cons_succ]
                    refine hk_val (i := 12) (oi := ⟨some 161, .fieldAddr _ _ _, _, _, _, _⟩) (.pointer (some ⟨wo.heap.size, 3, none⟩)) rfl (by kernel_rfl) (by kernel_rfl) (by kernel_rfl) (fun _ _ _ h => h) (by kernel_rfl) (fun _ _ => by kernel_rfl) HS0 ?_
                    simp only [Act.put, List.setIfInBounds_toArray, List.set_cons_zero, List.set_cons_succ]
                    refine hk_val (i := 13) (oi := ⟨some 162, .load _ _, _, _, _, _⟩) (.int .i64 (A2 : Int)) rfl (by kernel_rfl) (by kernel_rfl) (by kernel_rfl) (fun _ _ _ h => h) (by kernel_rfl) (fun x hx => ex_load rfl rfl hx.1 (by kernel_rfl)) HS0 ?_
                    simp only [Act.put, List.setIfInBounds_toArray, List.set_cons_zero, List.set_cons_succ]
                    refine hk_val (i := 14) (oi := ⟨some 163, .fieldAddr _ _ _, _, _, _, _⟩) (.pointer (some ⟨wo.heap.size, 2, none⟩)) rfl (by kernel_rfl) (by kernel_rfl) (by kernel_rfl) (fun _ _ _ h => h) (by kernel_rfl) (fun _ _ => by kernel_rfl) HS0 ?_
                    simp only [Act.put, List.setIfInBounds_toArray, List.set_cons_zero, List.set_cons_succ]
                    refine hk_val (i := 15) (oi := ⟨some 164, .fieldAddr _ _ _, _, _, _, _⟩) (.pointer (some ⟨wo.heap.size, 4, none⟩)) rfl (by kernel_rfl) (by kernel_rfl) (by kernel_rfl) (fun _ _ _ h => h) (by kernel_rfl) (fun _ _ => by kernel_rfl) HS0 ?_
                    simp only [Act.put, List.setIfInBounds_toArray, List.set_cons_zero, List.set_cons_succ]
                    refine hk_val (i := 16) (oi := ⟨some 165, .load _ _, _, _, _, _⟩) (.int .i64 (Z2 : Int)) rfl (by kernel_rfl) (by kernel_rfl) (by kernel_rfl) (fun _ _ _ h => h) (by kernel_rfl) (fun x hx => ex_load rfl rfl hx.2 (by kernel_rfl)) HS0 ?_
                    simp only [Act.put, List.setIfInBounds_toArray, List.set_cons_zero, List.set_cons_succ]
                    refine hk_call (i := 8) (oi := ⟨some 157, .call _, _, _, _, _⟩) (by kernel_rfl) rfl (by kernel_rfl) (by first | rfl | kernel_rfl) (HC1.out _ HLW.out.m) ?_
                    rintro e w15 ⟨rfl, hb15⟩
                    have HLX := Lib.hid (HLW.out.on hb15)
                    have HS1 := HS0.on hb15
                    refine ⟨_, rfl, HS1, ?_⟩
                    clear HS0 hb15 HLW HC1
                    simp only [Act.put, List.setIfInBounds_toArray, List.set_cons_zero, List.set_cons_succ]
                    refine hk_call (i := 17) (oi := ⟨some 166, .call _, _, _, _, _⟩) (by kernel_rfl) rfl (by kernel_rfl) (by first | rfl | kernel_rfl) (HC2.out _ HLX.out.r) ?_
                    rintro e w16 ⟨rfl, rfl⟩
                    refine ⟨_, rfl, HS1, ?_⟩
                    simp only [Act.put, List.setIfInBounds_toArray, List.set_cons_zero, List.set_cons_succ]
                    refine hk_val (i := 18) (oi := ⟨some 167, .binOp _ _ _ _ _, _, _, _, _⟩) (.bool false) rfl (by kernel_rfl) (by kernel_rfl) (by kernel_rfl) (fun _ _ _ h => h) (by kernel_rfl) (fun _ _ => by cases ok <;> kernel_rfl) HS1 ?_
                    simp only [Act.put, List.setIfInBounds_toArray, List.set_cons_zero, List.set_cons_succ]
                    refine wpAnyH_done (by kernel_rfl) ?_ _
                    go_wp2
                    go_roundw
                    case rel => exact ⟨h + 1, by omega, by omega, rfl, HLX.out, HS1⟩
                    case measure => simp [intOf]; omega
                  · go_wp2
                    go_roundw
                    case rel => exact ⟨k + 1, p5, q5, by omega, by omega, by go_num, by rw [HS'.out]; exact HLM.out, HP5.out, HQ5.out⟩
                    case measure => simp [intOf]; omega
      · have hok := HOK.out k (by omega)
        have hl3 := runP_len s0 l k (by omega)
        obtain ⟨s, hs⟩ : ∃ s, runP s0 l k = s := ⟨_, rfl⟩
        rw [hs] at HLQ hok hl3
        have hl4 : s.l.length ≤ 1000 := by have := HLS.out; omega
        have hsm := fun (w : World) (h1 : RamAt s p w) (h2 : RrAt s q w) => same_c h1 h2 hok hl4
        rw [HPG.out, HQG.out] at hsm
        have HSM := Lib.hid hsm
        clear hs hok hl3 hsm
        have hc' : (¬ (k : Int) < (l.length : Int)) ∨ ((k : Int) < (l.length : Int) ∧ ¬ (k : Int) < 40) := by omega
        clear hc
        rcases hc' with d1 | ⟨d1, d2⟩
        all_goals
          go_wp2_with fail
          refine (HAL.out _).mono ?_
          rintro e w8 ⟨rfl, hb8⟩
          have HL8 := Lib.hid (HLQ.out.on hb8)
          clear HLQ hb8
          go_wp2_with fail
          refine (HSM.out _ HL8.out.m HL8.out.r).mono ?_
          rintro e w9 ⟨rfl, hb9⟩
          have HF := Lib.hid ((HB1.out.on HL8.out.bw).on hb9)
          clear hb9
          go_wp2
          go_ret
          exact ⟨rfl, HF.out⟩
theorem ramPlays_law (A : Option Addr) (cap : Nat) (l0 : List Int) (B : Option Addr) (bap : Nat) (l1 : List Ac) (W : World) (hl : l0.length ≤ cap) (hcap : cap ≤ 9223372036854775807) (hA : A = none → cap = 0 ∧ l0 = []) (hw : ∀ z ∈ l0, (Lit.int .u8 z).wf = true) (hr : Rd W W.heap.size A (l0.map (Value.int .u8)))
    (hm : l1.length ≤ bap) (hbap : bap ≤ 9223372036854775807) (_ : B = none → bap = 0 ∧ l1 = []) (hws : Wacs l1) (hra : Rd W W.heap.size B (cellsA l1)) :
    Calls Try.prog 3 #[.slice A l0.length cap, .slice B l1.length bap] W fun e w' => e = .returned (.bool true) ∧ Below W.heap.size W w' :=
  plays_walk A cap l0 B bap l1 W hl hcap hA (byts_wf hw) hr hm hbap hws hra
end Go.Proofs.Yteoemjhhjnkkiaa
