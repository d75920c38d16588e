/- The program's FormatUint at base 10; a number's line. The program's Lines. -/
import Derived.Test.YtolmecnjolfjgaaGreatDoorKn9
import Derived.Lib.Walk
import Derived.Lib.ItoaMem
import Derived.BigCall
import Derived.BigGuard
import Derived.Test.YtolmecnjolfjgaaGreatDoorElp
import Derived.Test.YtolmecnjolfjgaaGreatDoorKr9
set_option maxRecDepth 100000
namespace Go.Proofs.YtolmecnjolfjgaaGreatDoor
open Go.RowKit Go.Sort

theorem holds_zero0 (w : World) (T : TypeId) (nd : Nat) (hs : nd ≤ 24) : Holds (fun (b : UInt8) => Value.int .u8 (b.toNat : Int)) (w.alloc (.cells Lib.zeros24 T)) w.heap.size 0 (Array.replicate nd (0 : UInt8)) := fun j hj => by
  have hj' : j < nd := by simpa using hj
  refine ⟨?_, World.frozen?_alloc_new _ _ _ _⟩
  rw [World.cell?_alloc_new, Nat.zero_add, Lib.zeros24_at _ (by omega), getElem!_pos _ j hj]
  simp
theorem fin_zero (w : World) (o : Obj) (dk : Array UInt8) (k : Nat) : ∃ os, (putRow (fun (b : UInt8) => Value.int .u8 (b.toNat : Int)) (w.alloc o) w.heap.size 0 dk).drewN k = grow (w.drewN k) os := by
  rw [alloc_eq_grow]
  obtain ⟨os', _, e⟩ := putRow_grow_new (fun (b : UInt8) => Value.int .u8 (b.toNat : Int)) w #[o] w.heap.size 0 dk (Nat.le_refl _)
  exact ⟨os', by rw [e]; rfl⟩
set_option maxHeartbeats 6400000 in
theorem ifmtu_c (u : Nat) (h : u < 4294967296) (w : World) (hT : TabP w) :
    Calls Tryz.prog 115 #[.int .u64 u, .int .i64 10] w fun e w' => e = .returned (tx (digI u)) ∧ Below w.heap.size w w' := by
  have hdig : digI (u : Int) = Lib.decDigits u := by
    have hi : I64 (u : Int) := by unfold I64; omega
    rw [← itoa_digI hi, Lib.itoa_nonneg]
  have htx : tx (digI (u : Int)) = .string ⟨(Lib.decDigits u).toArray⟩ := by rw [hdig]; rfl
  rw [htx]
  clear htx hdig
  have hu64 : u < 18446744073709551616 := by omega
  by_cases hs : u < 100
  · have hcv : IntKind.i64.wrap (u : Int) = u := by rw [IntKind.wrap_i64]; omega
    have hlt : decide ((u : Int) < 100) = true := decide_eq_true (by omega)
    go_enter Tryz.func115, Tryz.ntmps115
    go_wp2_with (go_at_call 161; refine (Tryz.internal_strconv_small u hs _).mono ?_; rintro e w' ⟨rfl, rfl⟩)
    go_ret
    exact ⟨rfl, Below.refl _ _⟩
  · have hu1 : 1 ≤ u := by omega
    have hlt : decide ((u : Int) < 100) = false := decide_eq_false (by omega)
    have hnd20 : Lib.nDigits u ≤ 20 := by have := Lib.numDigits_eq u hu1 hu64; split at this <;> omega
    have hal : Tryz.prog.arrayLen 163 = 24 := by simp [Program.arrayLen, Tryz.underlying163]
    have hsl1 : ∀ W, (Instr.sliceAt 163 (.pointer (some ⟨w.heap.size, 0, none⟩)) none (some (.int .i64 (Lib.nDigits u : Int))) none).run Tryz.prog W = .ok (.slice (some ⟨w.heap.size, 0, none⟩) (Lib.nDigits u) 24) W := fun W => by
      rw [run_sliceAt_array_h W 163 ⟨w.heap.size, 0, none⟩ (by simp [Program.arrayLen, Program.elem, Tryz.underlying163]) .i64 (Lib.nDigits u : Int) (by omega) (by rw [hal]; omega)]
      go_simp
      try omega
    have hH0 := holds_zero0 w 163 (Lib.nDigits u) (by omega)
    have hfmt := Tryz.internal_strconv_formatBase10 w.heap.size 0 24 u (Array.replicate (Lib.nDigits u) 0) (w.alloc (.cells Lib.zeros24 163)) hH0 (by rw [Array.size_replicate]; exact Lib.lt_pow_nDigits u) hu64 (by rw [Array.size_replicate]; omega)
    rw [Array.size_replicate] at hfmt
    have HH0 := Lib.hid hH0
    have HTAB := Lib.hid (hT.below ((Below.refl _ w).alloc (Nat.le_refl _) (.cells Lib.zeros24 163)))
    clear hH0 hal hT
    go_enter Tryz.func115, Tryz.ntmps115
    go_wp2_with (first
      | (go_at_call 162; refine (Any.internal_strconv_numDigits { Tryz.laysM173 with } u hu1 hu64 _ (tabP_is (by kernel_rfl) HTAB.out)).mono ?_; rintro e w' ⟨rfl, rfl⟩)
      | (go_at_call 163; refine hfmt.mono ?_; rintro e w' ⟨rfl, k, v', dk, rfl, hF⟩; have hcv : (convert 22 9 (.slice (some ⟨w.heap.size, 0, none⟩) (Lib.nDigits u) 24)).run Tryz.prog ((putRow (fun (b : UInt8) => Value.int .u8 (b.toNat : Int)) (w.alloc (.cells Lib.zeros24 163)) w.heap.size 0 dk).drewN k) = .ok (.string ⟨(Lib.decDigits u).toArray⟩) ((putRow (fun (b : UInt8) => Value.int .u8 (b.toNat : Int)) (w.alloc (.cells Lib.zeros24 163)) w.heap.size 0 dk).drewN k) := (by
          have h := run_convert_bytes_back (P := Tryz.prog) ((putRow (fun (b : UInt8) => Value.int .u8 (b.toNat : Int)) (w.alloc (.cells Lib.zeros24 163)) w.heap.size 0 dk).drewN k) 22 9 5 ⟨w.heap.size, 0, none⟩ 24 (Lib.decDigits u) Tryz.underlying22 Tryz.underlying5 Tryz.underlying9 (fun j hj => by
            rw [Lib.row_is_numeral hF j hj, Lib.add_plain, World.cell?_drewN]
            exact cell?_putRow (fun (b : UInt8) => Value.int .u8 (b.toNat : Int)) _ w.heap.size 0 _ dk HH0.out (by rw [hF.size, Array.size_replicate]) j (by rw [hF.size]; rw [Lib.decDigits_length] at hj; exact hj))
          rw [Lib.decDigits_length] at h
          exact h)))
    go_ret
    obtain ⟨os, eo⟩ := fin_zero w (.cells Lib.zeros24 163) dk k
    rw [eo]
    exact ⟨rfl, grow_below k os⟩
theorem fmtu_c (u : Nat) (h : u < 4294967296) (w : World) (hT : TabP w) :
    Calls Tryz.prog 60 #[.int .u64 u, .int .i64 10] w fun e w' => e = .returned (tx (digI u)) ∧ Below w.heap.size w w' := by
  have KI := ifmtu_c u h w hT
  generalize tx (digI u) = v at *
  clear hT
  go_enter Tryz.func60, Tryz.ntmps60
  go_wp2_with (first
    | (go_at_call 115; refine KI.mono ?_; rintro e w' ⟨rfl, hb⟩))
  go_ret
  exact ⟨rfl, hb⟩
/-- The line of a word and a number. -/
def nlT (F : List UInt8) (u : Nat) : List UInt8 := F ++ 32 :: digI u
theorem nl_c (F : List UInt8) (hF : F.length ≤ 100) (u : Nat) (h : u < 4294967296) (w : World) (hT : TabP w) :
    Calls Tryz.prog 30 #[tx F, .int .u64 u] w fun e w' => e = .returned (tx (nlT F u)) ∧ Below w.heap.size w w' := by
  have KI := fmtu_c u h w hT
  have hdl : (digI (u : Int)).length ≤ 30 := by
    unfold digI
    split
    · have := digF_len 20 (u : Int).natAbs; unfold digU; simp; omega
    · have := digF_len 20 (u : Int).natAbs; unfold digU; omega
  have h1 : ∀ w2 : World, (Op.stringOp .add (bs F) ⟨#[32]⟩).run Tryz.prog w2 = .ok (.string (bs (F ++ [32]))) w2 := fun w2 => run_string_add_lists w2 F [32] (by omega) (by decide)
  have h2 : ∀ w2 : World, (Op.stringOp .add (bs (F ++ [32])) (bs (digI u))).run Tryz.prog w2 = .ok (.string (bs (nlT F u))) w2 := fun w2 => by
    rw [show nlT F u = (F ++ [32]) ++ digI u by unfold nlT; simp]
    exact run_string_add_lists w2 _ _ (by simp; omega) (by omega)
  unfold tx at *
  clear hT hdl
  generalize bs (nlT F u) = z at *
  generalize bs (digI u) = d at *
  generalize bs (F ++ [32]) = y at *
  generalize bs F = q at *
  go_enter Tryz.func30, Tryz.ntmps30
  go_wp2_with (first
    | (go_at_call 60; refine KI.mono ?_; rintro e w' ⟨rfl, hb⟩))
  go_ret
  exact ⟨rfl, hb⟩
end Go.Proofs.YtolmecnjolfjgaaGreatDoor
namespace Go.Proofs.YtolmecnjolfjgaaGreatDoor
open Go.RowKit

theorem own_apart2 {w : World} {b1 b2 n1 n2 s1 s2 : Nat} {e1 e2 : TypeId} {v1 v2 : Value} {xs ys : List Value} (h1 : w.ownsRow b1 e1 s1 v1 n1 xs) (h2 : w.ownsRow b2 e2 s2 v2 n2 ys) (hne : e1 ≠ e2) : v1.ownBlock = none ∨ v1.ownBlock ≠ v2.ownBlock := by
  rcases h1.2 with ⟨rfl, _⟩ | ⟨g1, c1, cur1, rfl, _, hg1, _⟩
  · exact .inl rfl
  · rcases h2.2 with ⟨rfl, _⟩ | ⟨g2, c2, cur2, rfl, _, hg2, _⟩
    · exact .inr (by simp [Value.ownBlock])
    · right
      simp only [Value.ownBlock]
      intro e
      obtain rfl := Option.some.inj e
      rw [hg1] at hg2
      exact hne (by injection Option.some.inj hg2)
theorem bytes_of4 (a b c d : Int) (ha : 0 ≤ a ∧ a < 256) (hb : 0 ≤ b ∧ b < 256) (hc : 0 ≤ c ∧ c < 256) (hd : 0 ≤ d ∧ d < 256) : bytesL (a + 256 * b + 65536 * c + 16777216 * d) 4 = [a, b, c, d] := by
  show [byteAt _ 0, byteAt _ 1, byteAt _ 2, byteAt _ 3] = _
  unfold byteAt
  simp only [List.cons.injEq, and_true]
  rw [show (256 : Int) ^ 0 = 1 from rfl, show (256 : Int) ^ 1 = 256 from rfl, show (256 : Int) ^ 2 = 65536 from rfl, show (256 : Int) ^ 3 = 16777216 from rfl]
  omega
/-- The four bytes of a word, in place; the bytes of an instruction. -/
def hereB (bs : List Int) (k : Nat) : List Int := [bs.getD (4 * k) 0, bs.getD (4 * k + 1) 0, bs.getD (4 * k + 2) 0, bs.getD (4 * k + 3) 0]
def ownB (i : Ins) : List Int := if rgtB i then bytesL (wordV i) 4 else []
def dotW : List UInt8 := [46, 119, 111, 114, 100]
def dotB : List UInt8 := [46, 98, 121, 116, 101]
def lineW (bs : List Int) (k : Nat) : List UInt8 := if ownB (decI (word4 bs (4 * k))) = hereB bs k then textT (decI (word4 bs (4 * k))) else nlT dotW (word4 bs (4 * k)).toNat
def lineB (bs : List Int) (j : Nat) : List UInt8 := nlT dotB (bs.getD j 0).toNat
def linesK (bs : List Int) (k : Nat) : List (List UInt8) := (List.range k).map (lineW bs)
def linesR (bs : List Int) (j : Nat) : List (List UInt8) := linesK bs (bs.length / 4) ++ (List.range j).map (fun i => lineB bs (4 * (bs.length / 4) + i))
/-- The lines of some bytes. -/
def linesL (bs : List Int) : List (List UInt8) := linesR bs (bs.length % 4)
theorem linesK_succ (bs : List Int) (k : Nat) : linesK bs (k + 1) = linesK bs k ++ [lineW bs k] := by unfold linesK; rw [List.range_succ, List.map_append]; rfl
theorem linesR_succ (bs : List Int) (k : Nat) : linesR bs (k + 1) = linesR bs k ++ [lineB bs (4 * (bs.length / 4) + k)] := by unfold linesR; rw [List.range_succ, List.map_append, List.append_assoc]; rfl
theorem txs_snoc (l : List (List UInt8)) (x : List UInt8) : txs (l ++ [x]) = txs l ++ [tx x] := by unfold txs; simp
theorem linesK_len (bs : List Int) (k : Nat) : (linesK bs k).length = k := by unfold linesK; simp
theorem linesR_len (bs : List Int) (k : Nat) : (linesR bs k).length = bs.length / 4 + k := by unfold linesR; rw [List.length_append, linesK_len]; simp
/-- Lines came, in a row of the call's own. -/
def RetL (w : World) (l : List (List UInt8)) (e : Ending) (w' : World) : Prop := ∃ v, e = .returned v ∧ w'.ownsRow w.heap.size 9 1 v l.length (txs l) ∧ Below w.heap.size w w'
theorem RetL.of {w w' : World} {l : List (List UInt8)} {n : Nat} {v : Value} (hn : n = l.length) (h : w'.ownsRow w.heap.size 9 1 v n (txs l)) (hb : Below w.heap.size w w') : RetL w l (.returned v) w' := ⟨v, rfl, hn ▸ h, hb⟩
/-- The bytes of one instruction came. -/
theorem prog_one (d : Ins) (ho : I64 d.op) (w : World) (g : Nat) (T : Tab7 w) (hg : Blk (insCells d) 40 g w) :
    Calls Tryz.prog 29 #[.slice (some ⟨g, 0, none⟩) 1 1] w fun e w' => ∃ A c er, e = .returned (.tuple #[.slice A (ownB d).length c, .int .i64 er]) ∧ Rd w' w'.heap.size A (cellsB (ownB d)) ∧ Below w.heap.size w w' := by
  refine (program_c (some ⟨g, 0, none⟩) 1 [d] w T (.inr ⟨g, 0, rfl, hg.lt, fun j v hv => ?_⟩) (fun i hi => ?_) (by simp)).mono ?_
  · rw [Nat.zero_add, hg.cell j]
    simpa [cellsN] using hv
  · rw [List.mem_singleton.1 hi]; exact ho
  · rintro e w' ⟨A, c, bs, er, rfl, _, hr, hb, h⟩
    have e1 : bs = ownB d := by
      unfold ownB
      rcases h with ⟨h1, _, h3⟩ | ⟨h1, _, h3⟩
      · have : rgtB d = true := by simpa [allB] using h1
        rw [h3, this]
        simp [progB]
      · have : rgtB d = false := by simpa [allB] using h1
        rw [h3, this]
        rfl
    subst e1
    exact ⟨A, c, er, rfl, hr, hb⟩
theorem dec_I64 (v : Int) (h : U32 v) : I64 (decI v).op := by
  unfold decI
  by_cases h0 : opW v = 0
  · rw [if_pos h0]; unfold I64; decide
  · rcases dec_ways h with h1 | ⟨_, _, h3, _⟩
    · rw [decE_yes h0] at h1; cases h1
    · unfold decI at h3; exact h3
theorem ownB_len (d : Ins) : (ownB d).length = 4 ∨ (ownB d = [] ∧ (ownB d).length = 0) := by
  unfold ownB
  cases rgtB d
  · exact .inr ⟨rfl, rfl⟩
  · exact .inl (bytesL_length _ _)
set_option maxHeartbeats 2000000 in
theorem lines_c (A : Option Addr) (cap : Nat) (B : List Int) (w : World) (T : Tab9 w) (T7 : Tab7 w) (hb : ∀ b ∈ B, 0 ≤ b ∧ b < 256) (hl : B.length ≤ 1100) (hc : B.length ≤ cap) (hc2 : cap ≤ 9223372036854775807) (hr : Rd w w.heap.size A (B.map (Value.int .u8))) :
    Calls Tryz.prog 12 #[.slice A B.length cap] w (RetL w (linesL B)) := by
  obtain ⟨i9, gi, gz0, gz1, gz2⟩ := info_parts info_str
  have HB := Lib.hid (fun i (h : i < B.length) => byte_at hb h)
  have HR := Lib.hid hr
  have HQ : Hid ((B.length : Int).tdiv 4 = ((B.length / 4 : Nat) : Int) ∧ (B.length : Int).tmod 4 = ((B.length % 4 : Nat) : Int)) := by
    show _ ∧ _
    rw [Int.tdiv_eq_ediv_of_nonneg (by omega), Int.tmod_eq_emod_of_nonneg (by omega)]; omega
  have KL := fun x (h : BW w x) => list_own A cap B x (T7.below h).dec hb (by omega) hc hc2 (Rd.now hr h)
  go_enter Tryz.func12, Tryz.ntmps12
  go_wp2
  go_step3
  go_wp2_with (at_make; refine wpList_make_own _ rfl _ _ 25 rfl w.heap.size 9 i9 (.string ByteArray.empty) 1 Tryz.underlying25 gi gz0 gz1 .i64 .i64 _ (B.length / 4 + B.length % 4) rfl rfl ?_ ?_ ?_ (Nat.le_refl _) ?_)
  · omega
  · rw [gz2]; omega
  · unfold maxLen; omega
  intro w1 hown hgrow
  have hb1 : BW w w1 := Below.grown (Below.refl _ _) hgrow (Nat.le_refl _) (fun _ h => by cases h)
  have HO1 := Lib.hid hown
  clear hown hgrow hr hb
  go_wp2
  go_step3
  go_wp2_with (first | (go_at_call 28; refine (KL _ hb1).mono ?_; rintro e w2 ⟨v, rfl, hvo, hb2⟩; obtain ⟨A2, c2, hv, _⟩ := row_form9 hvo; subst hv; have HV2 := Lib.hid hvo; have hbw2 := hb1.on hb2; have HO2 := Lib.hid (row_on HO1.out hb2); clear hb2 hvo))
  obtain ⟨N, hN⟩ : ∃ N, (lstI B).length = N := ⟨_, rfl⟩
  have hN4 : N = B.length / 4 := by rw [← hN]; unfold lstI; exact lstK_len _ _
  rw [hN] at HV2 ⊢
  have HN4 := Lib.hid hN4
  have HLK : Hid (∀ k (hk : k < N), ∃ h : k < (lstI B).length, (lstI B)[k] = decI (word4 B (4 * k))) := Lib.hid (fun k hk => ⟨by omega, by unfold lstI lstK; simp⟩)
  clear HO1 hb1 KL hN4
  go_loopg [3, 25] N (fun gg v3 v25 wr => ∃ k : Nat, v25 = .int .i64 k ∧ k + gg = N ∧ BW w wr ∧ Hid (wr.ownsRow w.heap.size 9 1 v3 k (txs (linesK B k))) ∧ Hid (wr.ownsRow w1.heap.size 40 9 (.slice A2 N c2) N (cellsN (lstI B))))
  case atStart => exact ⟨0, rfl, by omega, hbw2, HO2, HV2⟩
  case round =>
    clear hbw2 HO2 HV2
    obtain ⟨k, rfl, hkg, hbw, HO, HV⟩ := hrel
    obtain ⟨w2, rfl⟩ : ∃ w2 : World, w2 = wr := ⟨_, rfl⟩
    by_cases hlt : k < N
    · have hltI : (k : Int) < N := by omega
      obtain ⟨hk1, hd⟩ := HLK.out k hlt
      obtain ⟨A2', c2', hv2, hrd, _⟩ := row_form9 HV.out
      obtain ⟨rfl, _, rfl⟩ : A2 = A2' ∧ N = N ∧ c2 = c2' := by cases hv2; exact ⟨rfl, rfl, rfl⟩
      obtain ⟨b, off, rfl, hblt, d0, d1, d2, d3, d4, d5, d6, d7, d8⟩ := hrd.ins hk1
      rw [hd] at d0 d1 d2 d3 d4 d5 d6 d7 d8
      clear hd hrd hv2
      obtain ⟨V, hV⟩ : ∃ V, word4 B (4 * k) = V := ⟨_, rfl⟩
      rw [hV] at d0 d1 d2 d3 d4 d5 d6 d7 d8
      obtain ⟨d, hd⟩ : ∃ d, decI V = d := ⟨_, rfl⟩
      rw [hd] at d0 d1 d2 d3 d4 d5 d6 d7 d8
      go_upto_region 5 with (fail)
      clear d0 d1 d2 d3 d4 d5 d6 d7 d8
      have HX := Blk.new (insCells d) 40 w2
      have hb3 := hbw.new (.cells (insCells d) 40)
      have HO3 := Lib.hid (HO.out.alloc (.cells (insCells d) 40))
      have HV3 := Lib.hid (HV.out.alloc (.cells (insCells d) 40))
      unfold insCells at HX hb3 HO3 HV3
      generalize w2.alloc (.cells _ 40) = w3 at *
      obtain ⟨g, hg⟩ : ∃ g, w2.heap.size = g := ⟨_, rfl⟩
      rw [hg] at HX ⊢
      clear hg hbw HO HV
      have hy0 := HB.out (4 * k) (by have := HN4.out; omega)
      have hy1 := HB.out (4 * k + 1) (by have := HN4.out; omega)
      have hy2 := HB.out (4 * k + 2) (by have := HN4.out; omega)
      have hy3 := HB.out (4 * k + 3) (by have := HN4.out; omega)
      have hvr : U32 V := by rw [← hV]; unfold word4; constructor <;> omega
      have HY := Lib.hid (⟨hy0, hy1, hy2, hy3⟩ : _ ∧ _ ∧ _ ∧ _)
      clear hy0 hy1 hy2 hy3
      have hdo : I64 d.op := by rw [← hd]; exact dec_I64 _ hvr
      have KP := fun x (hx : BW w x) (g : Nat) (h : Blk (insCells d) 40 g x) => prog_one d hdo x g (T7.below hx) h
      have HOL := Lib.hid (ownB_len d)
      obtain ⟨bA, offA, rfl, hbA, hcA⟩ := HR.out.byte (i := 4 * k) (by have := HN4.out; omega)
      have hk5 : k ≤ 275 := by have := HN4.out; omega
      have hq1 : (4 : Int) * k ≤ B.length := by have := HN4.out; omega
      have hq2 : (4 : Int) ≤ (B.length : Int) - 4 * k := by have := HN4.out; omega
      have hq3 : ¬ ((4 : Int) * k = cap) := by have := HN4.out; omega
      have hq4 : (4 : Int) ≤ (cap : Int) - 4 * k := by have := HN4.out; omega
      have HCA := Lib.hid hcA
      clear hcA
      go_upto_region 7 with (first
        | (with_reducible refine load_blk (o := ⟨some 31, _, _, _, _, _⟩) rfl 40 (.tmp 5) rfl HX rfl Tryz.underlying40 rfl (by kernel_rfl) ?_)
        | (go_at_call 29; refine (KP _ (hb3.new _) _ (Blk.new _ _ _)).mono ?_; rintro e w5 ⟨A5, c5, er, rfl, hr5, hb5⟩; have HR5 := Lib.hid hr5; have hbw5 := (hb3.new _).on hb5; have HO5 := Lib.hid (row_on (HO3.out.alloc _) hb5); have HV5 := Lib.hid (row_on (HV3.out.alloc _) hb5); have HX5 := (HX.alloc _).on hb5; clear hb5 hr5))
      have hVn : ((V.toNat : Nat) : Int) = V := Int.toNat_of_nonneg hvr.1
      have hw4 : V = ofB (hereB B k) := by rw [← hV]; unfold hereB; rw [ofB4]; rfl
      have KW : Hid (∀ x, BW w x → Calls Tryz.prog 31 #[.slice (some ⟨bA, offA + 4 * k, none⟩) 4 (cap - 4 * k)] x fun e w' => e = .returned (.int .u64 V) ∧ x = w') := fun x hx => by
        have h := of_any (some ⟨bA, offA + 4 * k, none⟩) (cap - 4 * k) (hereB B k) x (by unfold hereB; simp) (by
          intro z hz
          unfold hereB at hz
          simp only [List.mem_cons, List.not_mem_nil, or_false] at hz
          obtain ⟨h0, h1, h2, h3⟩ := HY.out
          rcases hz with rfl | rfl | rfl | rfl <;> assumption) (.inr ⟨bA, offA + 4 * k, rfl, Nat.lt_of_lt_of_le hbA (Below.size hx), fun i v hv => by
          have hi : i < 4 := by
            have := (List.getElem?_eq_some_iff.1 hv).1
            simpa [cellsB, hereB] using this
          rw [Below.cell hx (p := ⟨bA, offA + 4 * k + i, none⟩) hbA, Nat.add_assoc, HCA.out (4 * k + i) (by have := HN4.out; omega)]
          have hi' : i = 0 ∨ i = 1 ∨ i = 2 ∨ i = 3 := by omega
          rcases hi' with rfl | rfl | rfl | rfl <;> exact hv⟩)
        rw [← hw4] at h
        exact h
      have KNL := fun x (hx : BW w x) => nl_c dotW (by decide) V.toNat (by have := hvr.2; omega) x (T.pows.below hx)
      rw [hVn] at KNL
      have ed : tx dotW = .string ⟨#[46, 119, 111, 114, 100]⟩ := rfl
      rw [ed] at KNL
      have HLW : Hid (lineW B k = if ownB d = hereB B k then textT d else nlT dotW V.toNat) := by show _ = _; unfold lineW; rw [hV, hd]
      obtain ⟨LN, hLN⟩ : ∃ l, nlT dotW V.toNat = l := ⟨_, rfl⟩
      rw [hLN] at KNL HLW
      unfold tx at KNL
      obtain ⟨z, hz⟩ : ∃ z, bs LN = z := ⟨_, rfl⟩
      rw [hz] at KNL
      have HLN : Hid (¬ ownB d = hereB B k → tx (lineW B k) = .string z) := fun hne => by rw [HLW.out, if_neg hne, ← hz]; rfl
      clear ed hVn hw4 hLN hz hvr hdo KP
      have KT := Lib.hid (fun (hr : rgtB d = true) x (hx : BW w x) => text_ok d ((rgt_iff d).1 hr) x (T.below hx))
      have hRT : Hid (ownB d = hereB B k → rgtB d = true) := fun e => by
        unfold ownB hereB at e
        cases hr : rgtB d
        · rw [hr] at e; cases e
        · rfl
      have HOT : Hid (ownB d = hereB B k → tx (lineW B k) = tx (textT d)) := fun e => by rw [HLW.out, if_pos e]
      generalize hO : ownB d = O at *
      rcases HOL.out with h4 | ⟨rfl, h0⟩
      · rw [h4]
        obtain ⟨b5, off5, rfl, hb5, hc5⟩ := Rd.byte (bs := O) HR5.out (i := 0) (by omega)
        have HC5 := Lib.hid hc5
        clear hc5
        go_wp2
        go_loopg [3, 43] 4 (fun hh v3 v43 wr => v3 = u3 ∧ ∃ j : Nat, v43 = .int .i64 j ∧ j + hh = 4 ∧ Hid (∀ i, i < j → O.getD i 0 = (hereB B k).getD i 0) ∧ Hid (Below w5.heap.size w5 wr))
        case atStart => exact ⟨rfl, 0, rfl, rfl, fun i h => absurd h (by omega), Below.refl _ _⟩
        case round =>
          obtain ⟨rfl, j, rfl, hj, HE, HBw⟩ := hrel
          obtain ⟨wi, rfl⟩ : ∃ wi : World, wi = wr := ⟨_, rfl⟩
          by_cases hj4 : j < 4
          · have hjI : (j : Int) < 4 := by omega
            have d49 : decide ((4 : Int) ≤ j) = false := decide_eq_false (by omega)
            have hyj : (hereB B k).getD j 0 = B.getD (4 * k + j) 0 := by
              have hi' : j = 0 ∨ j = 1 ∨ j = 2 ∨ j = 3 := by omega
              rcases hi' with rfl | rfl | rfl | rfl <;> rfl
            obtain ⟨x, hx⟩ : ∃ x, O.getD j 0 = x := ⟨_, rfl⟩
            obtain ⟨y, hy⟩ : ∃ y, B.getD (4 * k + j) 0 = y := ⟨_, rfl⟩
            have co : wi.cell? ⟨b5, off5 + j, none⟩ = some (.int .u8 x) := by
              rw [HBw.out.cell (p := ⟨b5, off5 + j, none⟩) hb5, HC5.out j (by omega), hx]
            have ch : wi.cell? ⟨bA, offA + 4 * k + j, none⟩ = some (.int .u8 y) := by
              rw [HBw.out.cell (p := ⟨bA, offA + 4 * k + j, none⟩) (Nat.lt_of_lt_of_le hbA (Below.size hbw5)), Below.cell hbw5 (p := ⟨bA, offA + 4 * k + j, none⟩) hbA, Nat.add_assoc, HCA.out (4 * k + j) (by have := HN4.out; omega), hy]
            by_cases hxy : x = y
            · have hne : (x != y) = false := by rw [hxy]; simp
              have HE2 : Hid (∀ i, i < j + 1 → O.getD i 0 = (hereB B k).getD i 0) := fun i hi => by
                rcases Nat.lt_succ_iff_lt_or_eq.1 hi with h | rfl
                · exact HE.out i h
                · rw [hyj, hx, hy, hxy]
              clear HE hx hy hyj hxy
              go_upto_region 10 with (fail)
              go_quiet (fail)
              have HB2 := Lib.hid (HBw.out.trans ((drewN_belowL wi nq).mono (Below.size HBw.out)))
              clear co ch HBw
              generalize wi.drewN nq = w6 at *
              go_wp2
              go_roundg (4 - (j + 1))
              case measure => omega
              case rel => exact ⟨rfl, j + 1, by go_num, by omega, HE2, HB2⟩
            · have hne : (x != y) = true := by rw [bne_iff_ne]; exact hxy
              have hHne : ¬ O = hereB B k := fun e => hxy (by rw [← hx, e, hyj, hy])
              clear HE hx hy hyj hxy
              go_upto_region 10 with (fail)
              go_quiet (fail)
              have hdr := drewN_belowL wi nq
              have hbw6 := (hbw5.on HBw.out).on hdr
              have HO6 := Lib.hid (row_on (row_on HO5.out HBw.out) hdr)
              have HV6 := Lib.hid (row_on (row_on HV5.out HBw.out) hdr)
              clear hdr
              generalize wi.drewN nq = w6 at *
              go_wp2_with (first
                | (go_at_call 31; refine (KW.out _ hbw6).mono ?_; rintro e w7 ⟨rfl, rfl⟩)
                | (go_at_call 30; refine (KNL _ hbw6).mono ?_; rintro e w8 ⟨rfl, hb8⟩; have hbw8 := hbw6.on hb8; have HO8 := Lib.hid (row_on HO6.out hb8); have HV8 := Lib.hid (row_on HV6.out hb8); clear hb8)
                | (at_builtin; refine wpList_append_own _ rfl _ _ 25 rfl w.heap.size 9 i9 (.string ByteArray.empty) 1 16 Tryz.underlying25 gi gz0 gz1 gz2 rfl (by decide) _ k (txs (linesK B k)) rfl (HO8.out.alloc _) ⟨w8.heap.size, 0, none⟩ 1 1 [.string z] rfl rfl (cell_new _ _ _) (by simp [Value.oneCell']) (by unfold maxLen; omega) (by omega) (by have := Below.size hbw8; simp; omega) ?_))
              intro v9 w9 hown hgrow hnn
              clear hnn
              have hb9 : BW w w9 := Below.grown (BW.new hbw8 _) hgrow (by have := Below.size hbw8; simp; omega) (fun q hq => (HO8.out.lt q hq).1)
              have HV9 : Hid (w9.ownsRow w1.heap.size 40 9 (.slice (some ⟨b, off, none⟩) N c2) N (cellsN (lstI B))) := (HV8.out.alloc _).kept hgrow (own_apart2 HV8.out HO8.out (by decide))
              have HO9 : Hid (w9.ownsRow w.heap.size 9 1 v9 (k + 1) (txs (linesK B (k + 1)))) := by
                show World.ownsRow _ _ _ _ _ _ _
                rw [linesK_succ, txs_snoc, HLN.out hHne]
                exact hown
              clear hown hgrow
              go_wp2
              go_roundg (N - (k + 1))
              case measure => omega
              case rel => exact ⟨k + 1, by go_num, by omega, hb9, HO9, HV9⟩
          · obtain rfl : j = 4 := by omega
            have hOe : O = hereB B k := by
              have hl2 : (hereB B k).length = 4 := rfl
              refine List.ext_getElem (by omega) (fun i h1 h2 => ?_)
              have := HE.out i (by omega)
              rw [List.getD_eq_getElem?_getD, List.getD_eq_getElem?_getD, List.getElem?_eq_getElem h1, List.getElem?_eq_getElem h2] at this
              exact this
            have KT2 := KT.out (hRT.out hOe)
            have HTL := Lib.hid (HOT.out hOe)
            unfold tx at KT2
            obtain ⟨zt, hzt⟩ : ∃ z, bs (textT d) = z := ⟨_, rfl⟩
            rw [hzt] at KT2
            have HTZ : Hid (tx (lineW B k) = .string zt) := by show _ = _; rw [HTL.out, ← hzt]; rfl
            unfold insV at KT2
            have hbw6 := hbw5.on HBw.out
            have HO6 := Lib.hid (row_on HO5.out HBw.out)
            have HV6 := Lib.hid (row_on HV5.out HBw.out)
            have HX6 := HX5.on HBw.out
            clear hOe HE hzt
            go_wp2_with (first
              | (with_reducible refine load_blk (o := ⟨some 69, _, _, _, _, _⟩) rfl 40 (.tmp 5) rfl HX6 rfl Tryz.underlying40 rfl (by kernel_rfl) ?_)
              | (go_at_call 32; refine (KT2 _ hbw6).mono ?_; rintro e w8 ⟨rfl, hb8⟩; have hbw8 := hbw6.on hb8; have HO8 := Lib.hid (row_on HO6.out hb8); have HV8 := Lib.hid (row_on HV6.out hb8); clear hb8)
              | (at_builtin; refine wpList_append_own _ rfl _ _ 25 rfl w.heap.size 9 i9 (.string ByteArray.empty) 1 16 Tryz.underlying25 gi gz0 gz1 gz2 rfl (by decide) _ k (txs (linesK B k)) rfl (HO8.out.alloc _) ⟨w8.heap.size, 0, none⟩ 1 1 [.string zt] rfl rfl (cell_new _ _ _) (by simp [Value.oneCell']) (by unfold maxLen; omega) (by omega) (by have := Below.size hbw8; simp; omega) ?_))
            intro v9 w9 hown hgrow hnn
            clear hnn
            have hb9 : BW w w9 := Below.grown (BW.new hbw8 _) hgrow (by have := Below.size hbw8; simp; omega) (fun q hq => (HO8.out.lt q hq).1)
            have HV9 : Hid (w9.ownsRow w1.heap.size 40 9 (.slice (some ⟨b, off, none⟩) N c2) N (cellsN (lstI B))) := (HV8.out.alloc _).kept hgrow (own_apart2 HV8.out HO8.out (by decide))
            have HO9 : Hid (w9.ownsRow w.heap.size 9 1 v9 (k + 1) (txs (linesK B (k + 1)))) := by
              show World.ownsRow _ _ _ _ _ _ _
              rw [linesK_succ, txs_snoc, HTZ.out]
              exact hown
            clear hown hgrow
            go_wp2
            go_roundg (N - (k + 1))
            case measure => omega
            case rel => exact ⟨k + 1, by go_num, by omega, hb9, HO9, HV9⟩
      · rw [h0]
        have hHne : ¬ ([] : List Int) = hereB B k := by unfold hereB; exact fun e => by cases e
        go_wp2
        go_loopg [3, 43] 4 (fun hh v3 v43 wr => v3 = u3 ∧ v43 = .int .i64 0 ∧ w5 = wr ∧ 0 < hh)
        case atStart => exact ⟨rfl, rfl, rfl, by decide⟩
        case round =>
          obtain ⟨rfl, rfl, rfl, _⟩ := hrel
          go_upto_region 10 with (fail)
          go_quiet (fail)
          have hdr := drewN_belowL w5 nq
          have hbw6 := hbw5.on hdr
          have HO6 := Lib.hid (row_on HO5.out hdr)
          have HV6 := Lib.hid (row_on HV5.out hdr)
          clear hdr
          generalize w5.drewN nq = w6 at *
          go_wp2_with (first
            | (go_at_call 31; refine (KW.out _ hbw6).mono ?_; rintro e w7 ⟨rfl, rfl⟩)
            | (go_at_call 30; refine (KNL _ hbw6).mono ?_; rintro e w8 ⟨rfl, hb8⟩; have hbw8 := hbw6.on hb8; have HO8 := Lib.hid (row_on HO6.out hb8); have HV8 := Lib.hid (row_on HV6.out hb8); clear hb8)
            | (at_builtin; refine wpList_append_own _ rfl _ _ 25 rfl w.heap.size 9 i9 (.string ByteArray.empty) 1 16 Tryz.underlying25 gi gz0 gz1 gz2 rfl (by decide) _ k (txs (linesK B k)) rfl (HO8.out.alloc _) ⟨w8.heap.size, 0, none⟩ 1 1 [.string z] rfl rfl (cell_new _ _ _) (by simp [Value.oneCell']) (by unfold maxLen; omega) (by omega) (by have := Below.size hbw8; simp; omega) ?_))
          intro v9 w9 hown hgrow hnn
          clear hnn
          have hb9 : BW w w9 := Below.grown (BW.new hbw8 _) hgrow (by have := Below.size hbw8; simp; omega) (fun q hq => (HO8.out.lt q hq).1)
          have HV9 : Hid (w9.ownsRow w1.heap.size 40 9 (.slice (some ⟨b, off, none⟩) N c2) N (cellsN (lstI B))) := (HV8.out.alloc _).kept hgrow (own_apart2 HV8.out HO8.out (by decide))
          have HO9 : Hid (w9.ownsRow w.heap.size 9 1 v9 (k + 1) (txs (linesK B (k + 1)))) := by
            show World.ownsRow _ _ _ _ _ _ _
            rw [linesK_succ, txs_snoc, HLN.out hHne]
            exact hown
          clear hown hgrow
          go_wp2
          go_roundg (N - (k + 1))
          case measure => omega
          case rel => exact ⟨k + 1, by go_num, by omega, hb9, HO9, HV9⟩
    · obtain rfl : k = N := by omega
      obtain ⟨rr, hrr⟩ : ∃ rr, B.length % 4 = rr := ⟨_, rfl⟩
      have HRR := Lib.hid hrr
      have hm : B.length = 4 * k + rr := by have := HN4.out; omega
      have HM := Lib.hid hm
      have hk5 : k ≤ 275 := by omega
      have hr4 : rr ≤ 3 := by omega
      have HLK0 : Hid (linesK B k = linesR B 0) := by show _ = _; unfold linesR; rw [HN4.out]; simp
      clear HLK hkg hlt HV
      by_cases h0 : rr = 0
      · subst h0
        rw [hm] at hc ⊢
        clear hrr hm
        have hmm : ((4 * k + 0 : Nat) : Int) % 4 = 0 := by omega
        go_upto_region 17 with (fail)
        all_goals
          go_loopg [3, 87] 1 (fun gg v3 v87 wr => v3 = u3 ∧ v87 = .int .i64 0 ∧ w2 = wr)
          case atStart => exact ⟨rfl, rfl, rfl⟩
          case round =>
            obtain ⟨rfl, rfl, rfl⟩ := hrel
            go_wp2
            try rw [Exit.noGoto_ret]
            go_ret
            have hO := HO.out
            rw [HLK0.out] at hO
            have hlast : linesR B 0 = linesL B := by unfold linesL; rw [HRR.out]
            have hlen : k = (linesL B).length := by rw [← hlast, linesR_len, ← HN4.out]; rfl
            rw [hlast] at hO
            exact RetL.of hlen hO hbw
      · obtain ⟨bA, offA, rfl, hbA, hcA⟩ := HR.out.byte (i := 4 * k) (by have := HM.out; omega)
        have HCA := Lib.hid hcA
        have hmI : (B.length : Int) % 4 = rr := by omega
        have hrB : (rr : Int) ≤ B.length := by omega
        have hr0 : (0 : Int) < rr := by omega
        have hne : ¬ (cap = B.length - rr) := by omega
        clear hm
        have H0 : Hid (w2.ownsRow w.heap.size 9 1 u3 (k + 0) (txs (linesR B 0))) := by rw [← HLK0.out]; exact HO
        have HBB := Lib.hid hbw
        clear hcA HO HLK0
        go_upto_region 17 with (fail)
        clear hmI hrr
        go_loopg [3, 87] rr (fun gg v3 v87 wr => ∃ (j n : Nat), v87 = .int .i64 j ∧ j + gg = rr ∧ n = k + j ∧ Hid (BW w wr) ∧ Hid (wr.ownsRow w.heap.size 9 1 v3 n (txs (linesR B j))))
        case atStart => exact ⟨0, k, rfl, by omega, rfl, HBB, H0⟩
        case round =>
          clear H0 HBB hbw
          obtain ⟨j, n, rfl, hj, hn, HBW, HO⟩ := hrel
          obtain ⟨w4, rfl⟩ : ∃ w4 : World, w4 = wr := ⟨_, rfl⟩
          have hn5 : n ≤ 300 := by omega
          have HNN := Lib.hid hn
          clear hn
          by_cases hjr : j < rr
          · have hjI : (j : Int) < rr := by omega
            obtain ⟨y, hy⟩ : ∃ y, B.getD (4 * k + j) 0 = y := ⟨_, rfl⟩
            have hyr := HB.out (4 * k + j) (by have := HM.out; omega)
            rw [hy] at hyr
            have ch : w4.cell? ⟨bA, offA + (B.length - rr) + j, none⟩ = some (.int .u8 y) := by
              rw [show B.length - rr = 4 * k by have := HM.out; omega, Below.cell HBW.out (p := ⟨bA, offA + 4 * k + j, none⟩) hbA, Nat.add_assoc, HCA.out (4 * k + j) (by have := HM.out; omega), hy]
            have hyn : ((y.toNat : Nat) : Int) = y := Int.toNat_of_nonneg hyr.1
            have hyw : IntKind.u64.wrap y = y := by rw [IntKind.wrap_u64]; omega
            have KNB := fun x (hx : BW w x) => nl_c dotB (by decide) y.toNat (by omega) x (T.pows.below hx)
            rw [hyn] at KNB
            have ed : tx dotB = .string ⟨#[46, 98, 121, 116, 101]⟩ := rfl
            rw [ed] at KNB
            have HLB : Hid (lineB B (4 * (B.length / 4) + j) = nlT dotB y.toNat) := by show _ = _; unfold lineB; rw [← HN4.out, hy]
            obtain ⟨LN, hLN⟩ : ∃ l, nlT dotB y.toNat = l := ⟨_, rfl⟩
            rw [hLN] at KNB HLB
            unfold tx at KNB
            obtain ⟨z, hz⟩ : ∃ z, bs LN = z := ⟨_, rfl⟩
            rw [hz] at KNB
            have HLZ : Hid (tx (lineB B (4 * (B.length / 4) + j)) = .string z) := by show _ = _; rw [HLB.out, ← hz]; rfl
            clear ed hyn hLN hz hy
            go_wp2_with (first
              | (go_at_call 30; refine (KNB _ HBW.out).mono ?_; rintro e w8 ⟨rfl, hb8⟩; have hbw8 := HBW.out.on hb8; have HO8 := Lib.hid (row_on HO.out hb8); clear hb8)
              | (at_builtin; refine wpList_append_own _ rfl _ _ 25 rfl w.heap.size 9 i9 (.string ByteArray.empty) 1 16 Tryz.underlying25 gi gz0 gz1 gz2 rfl (by decide) _ n (txs (linesR B j)) rfl (HO8.out.alloc _) ⟨w8.heap.size, 0, none⟩ 1 1 [.string z] rfl rfl (cell_new _ _ _) (by simp [Value.oneCell']) (by unfold maxLen; omega) (by omega) (by have := Below.size hbw8; simp; omega) ?_))
            intro v9 w9 hown hgrow hnn
            clear hnn
            have hb9 : BW w w9 := Below.grown (BW.new hbw8 _) hgrow (by have := Below.size hbw8; simp; omega) (fun q hq => (HO8.out.lt q hq).1)
            have HO9 : Hid (w9.ownsRow w.heap.size 9 1 v9 (n + 1) (txs (linesR B (j + 1)))) := by
              show World.ownsRow _ _ _ _ _ _ _
              rw [linesR_succ, txs_snoc, HLZ.out]
              exact hown
            have HBW9 := Lib.hid hb9
            clear hown hgrow hb9
            go_wp2
            go_roundg (rr - (j + 1))
            case measure => omega
            case rel => exact ⟨j + 1, n + 1, by go_num, by omega, by have := HNN.out; omega, HBW9, HO9⟩
          · obtain rfl : j = rr := by omega
            go_wp2
            try rw [Exit.noGoto_ret]
            go_ret
            have hO := HO.out
            have hlast : linesR B j = linesL B := by unfold linesL; rw [HRR.out]
            have hlen : n = (linesL B).length := by rw [← hlast, linesR_len, ← HN4.out]; exact HNN.out
            rw [hlast] at hO
            exact RetL.of hlen hO HBW.out
end Go.Proofs.YtolmecnjolfjgaaGreatDoor
