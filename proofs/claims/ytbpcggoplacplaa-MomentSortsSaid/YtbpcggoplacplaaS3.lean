/- The contract of the stable sort's merge in general, from its own contract for less. -/
import Derived.Test.YtbpcggoplacplaaRows
import Derived.Test.YtbpcggoplacplaaSm
import Derived.Test.YtbpcggoplacplaaSw
import Derived.Test.YtbpcggoplacplaaRo
import Derived.Test.YtbpcggoplacplaaCm
import Derived.Test.YtbpcggoplacplaaIn
import Derived.WalkKit
import Derived.Deep.Draws
import Derived.Deep.LoopGhost
import Derived.Deep.QuietTactic
import Derived.BigQuiet
import Derived.BigRegion
import Derived.RegionTactic
import Derived.Lib.Hide
import Derived.Outline
import Derived.Deep.Cut
namespace Go.Proofs.Ytbpcggoplacplaa
open Go.RowKit Go.Sort

/-- Where the search for the place to rotate ends. -/
structure Split (l : List Nat) (a m b c s : Nat) (d : Array Int) : Prop where
  lo : a ≤ s
  hi : s ≤ m
  e1 : m ≤ c + m - s
  e2 : c + m - s ≤ b
  sc : s ≤ c
  c1 : ∀ i j, a ≤ i → i < s → c + m - s ≤ j → j < b → kyL l d[i]! ≤ kyL l d[j]!
  c2 : ∀ i j, m ≤ i → i < c + m - s → s ≤ j → j < m → kyL l d[i]! < kyL l d[j]!
theorem Split.of {l : List Nat} {a m b c s s0 r0 : Nat} {d : Array Int} (s1 : SrtIn (kyL l) a m d) (s2 : SrtIn (kyL l) m b d) (h0 : a ≤ s0) (h1 : s0 ≤ s) (h2 : s ≤ r0) (h3 : r0 ≤ m) (h4 : r0 ≤ c) (h5 : c + m ≤ b + s0)
    (hc : (s0 = a ∨ c + m = b + s0) ∧ (r0 = m ∨ r0 = c)) (ha : s = s0 ∨ kyL l d[s - 1]! ≤ kyL l d[c + m - s]!) (hb : s = r0 ∨ kyL l d[c + m - 1 - s]! < kyL l d[s]!) : Split l a m b c s d where
  lo := by omega
  hi := by omega
  e1 := by omega
  e2 := by omega
  sc := by omega
  c1 := fun i j hi hi' hj hj' => by
    rcases ha with h | h
    · omega
    · exact Int.le_trans (s1.le hi (by omega) (by omega)) (Int.le_trans h (s2.le (by omega) hj hj'))
  c2 := fun i j hi hi' hj hj' => by
    rcases hb with h | h
    · omega
    · exact Int.lt_of_le_of_lt (s2.le hi (by omega) (by omega)) (Int.lt_of_lt_of_le h (s1.le (by omega) hj hj'))
theorem rot_any {s m e : Nat} {d : Array Int} (h : ¬ (s < m ∧ m < e)) (h1 : s ≤ m) (h2 : m ≤ e) : RotR s m e d d := by
  by_cases c : s = m
  · subst c; exact RotR.none _ _ _
  · rw [show e = m by omega]; exact RotR.one _ _ (by omega) _
theorem bool_eq' {a b : Bool} (h : a = b) : Value.bool a = Value.bool b := by rw [h]

set_option maxHeartbeats 8000000 in
set_option maxRecDepth 100000 in
theorem symMerge_mid (w0 : World) (blk off cap a m b B sz : Nat) (za zm zb : Int) (l : List Nat) (d : Array Int) (w : World) (S : SW w0 blk off d w) (R : Had w0 blk off sz) (V : Vals sz d) (C : CmpOk w0 blk off B l sz) (es : d.size = sz) (ea : za = a) (em : zm = m) (eb : zb = b)
    (ham : a < m) (hmb : m < b) (hb : b ≤ sz) (hsz : sz < 4611686018427387904) (s1 : SrtIn (kyL l) a m d) (s2 : SrtIn (kyL l) m b d) (hx : Apart a m b d) (hma : m ≠ a + 1) (hbm : b ≠ m + 1)
    (IH : ∀ (a' m' b' : Nat) (za' zm' zb' : Int) (d' : Array Int) (w' : World), b' - a' < b - a → SW w0 blk off d' w' → Vals sz d' → d'.size = sz → za' = a' → zm' = m' → zb' = b' → a' < m' → m' < b' → b' ≤ sz →
      SrtIn (kyL l) a' m' d' → SrtIn (kyL l) m' b' d' → Apart a' m' b' d' →
      Calls Try.prog 40 #[.slice (some ⟨blk, off, none⟩) sz cap, .int .i64 za', .int .i64 zm', .int .i64 zb', .func (.func 31) #[] #[.pointer (some ⟨B, 0, none⟩)]] w' fun e w'' =>
        e = .returned (.tuple #[]) ∧ ∃ d'', PermIn a' b' d' d'' ∧ SrtIn (kyL l) a' b' d'' ∧ SW w0 blk off d'' w'') :
    Calls Try.prog 40 #[.slice (some ⟨blk, off, none⟩) sz cap, .int .i64 za, .int .i64 zm, .int .i64 zb, .func (.func 31) #[] #[.pointer (some ⟨B, 0, none⟩)]] w fun e w' =>
      e = .returned (.tuple #[]) ∧ ∃ d', PermIn a b d d' ∧ SrtIn (kyL l) a b d' ∧ SW w0 blk off d' w' := by
  subst ea em eb
  have S0 := Lib.hid S
  have RR := Lib.hid R
  have VV := Lib.hid V
  have CMP := Lib.hid C
  have ES := Lib.hid es
  have HX := Lib.hid hx
  have H1 := Lib.hid s1
  have H2 := Lib.hid s2
  clear S R V C es hx s1 s2
  have ht0 : ((m : Int) - (a : Int) == 1) = false := by simp; omega
  have ht1 : ((b : Int) - (m : Int) == 1) = false := by simp; omega
  have hI := Lib.hid IH
  have R1 : Had w0 blk off d.size := by rw [ES.out]; exact RR.out
  have R1' := Lib.hid R1
  obtain ⟨c, hc⟩ : ∃ c : Nat, ((a : Int) + (b : Int)) / 2 = c := ⟨(a + b) / 2, by omega⟩
  obtain ⟨n, hn⟩ : ∃ n : Nat, (c : Int) + (m : Int) = n := ⟨c + m, by omega⟩
  have hc1 : 2 * c ≤ a + b := by omega
  have hc2 : a + b ≤ 2 * c + 1 := by omega
  have hac : a < c := by omega
  have hcb : c < b := by omega
  clear R1 hma hbm IH
  go_enter Try.func40, Try.ntmps40
  go_upto_if 140 with (fail)
  go_cut [20, 21] from 25 (fun s20 s21 wx => wx = w ∧ ∃ s0 r0 : Nat, s20 = .int .i64 s0 ∧ s21 = .int .i64 r0 ∧ a ≤ s0 ∧ s0 ≤ r0 ∧ r0 ≤ m ∧ r0 ≤ c ∧ n ≤ b + s0 ∧ Hid ((s0 = a ∨ c + m = b + s0) ∧ (r0 = m ∨ r0 = c)))
  case first => as_aux_lemma =>
    by_cases hmc : c < m
    · have hz : (c : Int) < (m : Int) := by omega
      go_wp2_with fail
      go_meet
      case rel => exact ⟨rfl, n - b, c, by congr 1; omega, rfl, by omega, by omega, by omega, by omega, by omega, (show Hid _ from ⟨.inr (by omega), .inr rfl⟩)⟩
    · have hz : ¬ (c : Int) < (m : Int) := by omega
      go_wp2_with fail
      go_meet
      case rel => exact ⟨rfl, a, m, rfl, rfl, by omega, by omega, by omega, by omega, by omega, (show Hid _ from ⟨.inl rfl, .inl rfl⟩)⟩
  case rest =>
    obtain ⟨hwc, s0, r0, rfl, rfl, k0, k1, k2, k3, k4, KC⟩ := hcut
    have S1 : Hid (SW w0 blk off d wc) := by rw [hwc]; exact S0.out
    clear hwc S0
    go_wp2_with fail
    go_loopg [20, 21] (r0 - s0) (fun gg vi vj wr => ∃ (i j : Nat), vi = .int .i64 i ∧ vj = .int .i64 j ∧ s0 ≤ i ∧ i ≤ j ∧ j ≤ r0 ∧ j - i ≤ gg ∧ Hid (i = s0 ∨ kyL l d[i - 1]! ≤ kyL l d[n - i]!) ∧ Hid (j = r0 ∨ kyL l d[n - 1 - j]! < kyL l d[j]!) ∧ Hid (SW w0 blk off d wr))
    case atStart => exact ⟨s0, r0, rfl, rfl, by omega, by omega, by omega, by omega, (show Hid _ from .inl rfl), (show Hid _ from .inl rfl), S1⟩
    case round =>
      clear S1
      obtain ⟨i, j, rfl, rfl, hmi, hij, hjb, hgg, HA, HB, S1⟩ := hrel
      have hes := ES.out
      have R1 := R1'.out
      have V1 := VV
      by_cases hlt : i < j
      · have hltz : (i : Int) < (j : Int) := by omega
        cases hl1 : ltI (kyL l) d[n - 1 - (i + j) / 2]! d[(i + j) / 2]! with
        | true => as_aux_lemma =>
          have HB2 : Hid ((i + j) / 2 = r0 ∨ kyL l d[n - 1 - (i + j) / 2]! < kyL l d[(i + j) / 2]!) := .inr (of_decide_eq_true hl1)
          obtain ⟨iN1, hiN1⟩ : ∃ x, x = n - 1 - (i + j) / 2 := ⟨_, rfl⟩
          obtain ⟨jN1, hjN1⟩ : ∃ x, x = (i + j) / 2 := ⟨_, rfl⟩
          have ea1 : ((n : Int) - 1 - ((i : Int) + (j : Int)) / 2).toNat = iN1 := by omega
          have pa1 : (0 : Int) ≤ (n : Int) - 1 - ((i : Int) + (j : Int)) / 2 := by omega
          have ba1 : (n : Int) - 1 - ((i : Int) + (j : Int)) / 2 < (sz : Int) := by omega
          have ra1 : IntKind.i64.wrap ((n : Int) - 1 - ((i : Int) + (j : Int)) / 2) = (n : Int) - 1 - ((i : Int) + (j : Int)) / 2 := by rw [IntKind.wrap_i64]; omega
          have ec1 : (((i : Int) + (j : Int)) / 2).toNat = jN1 := by omega
          have pc1 : (0 : Int) ≤ ((i : Int) + (j : Int)) / 2 := by omega
          have bc1 : ((i : Int) + (j : Int)) / 2 < (sz : Int) := by omega
          have rc1 : IntKind.i64.wrap (((i : Int) + (j : Int)) / 2) = ((i : Int) + (j : Int)) / 2 := by rw [IntKind.wrap_i64]; omega
          obtain ⟨x1, hx1⟩ : ∃ x, x = d[n - 1 - (i + j) / 2]! := ⟨_, rfl⟩
          obtain ⟨y1, hy1⟩ : ∃ x, x = d[(i + j) / 2]! := ⟨_, rfl⟩
          have l1a := S1.out.c1 R1 (n - 1 - (i + j) / 2) (by omega)
          have l1b := S1.out.c1 R1 ((i + j) / 2) (by omega)
          rw [← hx1, ← hiN1] at l1a
          rw [← hy1, ← hjN1] at l1b
          have hc1 := CMP.out d wr (by omega) V1.out S1.out x1 y1 (by rw [hx1]; exact (V1.out (n - 1 - (i + j) / 2) (by omega))) (by rw [hy1]; exact (V1.out ((i + j) / 2) (by omega)))
          have hd1 : decide (cfL l x1 y1 < 0) = true := by rw [cfL_lt, hx1, hy1]; exact hl1
          have hv1 : cfL l x1 y1 < 0 := of_decide_eq_true hd1
          clear hx1 hy1 hiN1 hjN1
          go_wp2_with fail
          go_quiet (first | (go_at_call 31; refine Calls.quiet_of (hc1 _)))
          have Sw2 : Hid (SW w0 blk off d (wr.drewN nq)) := S1.out.drewN nq
          clear l1a l1b hc1 S1 R1 V1 hl1 hes
          generalize wr.drewN nq = w2 at Sw2 ⊢
          clear nq
          clear ea1 pa1 ba1 ra1 ec1 pc1 bc1 rc1
          go_wp2
          go_roundg ((i + j) / 2 - i)
          case measure => omega
          case rel => exact ⟨i, (i + j) / 2, rfl, by go_num, hmi, by omega, by omega, by omega, HA, HB2, Sw2⟩
        | false => as_aux_lemma =>
          have HA2 : Hid ((i + j) / 2 + 1 = s0 ∨ kyL l d[(i + j) / 2 + 1 - 1]! ≤ kyL l d[n - ((i + j) / 2 + 1)]!) := by
            refine .inr ?_
            rw [Nat.add_sub_cancel, show n - ((i + j) / 2 + 1) = n - 1 - (i + j) / 2 by omega]
            exact Int.not_lt.1 (of_decide_eq_false hl1)
          obtain ⟨iN1, hiN1⟩ : ∃ x, x = n - 1 - (i + j) / 2 := ⟨_, rfl⟩
          obtain ⟨jN1, hjN1⟩ : ∃ x, x = (i + j) / 2 := ⟨_, rfl⟩
          have ea1 : ((n : Int) - 1 - ((i : Int) + (j : Int)) / 2).toNat = iN1 := by omega
          have pa1 : (0 : Int) ≤ (n : Int) - 1 - ((i : Int) + (j : Int)) / 2 := by omega
          have ba1 : (n : Int) - 1 - ((i : Int) + (j : Int)) / 2 < (sz : Int) := by omega
          have ra1 : IntKind.i64.wrap ((n : Int) - 1 - ((i : Int) + (j : Int)) / 2) = (n : Int) - 1 - ((i : Int) + (j : Int)) / 2 := by rw [IntKind.wrap_i64]; omega
          have ec1 : (((i : Int) + (j : Int)) / 2).toNat = jN1 := by omega
          have pc1 : (0 : Int) ≤ ((i : Int) + (j : Int)) / 2 := by omega
          have bc1 : ((i : Int) + (j : Int)) / 2 < (sz : Int) := by omega
          have rc1 : IntKind.i64.wrap (((i : Int) + (j : Int)) / 2) = ((i : Int) + (j : Int)) / 2 := by rw [IntKind.wrap_i64]; omega
          obtain ⟨x1, hx1⟩ : ∃ x, x = d[n - 1 - (i + j) / 2]! := ⟨_, rfl⟩
          obtain ⟨y1, hy1⟩ : ∃ x, x = d[(i + j) / 2]! := ⟨_, rfl⟩
          have l1a := S1.out.c1 R1 (n - 1 - (i + j) / 2) (by omega)
          have l1b := S1.out.c1 R1 ((i + j) / 2) (by omega)
          rw [← hx1, ← hiN1] at l1a
          rw [← hy1, ← hjN1] at l1b
          have hc1 := CMP.out d wr (by omega) V1.out S1.out x1 y1 (by rw [hx1]; exact (V1.out (n - 1 - (i + j) / 2) (by omega))) (by rw [hy1]; exact (V1.out ((i + j) / 2) (by omega)))
          have hd1 : decide (cfL l x1 y1 < 0) = false := by rw [cfL_lt, hx1, hy1]; exact hl1
          have hv1 : ¬ cfL l x1 y1 < 0 := of_decide_eq_false hd1
          clear hx1 hy1 hiN1 hjN1
          go_wp2_with fail
          go_quiet (first | (go_at_call 31; refine Calls.quiet_of (hc1 _)))
          have Sw2 : Hid (SW w0 blk off d (wr.drewN nq)) := S1.out.drewN nq
          clear l1a l1b hc1 S1 R1 V1 hl1 hes
          generalize wr.drewN nq = w2 at Sw2 ⊢
          clear nq
          clear ea1 pa1 ba1 ra1 ec1 pc1 bc1 rc1
          go_wp2
          go_roundg (j - ((i + j) / 2 + 1))
          case measure => omega
          case rel => exact ⟨(i + j) / 2 + 1, j, by go_num, rfl, by omega, by omega, by omega, by omega, HA2, HB, Sw2⟩
      · have hltz : ¬ (i : Int) < (j : Int) := by omega
        have hji : j = i := by omega
        have hnc : c + m = n := by omega
        have SP : Hid (Split l a m b c i d) := by
          have hA := HA.out
          have hB := HB.out
          rw [hji, ← hnc] at hB
          rw [← hnc] at hA
          exact Split.of H1.out H2.out k0 hmi (by omega) k2 k3 (by omega) KC.out hA hB
        obtain ⟨e, he⟩ : ∃ e : Nat, (n : Int) - (i : Int) = e := ⟨n - i, by omega⟩
        have hec : c + m - i = e := by omega
        have hme : m ≤ e := by have := SP.out.e1; omega
        have heb : e ≤ b := by have := SP.out.e2; omega
        have hai : a ≤ i := by omega
        have him : i ≤ m := by omega
        have hmid : i + (e - m) = c := by omega
        have HMID := Lib.hid hmid
        have HEC := Lib.hid hec
        clear hji HA HB hes R1 V1 hnc hec hmid
        go_upto_region 39 with (fail)
        go_cut [185] from 25 (fun s wx => wx = wr ∧ ∃ t : Bool, s = .bool t ∧ Hid (t = true ↔ (i < m ∧ m < e)))
        case first => as_aux_lemma =>
          go_wp2_with fail
          all_goals
            go_meet
            case rel => exact ⟨rfl, _, rfl, (show Hid _ from by show _ ↔ _; simp; try omega)⟩
        case rest =>
          obtain ⟨hwc, t1, rfl, HT1⟩ := hcut
          subst hwc
          go_upto_if 185 with (fail)
          go_cut [185] from 25 (fun s wx => ∃ d1, Hid (RotR i m e d d1) ∧ Hid (SW w0 blk off d1 wx))
          case first => as_aux_lemma =>
            cases t1 with
            | true =>
              go_wp2_with (first
                | (go_at_call 44; refine (rotate_any w0 blk off cap i m e _ sz _ _ _ _ d wc S1.out RR.out ES.out rfl rfl rfl (HT1.out.1 rfl).1 (HT1.out.1 rfl).2 (by omega) hsz).mono ?_; rintro ee w2 ⟨rfl, d1, hr1, hw1⟩))
              go_meet
              case rel => exact ⟨d1, hr1, hw1⟩
            | false =>
              go_wp2_with fail
              go_meet
              case rel => exact ⟨d, (show Hid _ from rot_any (fun h => by have := HT1.out.2 h; cases this) him hme), S1⟩
          case rest =>
            obtain ⟨d1, HR1, S2⟩ := hcut
            clear S1 HT1
            have ES1 : Hid (d1.size = sz) := HR1.out.size.trans ES.out
            have V2 : Hid (Vals sz d1) := VV.out.perm (b := e) (by have := ES.out; omega) HR1.out.1
            have MH := Lib.hid (merge_half hai him hme heb H1.out H2.out HX.out (fun p q g1 g2 g3 g4 => SP.out.c1 p q g1 g2 (by have := HEC.out; omega) g4) (fun p q g1 g2 => SP.out.c2 p q g1 (by have := HEC.out; omega)) HR1.out)
            rw [HMID.out] at MH
            go_upto_region 41 with (fail)
            go_cut [199] from 25 (fun s wx => wx = wc ∧ ∃ t : Bool, s = .bool t ∧ Hid (t = true ↔ (a < i ∧ i < c)))
            case first => as_aux_lemma =>
              go_wp2_with fail
              all_goals
                go_meet
                case rel => exact ⟨rfl, _, rfl, (show Hid _ from by show _ ↔ _; simp; try omega)⟩
            case rest =>
              obtain ⟨hwc, t2, rfl, HT2⟩ := hcut
              subst hwc
              go_upto_if 199 with (fail)
              go_cut [199] from 25 (fun s wx => ∃ d2, Hid (PermIn a c d1 d2) ∧ Hid (SrtIn (kyL l) a c d2) ∧ Hid (SW w0 blk off d2 wx))
              case first => as_aux_lemma =>
                cases t2 with
                | true =>
                  go_wp2_with (first
                    | (go_at_call 40; refine (hI.out a i c _ _ _ d1 wc (by omega) S2.out V2.out ES1.out rfl rfl rfl (HT2.out.1 rfl).1 (HT2.out.1 rfl).2 (by omega) MH.out.1 MH.out.2.1 MH.out.2.2.1).mono ?_; rintro ee w2 ⟨rfl, d2, hp2, hs2, hw2⟩))
                  go_meet
                  case rel => exact ⟨d2, hp2, hs2, hw2⟩
                | false =>
                  go_wp2_with fail
                  go_meet
                  case rel =>
                    refine ⟨d1, (show Hid _ from permIn_refl _ _ _), (show Hid _ from ?_), S2⟩
                    have h : ¬ (a < i ∧ i < c) := fun h => by have := HT2.out.2 h; cases this
                    have hic := SP.out.sc
                    by_cases g : a = i
                    · have q := MH.out.2.1; rw [← g] at q; exact q
                    · have q := MH.out.1; rw [show i = c by omega] at q; exact q
              case rest =>
                obtain ⟨d2, HP2, HS2, S3⟩ := hcut
                clear S2 HT2
                have ES2 : Hid (d2.size = sz) := HP2.out.1.trans ES1.out
                have V3 : Hid (Vals sz d2) := V2.out.perm (b := c) (by have := ES1.out; omega) HP2.out
                have K2 : Hid (∀ k, c ≤ k → d2[k]! = d1[k]!) := fun k hk => HP2.out.2.1 k (by omega)
                have FIN : Hid (∀ d3, PermIn c b d2 d3 → SrtIn (kyL l) c b d3 → PermIn a b d d3 ∧ SrtIn (kyL l) a b d3) := fun d3 hp3 hs3 => by
                  have e0 := ES.out
                  have e1 := ES1.out
                  have e2 := ES2.out
                  refine ⟨permIn_trans _ _ _ _ _ (permIn_mono _ _ _ _ _ _ hai heb (by omega) HR1.out.1) (permIn_trans _ _ _ _ _ (permIn_mono _ _ _ _ _ _ (Nat.le_refl _) (by omega) (by omega) HP2.out) (permIn_mono _ _ _ _ _ _ (by omega) (Nat.le_refl _) (by omega) hp3)), ?_⟩
                  exact merge_whole (by omega) (by omega) (by omega) MH.out.2.2.2.2.2.2 HP2.out HS2.out hp3 hs3
                go_upto_region 43 with (fail)
                go_cut [213] from 25 (fun s wx => wx = wc ∧ ∃ t : Bool, s = .bool t ∧ Hid (t = true ↔ (c < e ∧ e < b)))
                case first => as_aux_lemma =>
                  go_wp2_with fail
                  all_goals
                    go_meet
                    case rel => exact ⟨rfl, _, rfl, (show Hid _ from by show _ ↔ _; simp; try omega)⟩
                case rest =>
                  obtain ⟨hwc, t3, rfl, HT3⟩ := hcut
                  subst hwc
                  have L1 : Hid (SrtIn (kyL l) c e d2) := MH.out.2.2.2.1.keep fun k hk _ => K2.out k hk
                  have L2 : Hid (SrtIn (kyL l) e b d2) := MH.out.2.2.2.2.1.keep fun k hk _ => K2.out k (by have := HMID.out; omega)
                  have L3 : Hid (Apart c e b d2) := fun p q g1 g2 g3 g4 => by rw [K2.out p g1, K2.out q (by omega)]; exact MH.out.2.2.2.2.2.1 p q g1 g2 g3 g4
                  cases t3 with
                  | true => as_aux_lemma =>
                    go_wp2_with (first
                      | (go_at_call 40; refine (hI.out c e b _ _ _ d2 wc (by omega) S3.out V3.out ES2.out rfl rfl rfl (HT3.out.1 rfl).1 (HT3.out.1 rfl).2 (by omega) L1.out L2.out L3.out).mono ?_; rintro ee w2 ⟨rfl, d3, hp3, hs3, hw3⟩))
                    first | go_end0 | refine bodyPost_ret (results_none rfl _ _ _) rfl ?_
                    have f := FIN.out d3 hp3 hs3
                    exact ⟨rfl, d3, f.1, f.2, hw3⟩
                  | false => as_aux_lemma =>
                    go_wp2_with fail
                    first | go_end0 | refine bodyPost_ret (results_none rfl _ _ _) rfl ?_
                    have h : ¬ (c < e ∧ e < b) := fun h => by have := HT3.out.2 h; cases this
                    have q : SrtIn (kyL l) c b d2 := by
                      have := HMID.out
                      by_cases g : c = e
                      · have q := L2.out; rw [← g] at q; exact q
                      · have q := L1.out; rw [show e = b by omega] at q; exact q
                    have f := FIN.out d2 (permIn_refl _ _ _) q
                    exact ⟨rfl, d2, f.1, f.2, S3.out⟩
end Go.Proofs.Ytbpcggoplacplaa
