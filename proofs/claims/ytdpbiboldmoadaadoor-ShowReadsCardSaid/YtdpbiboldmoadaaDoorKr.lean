/- The program's Register, part, Text. -/
import Derived.Test.YtdpbiboldmoadaaDoorKn
import Derived.Test.YtdpbiboldmoadaaDoorEi
import Derived.StillTailTactics
import Derived.Deep.Cut
set_option maxRecDepth 100000
namespace Go.Proofs.YtdpbiboldmoadaaDoor
open Go.RowKit

def regC (ok : Bool) (o : Option Int) : Option Int := if ok then (match o with | some n => if 0 ≤ n ∧ n ≤ 31 then some n else none | none => none) else none
theorem regC_eq (S : List UInt8) : regC (Lib.hasPrefix S [120]) (numV (Lib.trimPrefix S [120])) = regS S := by
  apply Option.ext
  intro r
  show regC _ _ = some r ↔ regS S = some r
  rw [reg_iff]
  unfold Lib.trimPrefix Lib.hasPrefix
  constructor
  · intro h
    unfold regC at h
    split at h
    · next hp =>
      split at h
      · next n hn =>
        split at h
        · next hr =>
          obtain rfl := Option.some.inj h
          refine ⟨hr, ?_⟩
          have := ((num_iff _ _).1 hn).2
          unfold regT
          rw [this]
          cases S with
          | nil => simp [List.isPrefixOf] at hp
          | cons a t =>
            simp [List.isPrefixOf] at hp
            rw [hp]; rfl
        · cases h
      · cases h
    · cases h
  · rintro ⟨hr, rfl⟩
    have hp : List.isPrefixOf [120] (regT r) = true := by unfold regT; simp [List.isPrefixOf]
    have hd : List.drop ([120] : List UInt8).length (regT r) = digI r := rfl
    rw [hp, if_pos rfl, hd, num_digI ⟨by omega, by omega⟩]
    unfold regC
    rw [if_pos rfl]
    simp only
    rw [if_pos hr]
set_option maxHeartbeats 1000000 in
theorem reg_c (S : List UInt8) (hl : S.length ≤ 100000) (w : World) : Calls Tryd.prog 15 #[tx S] w fun e w' => e = .returned (retO (regS S)) ∧ Below w.heap.size w w' := by
  have HK : ∀ w, Calls Tryd.prog 38 #[.string (bs S), .string ⟨#[120]⟩] w fun e w' => e = .returned (.tuple #[.string (bs (Lib.trimPrefix S [120])), .bool (Lib.hasPrefix S [120])]) ∧ w' = w := fun w => Tryd.strings_CutPrefix (bs S) ⟨#[120]⟩ w
  have hdl : (Lib.trimPrefix S [120]).length ≤ 100000 := by
    unfold Lib.trimPrefix
    split
    · rw [List.length_drop]; omega
    · exact hl
  have HN := number_c (Lib.trimPrefix S [120]) hdl w
  have HX := Lib.hid (regC_eq S)
  unfold tx retO at HN ⊢
  generalize regS S = r at *
  generalize Lib.trimPrefix S [120] = D at *
  generalize Lib.hasPrefix S [120] = ok at *
  obtain ⟨o, ho⟩ : ∃ o, numV D = o := ⟨_, rfl⟩
  rw [ho] at HN HX
  clear ho hdl
  cases o with
  | none =>
    have HR : Hid (r = none) := by show r = none; rw [← HX.out]; unfold regC; cases ok <;> rfl
    clear HX
    have HN : Calls Tryd.prog 13 #[.string (bs D)] w fun e w' => e = .returned (.tuple #[.int .i64 0, .bool false]) ∧ Below w.heap.size w w' := HN
    cases ok
    all_goals
      go_enter Tryd.func15, Tryd.ntmps15
      go_wp2_with (first
        | (go_at_call 38; refine (HK _).mono ?_; rintro e w' ⟨rfl, rfl⟩)
        | (go_at_call 13; refine HN.mono ?_; rintro e w' ⟨rfl, hb⟩; have HB2 := Lib.hid hb; clear hb))
      go_ret2
      exact ⟨by rw [HR.out]; rfl, HB2.out⟩
  | some n =>
    have HN : Calls Tryd.prog 13 #[.string (bs D)] w fun e w' => e = .returned (.tuple #[.int .i64 n, .bool true]) ∧ Below w.heap.size w w' := HN
    cases ok with
    | false =>
      have HR : Hid (r = none) := by show r = none; rw [← HX.out]; rfl
      clear HX
      go_enter Tryd.func15, Tryd.ntmps15
      go_wp2_with (first
        | (go_at_call 38; refine (HK _).mono ?_; rintro e w' ⟨rfl, rfl⟩)
        | (go_at_call 13; refine HN.mono ?_; rintro e w' ⟨rfl, hb⟩; have HB2 := Lib.hid hb; clear hb))
      go_ret2
      exact ⟨by rw [HR.out]; rfl, HB2.out⟩
    | true =>
      by_cases h0 : n < 0
      · have HR : Hid (r = none) := by show r = none; rw [← HX.out]; unfold regC; rw [if_pos rfl]; simp only; rw [if_neg (by omega)]
        clear HX
        have b0 : decide (n < 0) = true := decide_eq_true h0
        clear h0
        go_enter Tryd.func15, Tryd.ntmps15
        go_wp2_with (first
          | (go_at_call 38; refine (HK _).mono ?_; rintro e w' ⟨rfl, rfl⟩)
          | (go_at_call 13; refine HN.mono ?_; rintro e w' ⟨rfl, hb⟩; have HB2 := Lib.hid hb; clear hb))
        go_ret2
        exact ⟨by rw [HR.out]; rfl, HB2.out⟩
      · have b0 : decide (n < 0) = false := decide_eq_false h0
        by_cases h1 : 31 < n
        · have HR : Hid (r = none) := by show r = none; rw [← HX.out]; unfold regC; rw [if_pos rfl]; simp only; rw [if_neg (by omega)]
          clear HX
          have b1 : decide (31 < n) = true := decide_eq_true h1
          clear h0 h1
          go_enter Tryd.func15, Tryd.ntmps15
          go_wp2_with (first
            | (go_at_call 38; refine (HK _).mono ?_; rintro e w' ⟨rfl, rfl⟩)
            | (go_at_call 13; refine HN.mono ?_; rintro e w' ⟨rfl, hb⟩; have HB2 := Lib.hid hb; clear hb))
          go_ret2
          exact ⟨by rw [HR.out]; rfl, HB2.out⟩
        · have HR : Hid (r = some n) := by show r = some n; rw [← HX.out]; unfold regC; rw [if_pos rfl]; simp only; rw [if_pos ⟨by omega, by omega⟩]
          clear HX
          have b1 : decide (31 < n) = false := decide_eq_false h1
          have e1 : wrap64 n = n := wrap64_of ⟨by omega, by omega⟩
          clear h0 h1
          go_enter Tryd.func15, Tryd.ntmps15
          go_wp2_with (first
            | (go_at_call 38; refine (HK _).mono ?_; rintro e w' ⟨rfl, rfl⟩)
            | (go_at_call 13; refine HN.mono ?_; rintro e w' ⟨rfl, hb⟩; have HB2 := Lib.hid hb; clear hb))
          go_ret2
          exact ⟨by rw [HR.out]; rfl, HB2.out⟩
end Go.Proofs.YtdpbiboldmoadaaDoor
