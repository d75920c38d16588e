/- Of stage 11. -/
import Derived.Test.YtmamblgpekafbaaGreatDoorSypa
import Derived.Test.YtmamblgpekafbaaGreatDoorBk4pa
import Derived.Laws.Closers25b
set_option maxRecDepth 100000
namespace Go.Proofs.YtmamblgpekafbaaGreatDoor
open Go.RowKit
def clL : List Nat := [0, 0, 1, 2, 3, 3, 3, 3, 3, 3, 2, 2, 2, 2, 2, 2, 2, 4, 4, 4, 4, 2, 2, 2, 2, 2, 2, 5, 5, 5, 2, 6, 6, 6, 7, 7, 7, 7, 7, 7, 7, 7, 7, 7, 7, 7, 7, 7, 7, 8, 9, 10, 10, 11, 11, 12, 12, 12, 12, 12, 12, 12, 12, 12, 12, 12, 12, 12, 12, 12, 12, 12, 12, 12, 12]
theorem cls_0 : ∀ k : Fin 75, clL.getD k.val 99 = 0 → wrB ((k.val : Int) + 1) = true ∧ firB ((k.val : Int) + 1) = false ∧ secB ((k.val : Int) + 1) = false ∧ fmV ((k.val : Int) + 1) = 4 ∧ shV ((k.val : Int) + 1) = 0 ∧ srt ((k.val : Int) + 1) < 10 ∧ (k.val : Int) + 1 ≠ 50 ∧ (k.val : Int) + 1 ≠ 51 := by decide
theorem cls_1 : ∀ k : Fin 75, clL.getD k.val 99 = 1 → wrB ((k.val : Int) + 1) = true ∧ firB ((k.val : Int) + 1) = false ∧ secB ((k.val : Int) + 1) = false ∧ fmV ((k.val : Int) + 1) = 5 ∧ shV ((k.val : Int) + 1) = 0 ∧ srt ((k.val : Int) + 1) < 10 ∧ (k.val : Int) + 1 ≠ 50 ∧ (k.val : Int) + 1 ≠ 51 := by decide
theorem cls_2 : ∀ k : Fin 75, clL.getD k.val 99 = 2 → wrB ((k.val : Int) + 1) = true ∧ firB ((k.val : Int) + 1) = true ∧ secB ((k.val : Int) + 1) = false ∧ fmV ((k.val : Int) + 1) = 1 ∧ shV ((k.val : Int) + 1) = 0 ∧ srt ((k.val : Int) + 1) < 10 ∧ (k.val : Int) + 1 ≠ 50 ∧ (k.val : Int) + 1 ≠ 51 := by decide
theorem cls_3 : ∀ k : Fin 75, clL.getD k.val 99 = 3 → wrB ((k.val : Int) + 1) = false ∧ firB ((k.val : Int) + 1) = true ∧ secB ((k.val : Int) + 1) = true ∧ fmV ((k.val : Int) + 1) = 3 ∧ shV ((k.val : Int) + 1) = 0 ∧ srt ((k.val : Int) + 1) < 10 ∧ (k.val : Int) + 1 ≠ 50 ∧ (k.val : Int) + 1 ≠ 51 := by decide
theorem cls_4 : ∀ k : Fin 75, clL.getD k.val 99 = 4 → wrB ((k.val : Int) + 1) = false ∧ firB ((k.val : Int) + 1) = true ∧ secB ((k.val : Int) + 1) = true ∧ fmV ((k.val : Int) + 1) = 2 ∧ shV ((k.val : Int) + 1) = 0 ∧ srt ((k.val : Int) + 1) < 10 ∧ (k.val : Int) + 1 ≠ 50 ∧ (k.val : Int) + 1 ≠ 51 := by decide
theorem cls_5 : ∀ k : Fin 75, clL.getD k.val 99 = 5 → wrB ((k.val : Int) + 1) = true ∧ firB ((k.val : Int) + 1) = true ∧ secB ((k.val : Int) + 1) = false ∧ fmV ((k.val : Int) + 1) = 0 ∧ shV ((k.val : Int) + 1) = 6 ∧ srt ((k.val : Int) + 1) < 10 ∧ (k.val : Int) + 1 ≠ 50 ∧ (k.val : Int) + 1 ≠ 51 := by decide
theorem cls_6 : ∀ k : Fin 75, clL.getD k.val 99 = 6 → wrB ((k.val : Int) + 1) = true ∧ firB ((k.val : Int) + 1) = true ∧ secB ((k.val : Int) + 1) = false ∧ fmV ((k.val : Int) + 1) = 0 ∧ shV ((k.val : Int) + 1) = 5 ∧ srt ((k.val : Int) + 1) < 10 ∧ (k.val : Int) + 1 ≠ 50 ∧ (k.val : Int) + 1 ≠ 51 := by decide
theorem cls_7 : ∀ k : Fin 75, clL.getD k.val 99 = 7 → wrB ((k.val : Int) + 1) = true ∧ firB ((k.val : Int) + 1) = true ∧ secB ((k.val : Int) + 1) = true ∧ fmV ((k.val : Int) + 1) = 0 ∧ shV ((k.val : Int) + 1) = 0 ∧ srt ((k.val : Int) + 1) < 10 ∧ (k.val : Int) + 1 ≠ 50 ∧ (k.val : Int) + 1 ≠ 51 := by decide
theorem cls_8 : ∀ k : Fin 75, clL.getD k.val 99 = 8 → wrB ((k.val : Int) + 1) = false ∧ firB ((k.val : Int) + 1) = false ∧ secB ((k.val : Int) + 1) = false ∧ fmV ((k.val : Int) + 1) = 0 ∧ shV ((k.val : Int) + 1) = 0 ∧ srt ((k.val : Int) + 1) < 10 ∧ (k.val : Int) + 1 = 50 ∧ (k.val : Int) + 1 ≠ 51 := by decide
theorem cls_9 : ∀ k : Fin 75, clL.getD k.val 99 = 9 → wrB ((k.val : Int) + 1) = false ∧ firB ((k.val : Int) + 1) = false ∧ secB ((k.val : Int) + 1) = false ∧ fmV ((k.val : Int) + 1) = 0 ∧ shV ((k.val : Int) + 1) = 0 ∧ srt ((k.val : Int) + 1) < 10 ∧ (k.val : Int) + 1 ≠ 50 ∧ (k.val : Int) + 1 = 51 := by decide
theorem zU1 : ∀ k : Fin 75, clL.getD k.val 99 = 10 → wrB ((k.val : Int) + 1) = false ∧ firB ((k.val : Int) + 1) = false ∧ secB ((k.val : Int) + 1) = false ∧ fmV ((k.val : Int) + 1) = 0 ∧ shV ((k.val : Int) + 1) = 0 ∧ srt ((k.val : Int) + 1) < 10 ∧ (k.val : Int) + 1 ≠ 50 ∧ (k.val : Int) + 1 ≠ 51 := by decide
theorem zQ2 : ∀ k : Fin 75, clL.getD k.val 99 = 11 → wrB ((k.val : Int) + 1) = true ∧ firB ((k.val : Int) + 1) = true ∧ secB ((k.val : Int) + 1) = false ∧ fmV ((k.val : Int) + 1) = 0 ∧ shV ((k.val : Int) + 1) = 0 ∧ 10 ≤ srt ((k.val : Int) + 1) ∧ (k.val : Int) + 1 ≠ 50 ∧ (k.val : Int) + 1 ≠ 51 := by decide
theorem zV3 : ∀ k : Fin 75, clL.getD k.val 99 = 12 → wrB ((k.val : Int) + 1) = true ∧ firB ((k.val : Int) + 1) = true ∧ secB ((k.val : Int) + 1) = true ∧ fmV ((k.val : Int) + 1) = 0 ∧ shV ((k.val : Int) + 1) = 0 ∧ 10 ≤ srt ((k.val : Int) + 1) ∧ (k.val : Int) + 1 ≠ 50 ∧ (k.val : Int) + 1 ≠ 51 := by decide
theorem Zm1 : ∀ k : Fin 75, clL.getD k.val 99 < 13 := by decide
theorem zG1 {op : Int} (h : 1 ≤ op ∧ op ≤ 75) :
    (wrB op = true ∧ firB op = false ∧ secB op = false ∧ fmV op = 4 ∧ shV op = 0 ∧ srt op < 10 ∧ op ≠ 50 ∧ op ≠ 51) ∨
    (wrB op = true ∧ firB op = false ∧ secB op = false ∧ fmV op = 5 ∧ shV op = 0 ∧ srt op < 10 ∧ op ≠ 50 ∧ op ≠ 51) ∨
    (wrB op = true ∧ firB op = true ∧ secB op = false ∧ fmV op = 1 ∧ shV op = 0 ∧ srt op < 10 ∧ op ≠ 50 ∧ op ≠ 51) ∨
    (wrB op = false ∧ firB op = true ∧ secB op = true ∧ fmV op = 3 ∧ shV op = 0 ∧ srt op < 10 ∧ op ≠ 50 ∧ op ≠ 51) ∨
    (wrB op = false ∧ firB op = true ∧ secB op = true ∧ fmV op = 2 ∧ shV op = 0 ∧ srt op < 10 ∧ op ≠ 50 ∧ op ≠ 51) ∨
    (wrB op = true ∧ firB op = true ∧ secB op = false ∧ fmV op = 0 ∧ shV op = 6 ∧ srt op < 10 ∧ op ≠ 50 ∧ op ≠ 51) ∨
    (wrB op = true ∧ firB op = true ∧ secB op = false ∧ fmV op = 0 ∧ shV op = 5 ∧ srt op < 10 ∧ op ≠ 50 ∧ op ≠ 51) ∨
    (wrB op = true ∧ firB op = true ∧ secB op = true ∧ fmV op = 0 ∧ shV op = 0 ∧ srt op < 10 ∧ op ≠ 50 ∧ op ≠ 51) ∨
    (wrB op = false ∧ firB op = false ∧ secB op = false ∧ fmV op = 0 ∧ shV op = 0 ∧ srt op < 10 ∧ op = 50 ∧ op ≠ 51) ∨
    (wrB op = false ∧ firB op = false ∧ secB op = false ∧ fmV op = 0 ∧ shV op = 0 ∧ srt op < 10 ∧ op ≠ 50 ∧ op = 51) ∨
    (wrB op = false ∧ firB op = false ∧ secB op = false ∧ fmV op = 0 ∧ shV op = 0 ∧ srt op < 10 ∧ op ≠ 50 ∧ op ≠ 51) ∨
    (wrB op = true ∧ firB op = true ∧ secB op = false ∧ fmV op = 0 ∧ shV op = 0 ∧ 10 ≤ srt op ∧ op ≠ 50 ∧ op ≠ 51) ∨
    (wrB op = true ∧ firB op = true ∧ secB op = true ∧ fmV op = 0 ∧ shV op = 0 ∧ 10 ≤ srt op ∧ op ≠ 50 ∧ op ≠ 51) := by
  obtain ⟨k, hk, rfl⟩ : ∃ k : Nat, k < 75 ∧ op = (k : Int) + 1 := ⟨op.toNat - 1, by omega, by omega⟩
  have hc := Zm1 ⟨k, hk⟩
  have hd : clL.getD k 99 = 0 ∨ clL.getD k 99 = 1 ∨ clL.getD k 99 = 2 ∨ clL.getD k 99 = 3 ∨ clL.getD k 99 = 4 ∨ clL.getD k 99 = 5 ∨ clL.getD k 99 = 6 ∨ clL.getD k 99 = 7 ∨ clL.getD k 99 = 8 ∨ clL.getD k 99 = 9 ∨ clL.getD k 99 = 10 ∨ clL.getD k 99 = 11 ∨ clL.getD k 99 = 12 := by
    have : clL.getD k 99 < 13 := hc
    omega
  rcases hd with h | h | h | h | h | h | h | h | h | h | h | h | h
  · exact .inl (cls_0 ⟨k, hk⟩ h)
  · exact .inr (.inl (cls_1 ⟨k, hk⟩ h))
  · exact .inr (.inr (.inl (cls_2 ⟨k, hk⟩ h)))
  · exact .inr (.inr (.inr (.inl (cls_3 ⟨k, hk⟩ h))))
  · exact .inr (.inr (.inr (.inr (.inl (cls_4 ⟨k, hk⟩ h)))))
  · exact .inr (.inr (.inr (.inr (.inr (.inl (cls_5 ⟨k, hk⟩ h))))))
  · exact .inr (.inr (.inr (.inr (.inr (.inr (.inl (cls_6 ⟨k, hk⟩ h)))))))
  · exact .inr (.inr (.inr (.inr (.inr (.inr (.inr (.inl (cls_7 ⟨k, hk⟩ h))))))))
  · exact .inr (.inr (.inr (.inr (.inr (.inr (.inr (.inr (.inl (cls_8 ⟨k, hk⟩ h)))))))))
  · exact .inr (.inr (.inr (.inr (.inr (.inr (.inr (.inr (.inr (.inl (cls_9 ⟨k, hk⟩ h))))))))))
  · exact .inr (.inr (.inr (.inr (.inr (.inr (.inr (.inr (.inr (.inr (.inl (zU1 ⟨k, hk⟩ h)))))))))))
  · exact .inr (.inr (.inr (.inr (.inr (.inr (.inr (.inr (.inr (.inr (.inr (.inl (zQ2 ⟨k, hk⟩ h))))))))))))
  · exact .inr (.inr (.inr (.inr (.inr (.inr (.inr (.inr (.inr (.inr (.inr (.inr ((zV3 ⟨k, hk⟩ h)))))))))))))
def zd8 (v op : Int) : Ins where
  op := op
  rd := if wrB op then v / 128 % 32 else 0
  rs1 := if firB op then v / 32768 % 32 else 0
  rs2 := if secB op then v / 1048576 % 32 else 0
  imm := if 0 < fmV op then getK (fmV op) v 32 else if shV op = 6 then v / 1048576 % 64 else if shV op = 5 then v / 1048576 % 32 else 0
  aq := decide (10 ≤ srt op) && decide (v / 67108864 % 2 = 1)
  rl := decide (10 ≤ srt op) && decide (v / 33554432 % 2 = 1)
  pred := if op = 50 then v / 16777216 % 16 else if op = 51 then 3 else 0
  succ := if op = 50 then v / 1048576 % 16 else if op = 51 then 3 else 0
def za5 : Ins := ⟨0, 0, 0, 0, 0, false, false, 0, 0⟩
def opK (v : Int) : Nat → Int
  | 0 => 0
  | k + 1 => if opK v k = 0 then (if iswB v ((k : Int) + 1) then (k : Int) + 1 else 0) else opK v k
def opW (v : Int) : Int := opK v 75
def decI (v : Int) : Ins := if opW v = 0 then za5 else zd8 v (opW v)
def decB (v : Int) : Bool := !decide (opW v = 0)
theorem zR1 {v : Int} {k : Nat} (h : opK v k ≠ 0) : ∀ n, opK v (k + n) = opK v k
  | 0 => rfl
  | n + 1 => by
    show (if opK v (k + n) = 0 then _ else opK v (k + n)) = _
    rw [zR1 h n, if_neg h]
theorem Zk4 {v : Int} {k : Nat} (hk : k < 75) (h0 : opK v k = 0) (h : iswB v ((k : Int) + 1) = true) : opW v = (k : Int) + 1 := by
  have e : opK v (k + 1) = (k : Int) + 1 := by
    show (if opK v k = 0 then (if iswB v ((k : Int) + 1) then (k : Int) + 1 else 0) else opK v k) = _
    rw [if_pos h0, if_pos h]
  have := zR1 (v := v) (k := k + 1) (by omega) (75 - (k + 1))
  rw [show k + 1 + (75 - (k + 1)) = 75 by omega] at this
  unfold opW
  omega
theorem opK_no {v : Int} {k : Nat} (h0 : opK v k = 0) (h : iswB v ((k : Int) + 1) = false) : opK v (k + 1) = 0 := by
  show (if opK v k = 0 then (if iswB v ((k : Int) + 1) then (k : Int) + 1 else 0) else opK v k) = _
  rw [if_pos h0, h]
  rfl
end Go.Proofs.YtmamblgpekafbaaGreatDoor
namespace Go.Proofs.YtmamblgpekafbaaGreatDoor
open Go.RowKit
def clash (j k : Int) : Bool :=
  decide (ocV j ≠ ocV k) || decide (1 ≤ kdV j ∧ kdV j ≤ 5 ∧ 1 ≤ kdV k ∧ kdV k ≤ 5 ∧ f3V j ≠ f3V k) || decide (kdV j = 2 ∧ kdV k = 2 ∧ agV j ≠ agV k) || decide (kdV j = 3 ∧ kdV k = 3 ∧ agV j ≠ agV k) ||
    decide (kdV j = 5 ∧ kdV k = 5 ∧ agV j ≠ agV k) || decide (kdV j = 4 ∧ kdV k = 5 ∧ agV k ≠ 2) || decide (kdV j = 5 ∧ kdV k = 4 ∧ agV j ≠ 2) || decide (kdV j = 6 ∧ kdV k = 7) || decide (kdV j = 7 ∧ kdV k = 6) || decide (kdV j = 8 ∧ kdV k = 9) || decide (kdV j = 9 ∧ kdV k = 8)
theorem Zi6 : ∀ j k : Fin 75, j = k ∨ clash ((j.val : Int) + 1) ((k.val : Int) + 1) = true := by decide +kernel
structure Nrm (v oc kd f3 ag : Int) : Prop where
  n1 : v % 128 = oc
  n2 : 1 ≤ kd → kd ≤ 5 → v / 4096 % 8 = f3
  n3 : kd = 2 → v / 33554432 = ag
  n4 : kd = 3 → v / 33554432 / 2 = ag
  n5 : kd = 5 → v / 134217728 = ag
  n6 : kd = 4 → v / 134217728 = 2
  n7 : kd = 6 → v / 1048576 ≠ 2099
  n8 : kd = 7 → v / 1048576 = 2099
  n9 : kd = 8 → v = 115
  na : kd = 9 → v = 1048691
theorem Isw.nrm {v k : Int} (h : Isw v k) : Nrm v (ocV k) (kdV k) (f3V k) (agV k) := by
  unfold Isw at h
  obtain ⟨h1, h2⟩ := h
  generalize ocV k = a at *
  generalize kdV k = b at *
  generalize f3V k = c at *
  generalize agV k = d at *
  rcases h2 with h | ⟨h, h3⟩ | ⟨h, h3, h4⟩ | ⟨h, h3, h4⟩ | ⟨h, h3, h4, h5⟩ | ⟨h, h3, h4⟩ | ⟨h, h3, h4⟩ | ⟨h, h3, h4⟩ | ⟨h, h3⟩ | ⟨h, h3⟩
  all_goals
    subst h
    exact ⟨h1, fun _ _ => by first | omega | assumption, fun _ => by first | omega | assumption, fun _ => by first | omega | assumption, fun _ => by first | omega | assumption, fun _ => by first | omega | assumption, fun _ => by first | omega | assumption, fun _ => by first | omega | assumption, fun _ => by first | omega | assumption, fun _ => by first | omega | assumption⟩
theorem clash_no {v j k : Int} (hj : Isw v j) (hk : Isw v k) (h : clash j k = true) : False := by
  obtain ⟨a1, a2, a3, a4, a5, a6, a7, a8, a9, aa⟩ := hj.nrm
  obtain ⟨b1, b2, b3, b4, b5, b6, b7, b8, b9, ba⟩ := hk.nrm
  clear hj hk
  unfold clash at h
  simp only [Bool.or_eq_true, decide_eq_true_eq] at h
  generalize ocV j = oj at *
  generalize kdV j = kj at *
  generalize f3V j = fj at *
  generalize agV j = gj at *
  generalize ocV k = ok at *
  generalize kdV k = kk at *
  generalize f3V k = fk at *
  generalize agV k = gk at *
  rcases h with (((((((((h | ⟨h1, h2, h3, h4, h⟩) | ⟨rfl, rfl, h⟩) | ⟨rfl, rfl, h⟩) | ⟨rfl, rfl, h⟩) | ⟨rfl, rfl, h⟩) | ⟨rfl, rfl, h⟩) | ⟨rfl, rfl⟩) | ⟨rfl, rfl⟩) | ⟨rfl, rfl⟩) | ⟨rfl, rfl⟩
  · omega
  · have := a2 h1 h2; have := b2 h3 h4; omega
  · have := a3 rfl; have := b3 rfl; omega
  · have := a4 rfl; have := b4 rfl; omega
  · have := a5 rfl; have := b5 rfl; omega
  · have := a6 rfl; have := b5 rfl; omega
  · have := a5 rfl; have := b6 rfl; omega
  · exact a7 rfl (b8 rfl)
  · exact b7 rfl (a8 rfl)
  · have := a9 rfl; have := ba rfl; omega
  · have := aa rfl; have := b9 rfl; omega
theorem isw_uniq {v j k : Int} (j1 : 1 ≤ j ∧ j ≤ 75) (k1 : 1 ≤ k ∧ k ≤ 75) (hj : Isw v j) (hk : Isw v k) : j = k := by
  rcases Zi6 ⟨j.toNat - 1, by omega⟩ ⟨k.toNat - 1, by omega⟩ with h | h
  · have : j.toNat - 1 = k.toNat - 1 := by injection h
    omega
  · simp only [show ((j.toNat - 1 : Nat) : Int) + 1 = j by omega, show ((k.toNat - 1 : Nat) : Int) + 1 = k by omega] at h
    exact (clash_no hj hk h).elim
theorem zD5 {v : Int} : ∀ k : Nat, (∀ j : Nat, j < k → ¬ Isw v ((j : Int) + 1)) → opK v k = 0
  | 0, _ => rfl
  | k + 1, h => opK_no (zD5 k fun j hj => h j (by omega)) (decide_eq_false (h k (by omega)))
theorem zg2 {v k : Int} (hk : 1 ≤ k ∧ k ≤ 75) (h : Isw v k) : opW v = k := by
  obtain ⟨n, rfl⟩ : ∃ n : Nat, k = (n : Int) + 1 := ⟨k.toNat - 1, by omega⟩
  refine Zk4 (by omega) (zD5 n fun j hj hI => ?_) (decide_eq_true h)
  have := isw_uniq (v := v) (j := (j : Int) + 1) (by omega) hk hI h
  omega
theorem opW_none {v : Int} (h : ∀ k, 1 ≤ k ∧ k ≤ 75 → ¬ Isw v k) : opW v = 0 := zD5 75 fun j hj => h _ (by omega)
theorem Za8 {v : Int} : ∀ k : Nat, k ≤ 75 → opK v k ≠ 0 → (1 ≤ opK v k ∧ opK v k ≤ 75) ∧ Isw v (opK v k)
  | 0, _, h => absurd rfl h
  | k + 1, hk, h => by
    have e : opK v (k + 1) = if opK v k = 0 then (if iswB v ((k : Int) + 1) then (k : Int) + 1 else 0) else opK v k := rfl
    by_cases h0 : opK v k = 0
    · rw [if_pos h0] at e
      cases hb : iswB v ((k : Int) + 1)
      · rw [hb] at e; exact absurd e h
      · rw [hb, if_pos rfl] at e
        rw [e]
        exact ⟨by omega, of_decide_eq_true hb⟩
    · rw [if_neg h0] at e
      rw [e]
      exact Za8 k (by omega) h0
theorem zu4 {v : Int} (h : opW v ≠ 0) : (1 ≤ opW v ∧ opW v ≤ 75) ∧ Isw v (opW v) := Za8 75 (Nat.le_refl _) h
theorem Ze3 {x : Int} (h1 : x % 128 = 15) (h2 : x / 4096 % 8 = 0) (h3 : x / 1048576 ≤ 255) : Isw x 50 := by
  unfold Isw
  rw [show ocV 50 = 15 by decide, show kdV 50 = 6 by decide]
  omega
theorem Zc6 (x : Int) : zd8 x 50 = ⟨50, 0, 0, 0, 0, false, false, x / 16777216 % 16, x / 1048576 % 16⟩ := rfl
end Go.Proofs.YtmamblgpekafbaaGreatDoor
namespace Go.Proofs.YtmamblgpekafbaaGreatDoor
open Go.RowKit
def jalrL : List Int := [4, 0, 0, 0, 0, 0, 0, 0]
def zB5 : List Int := [5, 6, 0, 0, 7, 8, 9, 10]
def loadL : List Int := [11, 12, 13, 14, 15, 16, 17, 0]
def zR4 : List Int := [18, 19, 20, 21, 0, 0, 0, 0]
def zA0 : List Int := [50, 0, 0, 0, 0, 0, 0, 0]
def numL : List Int := [22, 0, 23, 24, 25, 0, 26, 27]
def shiL : List Int := [0, 28, 0, 0, 0, 29, 0, 0]
def Zd0 : List Int := [0, 0, 0, 0, 0, 30, 0, 0]
def zx9 : List Int := [31, 0, 0, 0, 0, 0, 0, 0]
def Zm6 : List Int := [0, 32, 0, 0, 0, 33, 0, 0]
def zH4 : List Int := [0, 0, 0, 0, 0, 34, 0, 0]
def Zl5 : List Int := [35, 37, 38, 39, 40, 41, 43, 44]
def zJ9 : List Int := [36, 0, 0, 0, 0, 42, 0, 0]
def zJ1 : List Int := [45, 47, 0, 0, 0, 48, 0, 0]
def zw6 : List Int := [46, 0, 0, 0, 0, 49, 0, 0]
def atwL : List Int := [59, 58, 54, 56, 60, 0, 0, 0, 62, 0, 0, 0, 61, 0, 0, 0, 63, 0, 0, 0, 64, 0, 0, 0, 65, 0, 0, 0, 66, 0, 0, 0]
def atdL : List Int := [68, 67, 55, 57, 69, 0, 0, 0, 71, 0, 0, 0, 70, 0, 0, 0, 72, 0, 0, 0, 73, 0, 0, 0, 74, 0, 0, 0, 75, 0, 0, 0]
def l8 (l : List Int) (f : Int) : Int := l.getD f.toNat 0
section
variable {v k : Int}
theorem yes0 (ho : v % 128 = ocV k) (hk : kdV k = 0) : Isw v k := ⟨ho, .inl hk⟩
theorem yes1 (ho : v % 128 = ocV k) (hk : kdV k = 1) (h3 : v / 4096 % 8 = f3V k) : Isw v k := ⟨ho, .inr (.inl ⟨hk, h3⟩)⟩
theorem yes2 (ho : v % 128 = ocV k) (hk : kdV k = 2) (h3 : v / 4096 % 8 = f3V k) (h7 : v / 33554432 = agV k) : Isw v k := ⟨ho, .inr (.inr (.inl ⟨hk, h3, h7⟩))⟩
theorem yes3 (ho : v % 128 = ocV k) (hk : kdV k = 3) (h3 : v / 4096 % 8 = f3V k) (h7 : v / 33554432 / 2 = agV k) : Isw v k := ⟨ho, .inr (.inr (.inr (.inl ⟨hk, h3, h7⟩)))⟩
theorem yes4 (ho : v % 128 = ocV k) (hk : kdV k = 4) (h3 : v / 4096 % 8 = f3V k) (h7 : v / 134217728 = 2) (h2 : v / 1048576 % 32 = 0) : Isw v k := ⟨ho, .inr (.inr (.inr (.inr (.inl ⟨hk, h3, h7, h2⟩))))⟩
theorem yes5 (ho : v % 128 = ocV k) (hk : kdV k = 5) (h3 : v / 4096 % 8 = f3V k) (h7 : v / 134217728 = agV k) : Isw v k := ⟨ho, .inr (.inr (.inr (.inr (.inr (.inl ⟨hk, h3, h7⟩)))))⟩
theorem yes6 (ho : v % 128 = ocV k) (hk : kdV k = 6) (h3 : v / 4096 % 8 = 0) (h7 : v / 1048576 ≠ 2099) : Isw v k := ⟨ho, .inr (.inr (.inr (.inr (.inr (.inr (.inl ⟨hk, h3, h7⟩))))))⟩
theorem yes7 (ho : v % 128 = ocV k) (hk : kdV k = 7) (h3 : v / 4096 % 8 = 0) (h7 : v / 1048576 = 2099) : Isw v k := ⟨ho, .inr (.inr (.inr (.inr (.inr (.inr (.inr (.inl ⟨hk, h3, h7⟩)))))))⟩
theorem yes8 (ho : v % 128 = ocV k) (hk : kdV k = 8) (h7 : v = 115) : Isw v k := ⟨ho, .inr (.inr (.inr (.inr (.inr (.inr (.inr (.inr (.inl ⟨hk, h7⟩))))))))⟩
theorem yes9 (ho : v % 128 = ocV k) (hk : kdV k = 9) (h7 : v = 1048691) : Isw v k := ⟨ho, .inr (.inr (.inr (.inr (.inr (.inr (.inr (.inr (.inr ⟨hk, h7⟩))))))))⟩
theorem zz1 {oc : Int} (ho : v % 128 = oc) (hd : ∀ k : Fin 75, ocV ((k.val : Int) + 1) = oc → ¬ Isw v ((k.val : Int) + 1)) : opW v = 0 := by
  refine opW_none fun k hk hI => ?_
  have := hd ⟨k.toNat - 1, by omega⟩
  simp only [show ((k.toNat - 1 : Nat) : Int) + 1 = k by omega] at this
  exact this (by rw [← ho]; exact hI.1.symm) hI
theorem no_oc {oc : Int} (ho : v % 128 = oc) (hd : ∀ k : Fin 75, ocV ((k.val : Int) + 1) ≠ oc) : opW v = 0 := zz1 ho fun k e => absurd e (hd k)
theorem Zb9 {oc f3 : Int} (ho : v % 128 = oc) (h3 : v / 4096 % 8 = f3) (hd : ∀ k : Fin 75, ocV ((k.val : Int) + 1) = oc → 1 ≤ kdV ((k.val : Int) + 1) ∧ kdV ((k.val : Int) + 1) ≤ 5 ∧ f3V ((k.val : Int) + 1) ≠ f3) : opW v = 0 :=
  zz1 ho fun k e hI => (hd k e).2.2 ((hI.nrm.n2 (hd k e).1 (hd k e).2.1).symm.trans h3)
theorem zX1 {oc f3 f7 : Int} (ho : v % 128 = oc) (h3 : v / 4096 % 8 = f3) (h7 : v / 33554432 = f7)
    (hd : ∀ k : Fin 75, ocV ((k.val : Int) + 1) = oc → 1 ≤ kdV ((k.val : Int) + 1) ∧ kdV ((k.val : Int) + 1) ≤ 5 ∧ (f3V ((k.val : Int) + 1) ≠ f3 ∨ (kdV ((k.val : Int) + 1) = 2 ∧ agV ((k.val : Int) + 1) ≠ f7))) : opW v = 0 :=
  zz1 ho fun k e hI => (hd k e).2.2.elim (fun h => h ((hI.nrm.n2 (hd k e).1 (hd k e).2.1).symm.trans h3)) (fun h => h.2 ((hI.nrm.n3 h.1).symm.trans h7))
theorem Zg1 {oc f7 : Int} (ho : v % 128 = oc) (h7 : v / 33554432 = f7) (n0 : f7 ≠ 0) (n32 : f7 ≠ 32) {f3 : Int} (h3 : v / 4096 % 8 = f3)
    (hd : ∀ k : Fin 75, ocV ((k.val : Int) + 1) = oc → 1 ≤ kdV ((k.val : Int) + 1) ∧ kdV ((k.val : Int) + 1) ≤ 5 ∧ (f3V ((k.val : Int) + 1) ≠ f3 ∨ (kdV ((k.val : Int) + 1) = 2 ∧ (agV ((k.val : Int) + 1) = 0 ∨ agV ((k.val : Int) + 1) = 32)))) : opW v = 0 :=
  zz1 ho fun k e hI => (hd k e).2.2.elim (fun h => h ((hI.nrm.n2 (hd k e).1 (hd k e).2.1).symm.trans h3)) (fun h => by have := hI.nrm.n3 h.1; omega)
theorem no_f6 {oc f3 f6 : Int} (ho : v % 128 = oc) (h3 : v / 4096 % 8 = f3) (h7 : v / 33554432 / 2 = f6)
    (hd : ∀ k : Fin 75, ocV ((k.val : Int) + 1) = oc → 1 ≤ kdV ((k.val : Int) + 1) ∧ kdV ((k.val : Int) + 1) ≤ 5 ∧ (f3V ((k.val : Int) + 1) ≠ f3 ∨ (kdV ((k.val : Int) + 1) = 3 ∧ agV ((k.val : Int) + 1) ≠ f6))) : opW v = 0 :=
  zz1 ho fun k e hI => (hd k e).2.2.elim (fun h => h ((hI.nrm.n2 (hd k e).1 (hd k e).2.1).symm.trans h3)) (fun h => h.2 ((hI.nrm.n4 h.1).symm.trans h7))
theorem no_f6x {oc f6 : Int} (ho : v % 128 = oc) (h7 : v / 33554432 / 2 = f6) (n0 : f6 ≠ 0) (n16 : f6 ≠ 16) {f3 : Int} (h3 : v / 4096 % 8 = f3)
    (hd : ∀ k : Fin 75, ocV ((k.val : Int) + 1) = oc → 1 ≤ kdV ((k.val : Int) + 1) ∧ kdV ((k.val : Int) + 1) ≤ 5 ∧ (f3V ((k.val : Int) + 1) ≠ f3 ∨ (kdV ((k.val : Int) + 1) = 3 ∧ (agV ((k.val : Int) + 1) = 0 ∨ agV ((k.val : Int) + 1) = 16)))) : opW v = 0 :=
  zz1 ho fun k e hI => (hd k e).2.2.elim (fun h => h ((hI.nrm.n2 (hd k e).1 (hd k e).2.1).symm.trans h3)) (fun h => by have := hI.nrm.n4 h.1; omega)
theorem no_f5 {oc f3 f5 : Int} (ho : v % 128 = oc) (h3 : v / 4096 % 8 = f3) (h7 : v / 134217728 = f5)
    (hd : ∀ k : Fin 75, ocV ((k.val : Int) + 1) = oc → 1 ≤ kdV ((k.val : Int) + 1) ∧ kdV ((k.val : Int) + 1) ≤ 5 ∧ (f3V ((k.val : Int) + 1) ≠ f3 ∨ (kdV ((k.val : Int) + 1) = 5 ∧ agV ((k.val : Int) + 1) ≠ f5) ∨ (kdV ((k.val : Int) + 1) = 4 ∧ 2 ≠ f5))) : opW v = 0 :=
  zz1 ho fun k e hI => (hd k e).2.2.elim (fun h => h ((hI.nrm.n2 (hd k e).1 (hd k e).2.1).symm.trans h3))
    (fun h => h.elim (fun h => h.2 ((hI.nrm.n5 h.1).symm.trans h7)) (fun h => h.2 ((hI.nrm.n6 h.1).symm.trans h7)))
end
theorem zl5 {f : Int} (h : 0 ≤ f ∧ f < 8) : f = 0 ∨ f = 1 ∨ f = 2 ∨ f = 3 ∨ f = 4 ∨ f = 5 ∨ f = 6 ∨ f = 7 := by omega
theorem f3_lt (v : Int) : 0 ≤ v / 4096 % 8 ∧ v / 4096 % 8 < 8 := by omega
theorem opW_jalr {v f : Int} (ho : v % 128 = 103) (h3 : v / 4096 % 8 = f) (hf : 0 ≤ f ∧ f < 8) : opW v = l8 jalrL f := by
  rcases zl5 hf with rfl | rfl | rfl | rfl | rfl | rfl | rfl | rfl
  all_goals first
    | exact zg2 (by decide) (yes1 (ho.trans (by decide)) (by decide) (h3.trans (by decide)))
    | exact Zb9 ho h3 (by decide)
theorem zW1 {v f : Int} (ho : v % 128 = 99) (h3 : v / 4096 % 8 = f) (hf : 0 ≤ f ∧ f < 8) : opW v = l8 zB5 f := by
  rcases zl5 hf with rfl | rfl | rfl | rfl | rfl | rfl | rfl | rfl
  all_goals first
    | exact zg2 (by decide) (yes1 (ho.trans (by decide)) (by decide) (h3.trans (by decide)))
    | exact Zb9 ho h3 (by decide)
theorem opW_load {v f : Int} (ho : v % 128 = 3) (h3 : v / 4096 % 8 = f) (hf : 0 ≤ f ∧ f < 8) : opW v = l8 loadL f := by
  rcases zl5 hf with rfl | rfl | rfl | rfl | rfl | rfl | rfl | rfl
  all_goals first
    | exact zg2 (by decide) (yes1 (ho.trans (by decide)) (by decide) (h3.trans (by decide)))
    | exact Zb9 ho h3 (by decide)
theorem Zj9 {v f : Int} (ho : v % 128 = 35) (h3 : v / 4096 % 8 = f) (hf : 0 ≤ f ∧ f < 8) : opW v = l8 zR4 f := by
  rcases zl5 hf with rfl | rfl | rfl | rfl | rfl | rfl | rfl | rfl
  all_goals first
    | exact zg2 (by decide) (yes1 (ho.trans (by decide)) (by decide) (h3.trans (by decide)))
    | exact Zb9 ho h3 (by decide)
theorem Zk7 {v f : Int} (ho : v % 128 = 51) (h3 : v / 4096 % 8 = f) (hf : 0 ≤ f ∧ f < 8) (h7 : v / 33554432 = 0) : opW v = l8 Zl5 f := by
  rcases zl5 hf with rfl | rfl | rfl | rfl | rfl | rfl | rfl | rfl
  all_goals first
    | exact zg2 (by decide) (yes2 (ho.trans (by decide)) (by decide) (h3.trans (by decide)) (h7.trans (by decide)))
    | exact zX1 ho h3 h7 (by decide)
theorem Za1 {v f : Int} (ho : v % 128 = 51) (h3 : v / 4096 % 8 = f) (hf : 0 ≤ f ∧ f < 8) (h7 : v / 33554432 = 32) : opW v = l8 zJ9 f := by
  rcases zl5 hf with rfl | rfl | rfl | rfl | rfl | rfl | rfl | rfl
  all_goals first
    | exact zg2 (by decide) (yes2 (ho.trans (by decide)) (by decide) (h3.trans (by decide)) (h7.trans (by decide)))
    | exact zX1 ho h3 h7 (by decide)
theorem Zl0 {v f7 : Int} (ho : v % 128 = 51) (h7 : v / 33554432 = f7) (n0 : f7 ≠ 0) (n32 : f7 ≠ 32) : opW v = 0 := by
  obtain ⟨f, hh⟩ : ∃ f, v / 4096 % 8 = f := ⟨_, rfl⟩
  have hf := f3_lt v
  rw [hh] at hf
  rcases zl5 hf with rfl | rfl | rfl | rfl | rfl | rfl | rfl | rfl
  all_goals exact Zg1 ho h7 n0 n32 hh (by decide)
theorem zY0 {v f : Int} (ho : v % 128 = 59) (h3 : v / 4096 % 8 = f) (hf : 0 ≤ f ∧ f < 8) (h7 : v / 33554432 = 0) : opW v = l8 zJ1 f := by
  rcases zl5 hf with rfl | rfl | rfl | rfl | rfl | rfl | rfl | rfl
  all_goals first
    | exact zg2 (by decide) (yes2 (ho.trans (by decide)) (by decide) (h3.trans (by decide)) (h7.trans (by decide)))
    | exact zX1 ho h3 h7 (by decide)
theorem zN7 {v f : Int} (ho : v % 128 = 59) (h3 : v / 4096 % 8 = f) (hf : 0 ≤ f ∧ f < 8) (h7 : v / 33554432 = 32) : opW v = l8 zw6 f := by
  rcases zl5 hf with rfl | rfl | rfl | rfl | rfl | rfl | rfl | rfl
  all_goals first
    | exact zg2 (by decide) (yes2 (ho.trans (by decide)) (by decide) (h3.trans (by decide)) (h7.trans (by decide)))
    | exact zX1 ho h3 h7 (by decide)
theorem zY1 {v f7 : Int} (ho : v % 128 = 59) (h7 : v / 33554432 = f7) (n0 : f7 ≠ 0) (n32 : f7 ≠ 32) : opW v = 0 := by
  obtain ⟨f, hh⟩ : ∃ f, v / 4096 % 8 = f := ⟨_, rfl⟩
  have hf := f3_lt v
  rw [hh] at hf
  rcases zl5 hf with rfl | rfl | rfl | rfl | rfl | rfl | rfl | rfl
  all_goals exact Zg1 ho h7 n0 n32 hh (by decide)
theorem opW_num {v f : Int} (ho : v % 128 = 19) (h3 : v / 4096 % 8 = f) (hf : 0 ≤ f ∧ f < 8) (hn : l8 numL f ≠ 0) : opW v = l8 numL f := by
  rcases zl5 hf with rfl | rfl | rfl | rfl | rfl | rfl | rfl | rfl
  all_goals first
    | exact zg2 (by decide) (yes1 (ho.trans (by decide)) (by decide) (h3.trans (by decide)))
    | exact absurd rfl hn
theorem opW_shi0 {v f : Int} (ho : v % 128 = 19) (h3 : v / 4096 % 8 = f) (hf : 0 ≤ f ∧ f < 8) (hn : l8 numL f = 0) (h7 : v / 33554432 / 2 = 0) : opW v = l8 shiL f := by
  rcases zl5 hf with rfl | rfl | rfl | rfl | rfl | rfl | rfl | rfl
  all_goals first
    | exact zg2 (by decide) (yes3 (ho.trans (by decide)) (by decide) (h3.trans (by decide)) (h7.trans (by decide)))
    | exact absurd hn (by decide)
theorem Zl6 {v f : Int} (ho : v % 128 = 19) (h3 : v / 4096 % 8 = f) (hf : 0 ≤ f ∧ f < 8) (hn : l8 numL f = 0) (h7 : v / 33554432 / 2 = 16) : opW v = l8 Zd0 f := by
  rcases zl5 hf with rfl | rfl | rfl | rfl | rfl | rfl | rfl | rfl
  all_goals first
    | exact zg2 (by decide) (yes3 (ho.trans (by decide)) (by decide) (h3.trans (by decide)) (h7.trans (by decide)))
    | exact absurd hn (by decide)
    | exact no_f6 ho h3 h7 (by decide)
theorem opW_shix {v f f6 : Int} (ho : v % 128 = 19) (h3 : v / 4096 % 8 = f) (hf : 0 ≤ f ∧ f < 8) (hn : l8 numL f = 0) (h7 : v / 33554432 / 2 = f6) (n0 : f6 ≠ 0) (n16 : f6 ≠ 16) : opW v = 0 := by
  rcases zl5 hf with rfl | rfl | rfl | rfl | rfl | rfl | rfl | rfl
  all_goals first
    | exact absurd hn (by decide)
    | exact no_f6x ho h7 n0 n16 h3 (by decide)
theorem opW_numw {v f : Int} (ho : v % 128 = 27) (h3 : v / 4096 % 8 = f) (hf : 0 ≤ f ∧ f < 8) (hn : l8 zx9 f ≠ 0) : opW v = l8 zx9 f := by
  rcases zl5 hf with rfl | rfl | rfl | rfl | rfl | rfl | rfl | rfl
  all_goals first
    | exact zg2 (by decide) (yes1 (ho.trans (by decide)) (by decide) (h3.trans (by decide)))
    | exact absurd rfl hn
theorem Zc3 {v f : Int} (ho : v % 128 = 27) (h3 : v / 4096 % 8 = f) (hf : 0 ≤ f ∧ f < 8) (hn : l8 zx9 f = 0) (h7 : v / 33554432 = 0) : opW v = l8 Zm6 f := by
  rcases zl5 hf with rfl | rfl | rfl | rfl | rfl | rfl | rfl | rfl
  all_goals first
    | exact zg2 (by decide) (yes2 (ho.trans (by decide)) (by decide) (h3.trans (by decide)) (h7.trans (by decide)))
    | exact absurd hn (by decide)
    | exact zX1 ho h3 h7 (by decide)
theorem zX5 {v f : Int} (ho : v % 128 = 27) (h3 : v / 4096 % 8 = f) (hf : 0 ≤ f ∧ f < 8) (hn : l8 zx9 f = 0) (h7 : v / 33554432 = 32) : opW v = l8 zH4 f := by
  rcases zl5 hf with rfl | rfl | rfl | rfl | rfl | rfl | rfl | rfl
  all_goals first
    | exact zg2 (by decide) (yes2 (ho.trans (by decide)) (by decide) (h3.trans (by decide)) (h7.trans (by decide)))
    | exact absurd hn (by decide)
    | exact zX1 ho h3 h7 (by decide)
theorem Ze2 {v f f7 : Int} (ho : v % 128 = 27) (h3 : v / 4096 % 8 = f) (hf : 0 ≤ f ∧ f < 8) (hn : l8 zx9 f = 0) (h7 : v / 33554432 = f7) (n0 : f7 ≠ 0) (n32 : f7 ≠ 32) : opW v = 0 := by
  rcases zl5 hf with rfl | rfl | rfl | rfl | rfl | rfl | rfl | rfl
  all_goals first
    | exact absurd hn (by decide)
    | exact Zg1 ho h7 n0 n32 h3 (by decide)
theorem Zl7 {v f : Int} (ho : v % 128 = 15) (h3 : v / 4096 % 8 = f) (hf : 0 ≤ f ∧ f < 8) (h7 : v / 1048576 ≠ 2099 ∨ f ≠ 0) : opW v = l8 zA0 f := by
  by_cases h0 : f = 0
  · subst h0
    exact zg2 (by decide) (yes6 (ho.trans (by decide)) (by decide) h3 (h7.resolve_right (fun h => h rfl)))
  · have e : l8 zA0 f = 0 := by
      rcases zl5 hf with rfl | rfl | rfl | rfl | rfl | rfl | rfl | rfl
      · exact absurd rfl h0
      all_goals rfl
    rw [e]
    refine zz1 ho fun k e hI => ?_
    have hk : kdV ((k.val : Int) + 1) = 6 ∨ kdV ((k.val : Int) + 1) = 7 := by
      have : ∀ k : Fin 75, ocV ((k.val : Int) + 1) = 15 → kdV ((k.val : Int) + 1) = 6 ∨ kdV ((k.val : Int) + 1) = 7 := by decide
      exact this k e
    obtain ⟨_, h2⟩ := hI
    rcases h2 with h | ⟨h, _⟩ | ⟨h, _⟩ | ⟨h, _⟩ | ⟨h, _⟩ | ⟨h, _⟩ | ⟨h, h4, _⟩ | ⟨h, h4, _⟩ | ⟨h, _⟩ | ⟨h, _⟩
    all_goals omega
theorem opW_tso {v : Int} (ho : v % 128 = 15) (h3 : v / 4096 % 8 = 0) (h7 : v / 1048576 = 2099) : opW v = 51 :=
  zg2 (by decide) (yes7 (ho.trans (by decide)) (by decide) h3 h7)
theorem opW_halt {v : Int} (ho : v % 128 = 115) (h1 : v ≠ 115) (h2 : v ≠ 1048691) : opW v = 0 := by
  refine zz1 ho fun k e hI => ?_
  have hk : kdV ((k.val : Int) + 1) = 8 ∨ kdV ((k.val : Int) + 1) = 9 := by
    have : ∀ k : Fin 75, ocV ((k.val : Int) + 1) = 115 → kdV ((k.val : Int) + 1) = 8 ∨ kdV ((k.val : Int) + 1) = 9 := by decide
    exact this k e
  rcases hk with hk | hk
  · exact h1 (hI.nrm.n9 hk)
  · exact h2 (hI.nrm.na hk)
theorem opW_call : opW 115 = 52 := zg2 (by decide) (yes8 (by decide) (by decide) rfl)
theorem opW_brk : opW 1048691 = 53 := zg2 (by decide) (yes9 (by decide) (by decide) rfl)
theorem Zj8 {f : Int} (h : 0 ≤ f ∧ f < 32) : f = 0 ∨ f = 1 ∨ f = 2 ∨ f = 3 ∨ f = 4 ∨ f = 5 ∨ f = 6 ∨ f = 7 ∨ f = 8 ∨ f = 9 ∨ f = 10 ∨ f = 11 ∨ f = 12 ∨ f = 13 ∨ f = 14 ∨ f = 15 ∨ f = 16 ∨ f = 17 ∨ f = 18 ∨ f = 19 ∨ f = 20 ∨ f = 21 ∨ f = 22 ∨ f = 23 ∨ f = 24 ∨ f = 25 ∨ f = 26 ∨ f = 27 ∨ f = 28 ∨ f = 29 ∨ f = 30 ∨ f = 31 := by omega
theorem opW_atw {v f : Int} (ho : v % 128 = 47) (h3 : v / 4096 % 8 = 2) (h5 : v / 134217728 = f) (hf : 0 ≤ f ∧ f < 32) (hr : f ≠ 2) : opW v = l8 atwL f := by
  rcases Zj8 hf with rfl | rfl | rfl | rfl | rfl | rfl | rfl | rfl | rfl | rfl | rfl | rfl | rfl | rfl | rfl | rfl | rfl | rfl | rfl | rfl | rfl | rfl | rfl | rfl | rfl | rfl | rfl | rfl | rfl | rfl | rfl | rfl
  all_goals first
    | exact zg2 (by decide) (yes5 (ho.trans (by decide)) (by decide) (h3.trans (by decide)) (h5.trans (by decide)))
    | exact no_f5 ho h3 h5 (by decide)
    | exact absurd rfl hr
theorem opW_atd {v f : Int} (ho : v % 128 = 47) (h3 : v / 4096 % 8 = 3) (h5 : v / 134217728 = f) (hf : 0 ≤ f ∧ f < 32) (hr : f ≠ 2) : opW v = l8 atdL f := by
  rcases Zj8 hf with rfl | rfl | rfl | rfl | rfl | rfl | rfl | rfl | rfl | rfl | rfl | rfl | rfl | rfl | rfl | rfl | rfl | rfl | rfl | rfl | rfl | rfl | rfl | rfl | rfl | rfl | rfl | rfl | rfl | rfl | rfl | rfl
  all_goals first
    | exact zg2 (by decide) (yes5 (ho.trans (by decide)) (by decide) (h3.trans (by decide)) (h5.trans (by decide)))
    | exact no_f5 ho h3 h5 (by decide)
    | exact absurd rfl hr
theorem opW_lr {v : Int} (ho : v % 128 = 47) (h5 : v / 134217728 = 2) (hr : v / 1048576 % 32 = 0) : (v / 4096 % 8 = 2 → opW v = 54) ∧ (v / 4096 % 8 = 3 → opW v = 55) :=
  ⟨fun h3 => zg2 (by decide) (yes4 (ho.trans (by decide)) (by decide) (h3.trans (by decide)) h5 hr), fun h3 => zg2 (by decide) (yes4 (ho.trans (by decide)) (by decide) (h3.trans (by decide)) h5 hr)⟩
theorem Ze5 {v : Int} (ho : v % 128 = 47) (h5 : v / 134217728 = 2) (hr : v / 1048576 % 32 ≠ 0) : opW v = 0 := by
  refine zz1 ho fun k e hI => ?_
  have hk : kdV ((k.val : Int) + 1) = 4 ∨ (kdV ((k.val : Int) + 1) = 5 ∧ agV ((k.val : Int) + 1) ≠ 2) := by
    have : ∀ k : Fin 75, ocV ((k.val : Int) + 1) = 47 → kdV ((k.val : Int) + 1) = 4 ∨ (kdV ((k.val : Int) + 1) = 5 ∧ agV ((k.val : Int) + 1) ≠ 2) := by decide
    exact this k e
  obtain ⟨_, h2⟩ := hI
  rcases h2 with h | ⟨h, _⟩ | ⟨h, _⟩ | ⟨h, _⟩ | ⟨h, _, _, h4⟩ | ⟨h, _, h4⟩ | ⟨h, h4, _⟩ | ⟨h, h4, _⟩ | ⟨h, _⟩ | ⟨h, _⟩
  all_goals omega
theorem opW_atx {v f : Int} (ho : v % 128 = 47) (h3 : v / 4096 % 8 = f) (hf : 0 ≤ f ∧ f < 8) (n2 : f ≠ 2) (n3 : f ≠ 3) : opW v = 0 := by
  rcases zl5 hf with rfl | rfl | rfl | rfl | rfl | rfl | rfl | rfl
  all_goals first
    | exact Zb9 ho h3 (by decide)
    | exact absurd rfl n2
    | exact absurd rfl n3
theorem Zh9 {v : Int} : (v % 128 = 55 → opW v = 1) ∧ (v % 128 = 23 → opW v = 2) ∧ (v % 128 = 111 → opW v = 3) :=
  ⟨fun h => zg2 (by decide) (yes0 (h.trans (by decide)) (by decide)), fun h => zg2 (by decide) (yes0 (h.trans (by decide)) (by decide)), fun h => zg2 (by decide) (yes0 (h.trans (by decide)) (by decide))⟩
def ocs : List Int := [3, 15, 19, 23, 27, 35, 47, 51, 55, 59, 99, 103, 111, 115]
theorem opW_noc {v : Int} (h : v % 128 ∉ ocs) : opW v = 0 := by
  refine no_oc rfl fun k e => h ?_
  have : ∀ k : Fin 75, ocV ((k.val : Int) + 1) ∈ ocs := by decide
  rw [← e]; exact this k
end Go.Proofs.YtmamblgpekafbaaGreatDoor
