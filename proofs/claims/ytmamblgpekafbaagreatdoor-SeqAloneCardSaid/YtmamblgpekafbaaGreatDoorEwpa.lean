/- Of stage 11. -/
import Derived.Test.YtmamblgpekafbaaGreatDoorDqpa
import Derived.LoopTactic
set_option maxRecDepth 100000
namespace Go.Proofs.YtmamblgpekafbaaGreatDoor
open Go.RowKit
def orI (a b : Int) : Int := ((a.toNat ||| b.toNat : Nat) : Int)
theorem zO9 (a b : Nat) : orI (a : Int) (b : Int) = ((a ||| b : Nat) : Int) := rfl
theorem zf5 {a : Int} (h : 0 ≤ a) : orI a 0 = a := by
  obtain ⟨A, rfl⟩ := Int.eq_ofNat_of_zero_le h
  show ((A ||| 0 : Nat) : Int) = A
  rw [Nat.or_zero]
theorem zh8 {a : Int} (h : 0 ≤ a) : orI 0 a = a := by
  obtain ⟨A, rfl⟩ := Int.eq_ofNat_of_zero_le h
  show ((0 ||| A : Nat) : Int) = A
  rw [Nat.zero_or]
theorem zD2 (a b : Int) : orI a b = orI b a := by unfold orI; rw [Nat.or_comm]
theorem zq2 (a b : Int) : 0 ≤ orI a b := Int.natCast_nonneg _
theorem zz8 {a b : Int} (k : Nat) (ha : a < 2 ^ k) (hb : b < 2 ^ k) : orI a b < 2 ^ k := by
  have h2 : (0 : Int) < 2 ^ k := Int.pow_pos (by decide)
  have ha' : a.toNat < 2 ^ k := by have := (Int.toNat_lt' (n := 2 ^ k) (m := a) (by have := Nat.pow_pos (n := k) (show 0 < 2 by decide); omega)).2 (by simpa using ha); exact this
  have hb' : b.toNat < 2 ^ k := by have := (Int.toNat_lt' (n := 2 ^ k) (m := b) (by have := Nat.pow_pos (n := k) (show 0 < 2 by decide); omega)).2 (by simpa using hb); exact this
  have := Nat.or_lt_two_pow ha' hb'
  unfold orI
  exact_mod_cast this
theorem zq8 {a b c : Int} : orI (orI a b) c = orI a (orI b c) := by unfold orI; simp only [Int.toNat_natCast]; rw [Nat.or_assoc]
theorem zn3 (k : Nat) {a b c d : Int} (a0 : 0 ≤ a) (a1 : a < 2 ^ k) (b0 : 0 ≤ b) (c0 : 0 ≤ c) (c1 : c < 2 ^ k) (d0 : 0 ≤ d) : orI (a + b * 2 ^ k) (c + d * 2 ^ k) = orI a c + orI b d * 2 ^ k := by
  obtain ⟨A, rfl⟩ := Int.eq_ofNat_of_zero_le a0
  obtain ⟨B, rfl⟩ := Int.eq_ofNat_of_zero_le b0
  obtain ⟨C, rfl⟩ := Int.eq_ofNat_of_zero_le c0
  obtain ⟨D, rfl⟩ := Int.eq_ofNat_of_zero_le d0
  have hA : A < 2 ^ k := by exact_mod_cast a1
  have hC : C < 2 ^ k := by exact_mod_cast c1
  have e1 : (A : Int) + B * 2 ^ k = ((2 ^ k * B + A : Nat) : Int) := by push_cast; rw [Int.mul_comm, Int.add_comm]
  have e2 : (C : Int) + D * 2 ^ k = ((2 ^ k * D + C : Nat) : Int) := by push_cast; rw [Int.mul_comm, Int.add_comm]
  rw [e1, e2, zO9, zO9, zO9, Nat.two_pow_add_eq_or_of_lt hA, Nat.two_pow_add_eq_or_of_lt hC]
  have e3 : (2 ^ k * B ||| A) ||| (2 ^ k * D ||| C) = 2 ^ k * (B ||| D) + (A ||| C) := by
    rw [Nat.two_pow_add_eq_or_of_lt (Nat.or_lt_two_pow hA hC), show 2 ^ k * (B ||| D) = (2 ^ k * B ||| 2 ^ k * D) by
      rw [Nat.mul_comm, ← Nat.shiftLeft_eq, Nat.shiftLeft_or_distrib, Nat.shiftLeft_eq, Nat.shiftLeft_eq, Nat.mul_comm B, Nat.mul_comm D]]
    rw [Nat.or_assoc, Nat.or_assoc, ← Nat.or_assoc A, Nat.or_comm A (2 ^ k * D), Nat.or_assoc]
  rw [e3]
  push_cast
  rw [Int.add_comm, Int.mul_comm]
theorem zi7 (k : Nat) {a d : Int} (a0 : 0 ≤ a) (a1 : a < 2 ^ k) (d0 : 0 ≤ d) : orI a (d * 2 ^ k) = a + d * 2 ^ k := by
  have h := zn3 k a0 a1 (Int.le_refl 0) (Int.le_refl 0) (Int.pow_pos (by decide)) d0
  rw [Int.zero_mul, Int.add_zero, Int.zero_add, zf5 a0, zh8 d0] at h
  exact h
def mk5 (a0 a1 a2 a3 a4 : Int) : Int := a0 + a1 * 128 + a2 * 4096 + a3 * 32768 + a4 * 1048576
structure In5 (a0 a1 a2 a3 a4 : Int) : Prop where
  h0 : 0 ≤ a0 ∧ a0 < 128
  h1 : 0 ≤ a1 ∧ a1 < 32
  h2 : 0 ≤ a2 ∧ a2 < 8
  h3 : 0 ≤ a3 ∧ a3 < 32
  h4 : 0 ≤ a4 ∧ a4 < 4096
theorem In5.or {a0 a1 a2 a3 a4 b0 b1 b2 b3 b4 : Int} (ha : In5 a0 a1 a2 a3 a4) (hb : In5 b0 b1 b2 b3 b4) : In5 (orI a0 b0) (orI a1 b1) (orI a2 b2) (orI a3 b3) (orI a4 b4) :=
  ⟨⟨zq2 _ _, zz8 7 ha.h0.2 hb.h0.2⟩, ⟨zq2 _ _, zz8 5 ha.h1.2 hb.h1.2⟩, ⟨zq2 _ _, zz8 3 ha.h2.2 hb.h2.2⟩, ⟨zq2 _ _, zz8 5 ha.h3.2 hb.h3.2⟩, ⟨zq2 _ _, zz8 12 ha.h4.2 hb.h4.2⟩⟩
theorem or5 {a0 a1 a2 a3 a4 b0 b1 b2 b3 b4 : Int} (ha : In5 a0 a1 a2 a3 a4) (hb : In5 b0 b1 b2 b3 b4) : orI (mk5 a0 a1 a2 a3 a4) (mk5 b0 b1 b2 b3 b4) = mk5 (orI a0 b0) (orI a1 b1) (orI a2 b2) (orI a3 b3) (orI a4 b4) := by
  have e : ∀ x0 x1 x2 x3 x4 : Int, mk5 x0 x1 x2 x3 x4 = x0 + (x1 + (x2 + (x3 + x4 * 2 ^ 5) * 2 ^ 3) * 2 ^ 5) * 2 ^ 7 := by intro x0 x1 x2 x3 x4; unfold mk5; omega
  obtain ⟨p0, p1, p2, p3, p4⟩ := ha
  obtain ⟨q0, q1, q2, q3, q4⟩ := hb
  rw [e, e, zn3 7 (by omega) (by omega) (by omega) (by omega) (by omega) (by omega), zn3 5 (by omega) (by omega) (by omega) (by omega) (by omega) (by omega),
    zn3 3 (by omega) (by omega) (by omega) (by omega) (by omega) (by omega), zn3 5 (by omega) (by omega) (by omega) (by omega) (by omega) (by omega), e]
theorem mk_0 (a : Int) : a = mk5 a 0 0 0 0 := by unfold mk5; omega
theorem mk_1 (a : Int) : a * 128 = mk5 0 a 0 0 0 := by unfold mk5; omega
theorem mk_2 (a : Int) : a * 4096 = mk5 0 0 a 0 0 := by unfold mk5; omega
theorem mk_3 (a : Int) : a * 32768 = mk5 0 0 0 a 0 := by unfold mk5; omega
theorem mk_4 (a : Int) : a * 1048576 = mk5 0 0 0 0 a := by unfold mk5; omega
theorem mk_4p (a : Int) : a * 16777216 = mk5 0 0 0 0 (a * 16) := by unfold mk5; omega
theorem mk_4l (a : Int) : a * 33554432 = mk5 0 0 0 0 (a * 32) := by unfold mk5; omega
theorem mk_4a (a : Int) : a * 67108864 = mk5 0 0 0 0 (a * 64) := by unfold mk5; omega
def zo9 (l : List Int) : Int := l.foldl orI 0
theorem zA5 (l : List Int) (x : Int) : zo9 (l ++ [x]) = orI (zo9 l) x := by unfold zo9; rw [List.foldl_append]; rfl
def upJ (r2 u p s pr l a : Int) : Int := orI (orI (orI (orI (orI (orI r2 u) p) s) (pr * 16)) (l * 32)) (a * 64)
theorem zZ2 {a0 rd t r1 r2 u p1 p2 p3 p4 s pr l a : Int} (h0 : 0 ≤ a0 ∧ a0 < 128) (hd : 0 ≤ rd ∧ rd < 32) (ht : 0 ≤ t ∧ t < 8) (h1 : 0 ≤ r1 ∧ r1 < 32) (h2 : 0 ≤ r2 ∧ r2 < 32) (hu : 0 ≤ u ∧ u < 4096)
    (q1 : 0 ≤ p1 ∧ p1 < 32) (q2 : 0 ≤ p2 ∧ p2 < 8) (q3 : 0 ≤ p3 ∧ p3 < 32) (q4 : 0 ≤ p4 ∧ p4 < 4096) (hs : 0 ≤ s ∧ s < 16) (hp : 0 ≤ pr ∧ pr < 16) (hl : 0 ≤ l ∧ l < 2) (ha : 0 ≤ a ∧ a < 2) :
    zo9 [a0, rd * 128, t * 4096, r1 * 32768, r2 * 1048576, u * 1048576, mk5 0 p1 p2 p3 p4, s * 1048576, pr * 16777216, l * 33554432, a * 67108864] = mk5 a0 (orI rd p1) (orI t p2) (orI r1 p3) (upJ r2 u p4 s pr l a) := by
  have z : (0 : Int) ≤ 0 ∧ (0 : Int) < 128 := ⟨by omega, by omega⟩
  have z5 : (0 : Int) ≤ 0 ∧ (0 : Int) < 32 := ⟨by omega, by omega⟩
  have z3 : (0 : Int) ≤ 0 ∧ (0 : Int) < 8 := ⟨by omega, by omega⟩
  have zc : (0 : Int) ≤ 0 ∧ (0 : Int) < 4096 := ⟨by omega, by omega⟩
  have i0 : In5 0 0 0 0 0 := ⟨z, z5, z3, z5, zc⟩
  have j0 : In5 a0 0 0 0 0 := ⟨h0, z5, z3, z5, zc⟩
  have j1 : In5 0 rd 0 0 0 := ⟨z, hd, z3, z5, zc⟩
  have j2 : In5 0 0 t 0 0 := ⟨z, z5, ht, z5, zc⟩
  have j3 : In5 0 0 0 r1 0 := ⟨z, z5, z3, h1, zc⟩
  have j4 : In5 0 0 0 0 r2 := ⟨z, z5, z3, z5, by omega⟩
  have j5 : In5 0 0 0 0 u := ⟨z, z5, z3, z5, hu⟩
  have j6 : In5 0 p1 p2 p3 p4 := ⟨z, q1, q2, q3, q4⟩
  have j7 : In5 0 0 0 0 s := ⟨z, z5, z3, z5, by omega⟩
  have j8 : In5 0 0 0 0 (pr * 16) := ⟨z, z5, z3, z5, by omega⟩
  have j9 : In5 0 0 0 0 (l * 32) := ⟨z, z5, z3, z5, by omega⟩
  have j10 : In5 0 0 0 0 (a * 64) := ⟨z, z5, z3, z5, by omega⟩
  have k1 := i0.or j0
  have k2 := k1.or j1
  have k3 := k2.or j2
  have k4 := k3.or j3
  have k5 := k4.or j4
  have k6 := k5.or j5
  have k7 := k6.or j6
  have k8 := k7.or j7
  have k9 := k8.or j8
  have k10 := k9.or j9
  have st : zo9 [a0, rd * 128, t * 4096, r1 * 32768, r2 * 1048576, u * 1048576, mk5 0 p1 p2 p3 p4, s * 1048576, pr * 16777216, l * 33554432, a * 67108864] =
      orI (orI (orI (orI (orI (orI (orI (orI (orI (orI (orI (mk5 0 0 0 0 0) (mk5 a0 0 0 0 0)) (mk5 0 rd 0 0 0)) (mk5 0 0 t 0 0)) (mk5 0 0 0 r1 0)) (mk5 0 0 0 0 r2)) (mk5 0 0 0 0 u)) (mk5 0 p1 p2 p3 p4)) (mk5 0 0 0 0 s)) (mk5 0 0 0 0 (pr * 16))) (mk5 0 0 0 0 (l * 32))) (mk5 0 0 0 0 (a * 64)) := by
    rw [← mk_0 0, ← mk_0 a0, ← mk_1 rd, ← mk_2 t, ← mk_3 r1, ← mk_4 r2, ← mk_4 u, ← mk_4 s, ← mk_4p pr, ← mk_4l l, ← mk_4a a]; rfl
  rw [st, or5 i0 j0, or5 k1 j1, or5 k2 j2, or5 k3 j3, or5 k4 j4, or5 k5 j5, or5 k6 j6, or5 k7 j7, or5 k8 j8, or5 k9 j9, or5 k10 j10]
  have z0 : orI 0 0 = 0 := by decide
  unfold upJ
  simp only [z0, zh8 h0.1, zf5 h0.1, zh8 hd.1, zf5 hd.1, zh8 ht.1, zf5 ht.1, zh8 h1.1, zf5 h1.1, zh8 h2.1, zf5 (zq2 _ _)]
theorem zx6 {a b : Int} (ha : 0 ≤ a) (hb : 0 ≤ b) (h : a = 0 ∨ b = 0) : orI a b = a + b := by
  rcases h with rfl | rfl
  · rw [zh8 hb, Int.zero_add]
  · rw [zf5 ha, Int.add_zero]
theorem zN4 {p : Int} (hp : 0 ≤ p) : upJ 0 0 p 0 0 0 0 = p := by
  unfold upJ
  simp only [Int.zero_mul, show orI 0 0 = 0 by decide, zh8 hp, zf5 hp]
theorem upJ_u {u : Int} (hu : 0 ≤ u) : upJ 0 u 0 0 0 0 0 = u := by
  unfold upJ
  simp only [Int.zero_mul, zh8 hu, zf5 hu]
theorem upJ_s {r q : Int} (hr : 0 ≤ r ∧ r < 32) (hq : 0 ≤ q) : upJ r 0 (q * 32) 0 0 0 0 = r + q * 32 := by
  have h := zi7 5 hr.1 (by omega) hq
  rw [show (2 : Int) ^ 5 = 32 by decide] at h
  unfold upJ
  simp only [zf5 hr.1, h, Int.zero_mul, zf5 (show 0 ≤ r + q * 32 by omega)]
theorem upJ_sh {u p : Int} (hu : u = 0 ∨ u = 1024) (hp : 0 ≤ p ∧ p < 64) : upJ 0 u p 0 0 0 0 = u + p := by
  have h : orI u p = u + p := by
    rcases hu with rfl | rfl
    · rw [zh8 hp.1, Int.zero_add]
    · have := zi7 10 hp.1 (by omega) (show (0 : Int) ≤ 1 by omega)
      rw [show (1 : Int) * 2 ^ 10 = 1024 by decide] at this
      rw [zD2, this, Int.add_comm]
  have hu0 : 0 ≤ u := by omega
  unfold upJ
  simp only [zh8 hu0, h, Int.zero_mul, zf5 (show 0 ≤ u + p by omega)]
theorem upJ_r {r u : Int} (hr : 0 ≤ r ∧ r < 32) (hu : u = 0 ∨ u = 1024) : upJ r u 0 0 0 0 0 = r + u := by
  have h : orI r u = r + u := by
    rcases hu with rfl | rfl
    · rw [zf5 hr.1, Int.add_zero]
    · have := zi7 10 hr.1 (by omega) (show (0 : Int) ≤ 1 by omega)
      rw [show (1 : Int) * 2 ^ 10 = 1024 by decide] at this
      exact this
  unfold upJ
  simp only [h, Int.zero_mul, zf5 (show 0 ≤ r + u by omega)]
theorem upJ_f {s p : Int} (hs : 0 ≤ s ∧ s < 16) (hp : 0 ≤ p ∧ p < 16) : upJ 0 0 0 s p 0 0 = s + p * 16 := by
  have h := zi7 4 hs.1 (by omega) hp.1
  rw [show (2 : Int) ^ 4 = 16 by decide] at h
  unfold upJ
  simp only [show orI 0 0 = 0 by decide, zh8 hs.1, h, Int.zero_mul, zf5 (show 0 ≤ s + p * 16 by omega)]
theorem upJ_a {r g l a : Int} (hr : 0 ≤ r ∧ r < 32) (hg : 0 ≤ g) (hl : l = 0 ∨ l = 1) (ha : a = 0 ∨ a = 1) : upJ r (g * 128) 0 0 0 l a = r + g * 128 + l * 32 + a * 64 := by
  have h1 : orI r (g * 128) = r + g * 128 := by have := zi7 7 hr.1 (by omega) hg; rw [show (2 : Int) ^ 7 = 128 by decide] at this; exact this
  have h2 : orI (r + g * 128) (l * 32) = r + g * 128 + l * 32 := by
    rw [← h1, zq8, zD2 (g * 128), ← zq8, show (32 : Int) = 2 ^ 5 by decide, zi7 5 hr.1 (by omega) (by omega : 0 ≤ l), show (128 : Int) = 2 ^ 7 by decide, zi7 7 (by omega) (by omega) hg, ← show (128 : Int) = 2 ^ 7 by decide, h1]
    omega
  have h3 : orI (r + g * 128 + l * 32) (a * 64) = r + g * 128 + l * 32 + a * 64 := by
    have e : r + g * 128 + l * 32 = orI (r + l * 32) (g * 128) := by rw [show (128 : Int) = 2 ^ 7 by decide, zi7 7 (by omega) (by omega) hg]; omega
    rw [e, zq8, zD2 (g * 128), ← zq8, show (64 : Int) = 2 ^ 6 by decide, zi7 6 (by omega) (by omega) (by omega : 0 ≤ a), show (128 : Int) = 2 ^ 7 by decide, zi7 7 (by omega) (by omega) hg, zi7 7 (by omega) (by omega) hg]
    omega
  unfold upJ
  simp only [h1, h2, h3, Int.zero_mul, zf5 (show 0 ≤ r + g * 128 by omega)]
end Go.Proofs.YtmamblgpekafbaaGreatDoor
namespace Go.Proofs.YtmamblgpekafbaaGreatDoor
open Go.RowKit
structure Rgt (i : Ins) : Prop where
  op : 1 ≤ i.op ∧ i.op ≤ 75
  rd : 0 ≤ i.rd ∧ i.rd ≤ 31
  rs1 : 0 ≤ i.rs1 ∧ i.rs1 ≤ 31
  rs2 : 0 ≤ i.rs2 ∧ i.rs2 ≤ 31
  wr : wrB i.op = false → i.rd = 0
  fir : firB i.op = false → i.rs1 = 0
  sec : secB i.op = false → i.rs2 = 0
  at1 : srt i.op < 10 → i.aq = false ∧ i.rl = false
  sh6 : shV i.op = 6 → 0 ≤ i.imm ∧ i.imm ≤ 63
  sh5 : shV i.op = 5 → 0 ≤ i.imm ∧ i.imm ≤ 31
  non : shV i.op = 0 → fmV i.op = 0 → i.imm = 0
  may : 0 < fmV i.op → May (fmV i.op) i.imm
  fen : i.op = 50 → 0 ≤ i.pred ∧ i.pred < 16 ∧ 0 ≤ i.succ ∧ i.succ < 16
  tso : i.op = 51 → i.pred = 3 ∧ i.succ = 3
  oth : i.op ≠ 50 → i.op ≠ 51 → i.pred = 0 ∧ i.succ = 0
def b01 (b : Bool) : Int := if b then 1 else 0
def zd9 (i : Ins) : Int :=
  if i.op = 51 then 2200961039 else
    ocV i.op + i.rd * 128 + f3V i.op * 4096 + i.rs1 * 32768 + i.rs2 * 1048576 + (if turB i.op then 1073741824 else 0) + (if 0 < shV i.op then i.imm * 1048576 else 0) +
      (if 0 < fmV i.op then putK (fmV i.op) (i.imm % 18446744073709551616) 32 else 0) +
      (if 10 ≤ srt i.op then agV i.op * 134217728 + b01 i.aq * 67108864 + b01 i.rl * 33554432 else if i.op = 50 then i.pred * 16777216 + i.succ * 1048576 else if i.op = 53 then 1048576 else 0)
theorem zS6 : ∀ k : Fin 75, 0 ≤ ocV ((k.val : Int) + 1) ∧ ocV ((k.val : Int) + 1) ≤ 127 ∧ 0 ≤ f3V ((k.val : Int) + 1) ∧ f3V ((k.val : Int) + 1) ≤ 7 ∧ 0 ≤ agV ((k.val : Int) + 1) ∧ agV ((k.val : Int) + 1) ≤ 32 := by decide +kernel
theorem cm_0 : ∀ k : Fin 75, (clL.getD k.val 99 = 0 ∨ clL.getD k.val 99 = 1) → kdV ((k.val : Int) + 1) = 0 ∧ f3V ((k.val : Int) + 1) = 0 ∧ turB ((k.val : Int) + 1) = false := by decide +kernel
theorem cm_2 : ∀ k : Fin 75, (clL.getD k.val 99 = 2 ∨ clL.getD k.val 99 = 3 ∨ clL.getD k.val 99 = 4) → kdV ((k.val : Int) + 1) = 1 ∧ turB ((k.val : Int) + 1) = false := by decide +kernel
theorem cm_5 : ∀ k : Fin 75, (clL.getD k.val 99 = 5) → kdV ((k.val : Int) + 1) = 3 ∧ agV ((k.val : Int) + 1) ≤ 31 ∧ ((turB ((k.val : Int) + 1) = true ∧ agV ((k.val : Int) + 1) = 16) ∨ (turB ((k.val : Int) + 1) = false ∧ agV ((k.val : Int) + 1) = 0)) := by decide +kernel
theorem cm_6 : ∀ k : Fin 75, (clL.getD k.val 99 = 6 ∨ clL.getD k.val 99 = 7) → kdV ((k.val : Int) + 1) = 2 ∧ ((turB ((k.val : Int) + 1) = true ∧ agV ((k.val : Int) + 1) = 32) ∨ (turB ((k.val : Int) + 1) = false ∧ agV ((k.val : Int) + 1) = 0)) := by decide +kernel
theorem cm_8 : ∀ k : Fin 75, (clL.getD k.val 99 = 8) → kdV ((k.val : Int) + 1) = 6 ∧ f3V ((k.val : Int) + 1) = 0 ∧ ocV ((k.val : Int) + 1) = 15 ∧ turB ((k.val : Int) + 1) = false := by decide +kernel
theorem cm_9 : ∀ k : Fin 75, (clL.getD k.val 99 = 9) → kdV ((k.val : Int) + 1) = 7 := by decide +kernel
theorem cm_10 : ∀ k : Fin 75, (clL.getD k.val 99 = 10) → f3V ((k.val : Int) + 1) = 0 ∧ ocV ((k.val : Int) + 1) = 115 ∧ turB ((k.val : Int) + 1) = false ∧ ((kdV ((k.val : Int) + 1) = 8 ∧ (k.val : Int) + 1 = 52) ∨ (kdV ((k.val : Int) + 1) = 9 ∧ (k.val : Int) + 1 = 53)) := by decide +kernel
theorem cm_11 : ∀ k : Fin 75, (clL.getD k.val 99 = 11) → kdV ((k.val : Int) + 1) = 4 ∧ agV ((k.val : Int) + 1) = 2 ∧ turB ((k.val : Int) + 1) = false := by decide +kernel
theorem cm_12 : ∀ k : Fin 75, (clL.getD k.val 99 = 12) → kdV ((k.val : Int) + 1) = 5 ∧ agV ((k.val : Int) + 1) ≤ 31 ∧ turB ((k.val : Int) + 1) = false := by decide +kernel
theorem zv3 : ∀ k : Fin 75, clL.getD k.val 99 ≠ 10 → (k.val : Int) + 1 ≠ 53 := by decide +kernel
theorem flds {v a0 a1 a2 a3 a4 : Int} (h0 : 0 ≤ a0 ∧ a0 < 128) (h1 : 0 ≤ a1 ∧ a1 < 32) (h2 : 0 ≤ a2 ∧ a2 < 8) (h3 : 0 ≤ a3 ∧ a3 < 32) (h4 : 0 ≤ a4 ∧ a4 < 4096) (hv : v = a0 + a1 * 128 + a2 * 4096 + a3 * 32768 + a4 * 1048576) :
    (0 ≤ v ∧ v < 4294967296) ∧ v % 128 = a0 ∧ v / 128 % 32 = a1 ∧ v / 4096 % 8 = a2 ∧ v / 32768 % 32 = a3 ∧ v / 1048576 = a4 := by
  refine ⟨by omega, by omega, by omega, by omega, by omega, by omega⟩
theorem Zp1 (v : Int) : v = v % 128 + v / 128 % 32 * 128 + v / 4096 % 8 * 4096 + v / 32768 % 32 * 32768 + v / 1048576 * 1048576 := by omega
theorem high {v a4 : Int} (h : v / 1048576 = a4) : v / 33554432 = a4 / 32 ∧ v / 134217728 = a4 / 128 ∧ v / 67108864 % 2 = a4 / 64 % 2 ∧ v / 33554432 % 2 = a4 / 32 % 2 ∧ v / 16777216 % 16 = a4 / 16 % 16 ∧ v / 1048576 % 16 = a4 % 16 ∧ v / 1048576 % 32 = a4 % 32 ∧ v / 1048576 % 64 = a4 % 64 := by
  subst h
  refine ⟨by omega, by omega, by omega, by omega, by omega, by omega, by omega, by omega⟩
theorem zF5 {f : Nat} (h1 : 1 ≤ f) (h2 : f ≤ 5) {P R : Int} (p0 : 0 ≤ P) (p1 : P < 4294967296) (r0 : 0 ≤ R) (hP : zm2 f P = P) (hR : zv1 f R = R) : getK f (P + R) 32 = getK f P 32 := by
  have h := (Zd5 h1 h2 (w := P) (o := R) p0 p1 r0).2
  rw [hP, hR] at h
  exact h
theorem Zj1 {f : Nat} (h1 : 1 ≤ f) (h2 : f ≤ 5) (v : Int) : zm2 f v + zv1 f v = v := by
  unfold zm2 zv1
  rcases fmt5 h1 h2 with rfl | rfl | rfl | rfl | rfl
  · rw [if_pos rfl, if_pos rfl]; omega
  · rw [if_neg (by decide), if_pos (by decide), if_neg (by decide), if_pos (by decide)]; omega
  · rw [if_neg (by decide), if_pos (by decide), if_neg (by decide), if_pos (by decide)]; omega
  · rw [if_neg (by decide), if_neg (by decide), if_neg (by decide), if_neg (by decide)]; omega
  · rw [if_neg (by decide), if_neg (by decide), if_neg (by decide), if_neg (by decide)]; omega
theorem zw0 {f : Nat} (h1 : 1 ≤ f) (h2 : f ≤ 5) {x : Int} (hM : May f x) : getK f (putK f (x % 18446744073709551616) 32) 32 = x ∧ zm2 f (putK f (x % 18446744073709551616) 32) = putK f (x % 18446744073709551616) 32 ∧
    0 ≤ putK f (x % 18446744073709551616) 32 ∧ putK f (x % 18446744073709551616) 32 < 4294967296 := by
  have hr := zi1 f (x % 18446744073709551616) 32
  rw [show (2 : Int) ^ 32 = 4294967296 by decide] at hr
  have g := Zl2 h1 h2 hM
  have k := Zj1 h1 h2 (putK f (x % 18446744073709551616) 32)
  rw [g.2, Int.add_zero] at k
  exact ⟨g.1, k, hr.1, hr.2⟩
end Go.Proofs.YtmamblgpekafbaaGreatDoor
namespace Go.Proofs.YtmamblgpekafbaaGreatDoor
open Go.RowKit
def Bk (i : Ins) : Prop := (0 ≤ zd9 i ∧ zd9 i < 4294967296) ∧ Isw (zd9 i) i.op ∧ zd8 (zd9 i) i.op = i
theorem zj2 (b : Bool) : (b = true ∧ b01 b = 1) ∨ (b = false ∧ b01 b = 0) := by cases b <;> simp [b01]
theorem bk_u {op rd imm : Int} {f : Nat} (hf : f = 4 ∨ f = 5) (hM : May f imm) (hrd : 0 ≤ rd ∧ rd ≤ 31) (hoc : 0 ≤ ocV op ∧ ocV op ≤ 127)
    (k1 : wrB op = true) (k2 : firB op = false) (k3 : secB op = false) (k4 : fmV op = f) (k5 : shV op = 0) (k6 : srt op < 10) (k7 : op ≠ 50) (k8 : op ≠ 51) (k9 : op ≠ 53) (m1 : kdV op = 0) (m2 : f3V op = 0) (m3 : turB op = false) :
    Bk ⟨op, rd, 0, 0, imm, false, false, 0, 0⟩ := by
  have hf1 : 1 ≤ f ∧ f ≤ 5 := by omega
  obtain ⟨g1, g2, g3, g4⟩ := zw0 hf1.1 hf1.2 hM
  have hw : zd9 ⟨op, rd, 0, 0, imm, false, false, 0, 0⟩ = putK f (imm % 18446744073709551616) 32 + (ocV op + rd * 128) := by
    have hp : (0 : Int) < (f : Int) := by omega
    have k6' : ¬ 10 ≤ srt op := by omega
    unfold zd9
    simp only [k4, k5, m2, m3, if_neg k8, if_neg k6', if_neg k7, if_neg k9, if_pos hp]
    simp
    omega
  have g5 := zF5 hf1.1 hf1.2 (R := ocV op + rd * 128) g3 g4 (by omega) g2 (by
    unfold zv1; rcases hf with rfl | rfl
    · rw [if_neg (by decide), if_neg (by decide)]; omega
    · rw [if_neg (by decide), if_neg (by decide)]; omega)
  have hk : putK f (imm % 18446744073709551616) 32 / 4096 * 4096 = putK f (imm % 18446744073709551616) 32 := by
    unfold zm2 at g2
    rcases hf with rfl | rfl
    · rw [if_neg (by decide), if_neg (by decide)] at g2; exact g2
    · rw [if_neg (by decide), if_neg (by decide)] at g2; exact g2
  unfold Bk
  rw [hw]
  rw [g1] at g5
  simp only
  generalize putK f (imm % 18446744073709551616) 32 = P at *
  refine ⟨by omega, ?_, ?_⟩
  · unfold Isw
    refine ⟨by omega, .inl m1⟩
  · unfold zd8
    rw [k1, k2, k3, k4, k5, if_pos (show (0 : Int) < (f : Int) by omega), g5, if_neg k7, if_neg k7, if_neg k8, decide_eq_false (show ¬ 10 ≤ srt op by omega), show (P + (ocV op + rd * 128)) / 128 % 32 = rd by omega]
    rfl
theorem bk_i {op rd rs1 imm : Int} (hM : May 1 imm) (hrd : 0 ≤ rd ∧ rd ≤ 31) (hr1 : 0 ≤ rs1 ∧ rs1 ≤ 31) (hoc : 0 ≤ ocV op ∧ ocV op ≤ 127) (hf3 : 0 ≤ f3V op ∧ f3V op ≤ 7)
    (k1 : wrB op = true) (k2 : firB op = true) (k3 : secB op = false) (k4 : fmV op = 1) (k5 : shV op = 0) (k6 : srt op < 10) (k7 : op ≠ 50) (k8 : op ≠ 51) (k9 : op ≠ 53) (m1 : kdV op = 1) (m3 : turB op = false) :
    Bk ⟨op, rd, rs1, 0, imm, false, false, 0, 0⟩ := by
  obtain ⟨g1, g2, g3, g4⟩ := zw0 (f := 1) (by decide) (by decide) hM
  simp only [Int.cast_ofNat_Int] at g1 g2 g3 g4
  have k6' : ¬ 10 ≤ srt op := by omega
  have hw : zd9 ⟨op, rd, rs1, 0, imm, false, false, 0, 0⟩ = putK 1 (imm % 18446744073709551616) 32 + (ocV op + rd * 128 + f3V op * 4096 + rs1 * 32768) := by
    have hp : (0 : Int) < 1 := by omega
    unfold zd9
    simp only [k4, k5, m3, if_neg k8, if_neg k6', if_neg k7, if_neg k9, if_pos hp]
    simp
    omega
  have g5 := zF5 (f := 1) (by decide) (by decide) (R := ocV op + rd * 128 + f3V op * 4096 + rs1 * 32768) g3 g4 (by omega) g2 (by
    unfold zv1; rw [if_pos rfl]; omega)
  have hk : putK 1 (imm % 18446744073709551616) 32 / 1048576 * 1048576 = putK 1 (imm % 18446744073709551616) 32 := by
    unfold zm2 at g2; rw [if_pos rfl] at g2; exact g2
  unfold Bk
  rw [hw]
  simp only [Int.natCast_one] at g5
  rw [g1] at g5
  simp only
  obtain ⟨q, hq⟩ : ∃ q, putK 1 (imm % 18446744073709551616) 32 / 1048576 = q := ⟨_, rfl⟩
  rw [hq] at hk
  have hq0 : 0 ≤ q ∧ q < 4096 := by omega
  generalize putK 1 (imm % 18446744073709551616) 32 = P at *
  subst hk
  obtain ⟨e0, e1, e2, e3, e4, e5⟩ := flds (v := q * 1048576 + (ocV op + rd * 128 + f3V op * 4096 + rs1 * 32768)) (a0 := ocV op) (a1 := rd) (a2 := f3V op) (a3 := rs1) (a4 := q) (by omega) (by omega) (by omega) (by omega) hq0 (by omega)
  refine ⟨e0, ?_, ?_⟩
  · unfold Isw
    exact ⟨e1, .inr (.inl ⟨m1, e3⟩)⟩
  · unfold zd8
    rw [k1, k2, k3, k4, k5, if_pos (show (0 : Int) < 1 by omega), g5, if_neg k7, if_neg k7, if_neg k8, decide_eq_false k6', e2, e4]
    rfl
theorem bk_s {op rs1 rs2 imm : Int} {f : Nat} (hf : f = 2 ∨ f = 3) (hM : May f imm) (hr1 : 0 ≤ rs1 ∧ rs1 ≤ 31) (hr2 : 0 ≤ rs2 ∧ rs2 ≤ 31) (hoc : 0 ≤ ocV op ∧ ocV op ≤ 127) (hf3 : 0 ≤ f3V op ∧ f3V op ≤ 7)
    (k1 : wrB op = false) (k2 : firB op = true) (k3 : secB op = true) (k4 : fmV op = f) (k5 : shV op = 0) (k6 : srt op < 10) (k7 : op ≠ 50) (k8 : op ≠ 51) (k9 : op ≠ 53) (m1 : kdV op = 1) (m3 : turB op = false) :
    Bk ⟨op, 0, rs1, rs2, imm, false, false, 0, 0⟩ := by
  have hf1 : 1 ≤ f ∧ f ≤ 5 := by omega
  obtain ⟨g1, g2, g3, g4⟩ := zw0 hf1.1 hf1.2 hM
  have k6' : ¬ 10 ≤ srt op := by omega
  have hp : (0 : Int) < (f : Int) := by omega
  have hw : zd9 ⟨op, 0, rs1, rs2, imm, false, false, 0, 0⟩ = putK f (imm % 18446744073709551616) 32 + (ocV op + f3V op * 4096 + rs1 * 32768 + rs2 * 1048576) := by
    unfold zd9
    simp only [k4, k5, m3, if_neg k8, if_neg k6', if_neg k7, if_neg k9, if_pos hp]
    simp
    omega
  have g5 := zF5 hf1.1 hf1.2 (R := ocV op + f3V op * 4096 + rs1 * 32768 + rs2 * 1048576) g3 g4 (by omega) g2 (by
    unfold zv1; rw [if_neg (by omega), if_pos hf]; omega)
  have hk : putK f (imm % 18446744073709551616) 32 / 33554432 * 33554432 + putK f (imm % 18446744073709551616) 32 / 128 % 32 * 128 = putK f (imm % 18446744073709551616) 32 := by
    unfold zm2 at g2; rw [if_neg (by omega), if_pos hf] at g2; exact g2
  unfold Bk
  rw [hw]
  rw [g1] at g5
  simp only
  obtain ⟨q, hq⟩ : ∃ q, putK f (imm % 18446744073709551616) 32 / 33554432 = q := ⟨_, rfl⟩
  obtain ⟨t, ht⟩ : ∃ t, putK f (imm % 18446744073709551616) 32 / 128 % 32 = t := ⟨_, rfl⟩
  have hq0 : 0 ≤ q ∧ q < 128 := by omega
  have ht0 : 0 ≤ t ∧ t < 32 := by omega
  rw [hq, ht] at hk
  generalize putK f (imm % 18446744073709551616) 32 = P at *
  subst hk
  obtain ⟨e0, e1, e2, e3, e4, e5⟩ := flds (v := q * 33554432 + t * 128 + (ocV op + f3V op * 4096 + rs1 * 32768 + rs2 * 1048576)) (a0 := ocV op) (a1 := t) (a2 := f3V op) (a3 := rs1) (a4 := rs2 + 32 * q) (by omega) ht0 (by omega) (by omega) (by omega) (by omega)
  refine ⟨e0, ?_, ?_⟩
  · unfold Isw
    exact ⟨e1, .inr (.inl ⟨m1, e3⟩)⟩
  · unfold zd8
    rw [k1, k2, k3, k4, k5, if_pos hp, g5, if_neg k7, if_neg k7, if_neg k8, decide_eq_false k6', e4, e5, show (rs2 + 32 * q) % 32 = rs2 by omega]
    rfl
theorem bk_r {op rd rs1 rs2 x : Int} {n : Int} (hn : (n = 0 ∧ x = 0 ∧ secB op = true ∧ kdV op = 2) ∨ (n = 5 ∧ rs2 = 0 ∧ 0 ≤ x ∧ x ≤ 31 ∧ secB op = false ∧ kdV op = 2) ∨ (n = 6 ∧ rs2 = 0 ∧ 0 ≤ x ∧ x ≤ 63 ∧ secB op = false ∧ kdV op = 3))
    (hrd : 0 ≤ rd ∧ rd ≤ 31) (hr1 : 0 ≤ rs1 ∧ rs1 ≤ 31) (hr2 : 0 ≤ rs2 ∧ rs2 ≤ 31) (hoc : 0 ≤ ocV op ∧ ocV op ≤ 127) (hf3 : 0 ≤ f3V op ∧ f3V op ≤ 7)
    (k1 : wrB op = true) (k2 : firB op = true) (k4 : fmV op = 0) (k5 : shV op = n) (k6 : srt op < 10) (k7 : op ≠ 50) (k8 : op ≠ 51) (k9 : op ≠ 53)
    (m3 : (turB op = true ∧ agV op = (if n = 6 then 16 else 32)) ∨ (turB op = false ∧ agV op = 0)) :
    Bk ⟨op, rd, rs1, rs2, x, false, false, 0, 0⟩ := by
  have k6' : ¬ 10 ≤ srt op := by omega
  have hz : ¬ (0 : Int) < 0 := by omega
  obtain ⟨T, hT, hT2⟩ : ∃ T : Int, (if turB op then (1073741824 : Int) else 0) = T * 1048576 ∧ ((T = 1024 ∧ agV op = (if n = 6 then 16 else 32)) ∨ (T = 0 ∧ agV op = 0)) := by
    rcases m3 with ⟨h, h2⟩ | ⟨h, h2⟩
    · exact ⟨1024, by rw [h]; rfl, .inl ⟨rfl, h2⟩⟩
    · exact ⟨0, by rw [h]; rfl, .inr ⟨rfl, h2⟩⟩
  have hsh : (if 0 < shV op then x * 1048576 else 0) = x * 1048576 := by
    rw [k5]
    split
    · rfl
    · rcases hn with ⟨_, h, _⟩ | ⟨h, _⟩ | ⟨h, _⟩ <;> omega
  have hw : zd9 ⟨op, rd, rs1, rs2, x, false, false, 0, 0⟩ = ocV op + rd * 128 + f3V op * 4096 + rs1 * 32768 + (rs2 + T + x) * 1048576 := by
    unfold zd9
    simp only [k4, if_neg k8, if_neg k6', if_neg k7, if_neg k9, if_neg hz, hT, hsh]
    omega
  have h4 : 0 ≤ rs2 + T + x ∧ rs2 + T + x < 4096 := by rcases hn with h | h | h <;> omega
  unfold Bk
  rw [hw]
  simp only
  obtain ⟨e0, e1, e2, e3, e4, e5⟩ := flds (v := ocV op + rd * 128 + f3V op * 4096 + rs1 * 32768 + (rs2 + T + x) * 1048576) (a0 := ocV op) (a1 := rd) (a2 := f3V op) (a3 := rs1) (a4 := rs2 + T + x) (by omega) (by omega) (by omega) (by omega) h4 (by omega)
  obtain ⟨u1, u2, u3, u4, u5, u6, u7, u8⟩ := high e5
  refine ⟨e0, ?_, ?_⟩
  · unfold Isw
    refine ⟨e1, ?_⟩
    rcases hn with ⟨h, hx, hs, hk⟩ | ⟨h, h2, h3, h4, hs, hk⟩ | ⟨h, h2, h3, h4, hs, hk⟩
    · refine .inr (.inr (.inl ⟨hk, e3, ?_⟩)); rw [u1]; rw [if_neg (by omega)] at hT2; omega
    · refine .inr (.inr (.inl ⟨hk, e3, ?_⟩)); rw [u1]; rw [if_neg (by omega)] at hT2; omega
    · refine .inr (.inr (.inr (.inl ⟨hk, e3, ?_⟩))); rw [u1]; rw [if_pos h] at hT2; omega
  · unfold zd8
    rw [k1, k2, k4, k5, if_neg hz, if_neg k7, if_neg k7, if_neg k8, decide_eq_false k6', e2, e4, u7, u8]
    rcases hn with ⟨h, hx, hs, hk⟩ | ⟨h, h2, h3, h4, hs, hk⟩ | ⟨h, h2, h3, h4, hs, hk⟩
    · rw [hs, h, show (rs2 + T + x) % 32 = rs2 by omega, hx]; rfl
    · rw [hs, h, h2, show ((0 : Int) + T + x) % 32 = x by omega]; rfl
    · rw [hs, h, h2, show ((0 : Int) + T + x) % 64 = x by omega]; rfl
theorem bk_fence {pred succ : Int} (hp : 0 ≤ pred ∧ pred < 16) (hs : 0 ≤ succ ∧ succ < 16) : Bk ⟨50, 0, 0, 0, 0, false, false, pred, succ⟩ := by
  have hw : zd9 ⟨50, 0, 0, 0, 0, false, false, pred, succ⟩ = 15 + (pred * 16 + succ) * 1048576 := by
    unfold zd9
    simp only
    rw [if_neg (by decide), show ocV 50 = 15 by decide, show f3V 50 = 0 by decide, show turB 50 = false by decide, show shV 50 = 0 by decide, show fmV 50 = 0 by decide, if_neg (by decide), if_neg (by decide), if_neg (by decide), if_neg (by decide), if_pos trivial]
    omega
  unfold Bk
  rw [hw]
  simp only
  obtain ⟨e0, e1, e2, e3, e4, e5⟩ := flds (v := 15 + (pred * 16 + succ) * 1048576) (a0 := 15) (a1 := 0) (a2 := 0) (a3 := 0) (a4 := pred * 16 + succ) (by omega) (by omega) (by omega) (by omega) (by omega) (by omega)
  obtain ⟨u1, u2, u3, u4, u5, u6, u7, u8⟩ := high e5
  refine ⟨e0, Ze3 e1 e3 (by omega), ?_⟩
  rw [Zc6, u5, u6, show (pred * 16 + succ) / 16 % 16 = pred by omega, show (pred * 16 + succ) % 16 = succ by omega]
theorem bk_tso : Bk ⟨51, 0, 0, 0, 0, false, false, 3, 3⟩ := ⟨by decide, by decide, rfl⟩
theorem bk_ecall : Bk ⟨52, 0, 0, 0, 0, false, false, 0, 0⟩ := ⟨by decide, by decide, rfl⟩
theorem Zf7 : Bk ⟨53, 0, 0, 0, 0, false, false, 0, 0⟩ := ⟨by decide, by decide, rfl⟩
theorem bk_a {op rd rs1 rs2 : Int} {aq rl : Bool} (hn : (rs2 = 0 ∧ agV op = 2 ∧ secB op = false ∧ kdV op = 4) ∨ (secB op = true ∧ kdV op = 5 ∧ 0 ≤ agV op ∧ agV op ≤ 31))
    (hrd : 0 ≤ rd ∧ rd ≤ 31) (hr1 : 0 ≤ rs1 ∧ rs1 ≤ 31) (hr2 : 0 ≤ rs2 ∧ rs2 ≤ 31) (hoc : 0 ≤ ocV op ∧ ocV op ≤ 127) (hf3 : 0 ≤ f3V op ∧ f3V op ≤ 7)
    (k1 : wrB op = true) (k2 : firB op = true) (k4 : fmV op = 0) (k5 : shV op = 0) (k6 : 10 ≤ srt op) (k7 : op ≠ 50) (k8 : op ≠ 51) (m3 : turB op = false) :
    Bk ⟨op, rd, rs1, rs2, 0, aq, rl, 0, 0⟩ := by
  have hz : ¬ (0 : Int) < 0 := by omega
  obtain ⟨A, hA⟩ : ∃ A, b01 aq = A := ⟨_, rfl⟩
  obtain ⟨L, hL⟩ : ∃ L, b01 rl = L := ⟨_, rfl⟩
  have hA2 : (aq = true ∧ A = 1) ∨ (aq = false ∧ A = 0) := by have := zj2 aq; rw [hA] at this; exact this
  have hL2 : (rl = true ∧ L = 1) ∨ (rl = false ∧ L = 0) := by have := zj2 rl; rw [hL] at this; exact this
  have hw : zd9 ⟨op, rd, rs1, rs2, 0, aq, rl, 0, 0⟩ = ocV op + rd * 128 + f3V op * 4096 + rs1 * 32768 + (rs2 + agV op * 128 + A * 64 + L * 32) * 1048576 := by
    unfold zd9
    simp only [k4, k5, m3, if_neg k8, if_pos k6, if_neg hz, hA, hL]
    simp
    omega
  have hag : 0 ≤ agV op ∧ agV op ≤ 31 := by omega
  unfold Bk
  rw [hw]
  simp only
  obtain ⟨e0, e1, e2, e3, e4, e5⟩ := flds (v := ocV op + rd * 128 + f3V op * 4096 + rs1 * 32768 + (rs2 + agV op * 128 + A * 64 + L * 32) * 1048576) (a0 := ocV op) (a1 := rd) (a2 := f3V op) (a3 := rs1) (a4 := rs2 + agV op * 128 + A * 64 + L * 32) (by omega) (by omega) (by omega) (by omega) (by omega) (by omega)
  obtain ⟨u1, u2, u3, u4, u5, u6, u7, u8⟩ := high e5
  have x2 : (rs2 + agV op * 128 + A * 64 + L * 32) / 128 = agV op := by omega
  have x3 : (rs2 + agV op * 128 + A * 64 + L * 32) / 64 % 2 = A := by omega
  have x4 : (rs2 + agV op * 128 + A * 64 + L * 32) / 32 % 2 = L := by omega
  have x7 : (rs2 + agV op * 128 + A * 64 + L * 32) % 32 = rs2 := by omega
  rw [x2] at u2
  rw [x3] at u3
  rw [x4] at u4
  rw [x7] at u7
  refine ⟨e0, ?_, ?_⟩
  · unfold Isw
    refine ⟨e1, ?_⟩
    rcases hn with ⟨h, h2, h3, h4⟩ | ⟨h, h2, h3⟩
    · exact .inr (.inr (.inr (.inr (.inl ⟨h4, e3, by omega, by omega⟩))))
    · exact .inr (.inr (.inr (.inr (.inr (.inl ⟨h2, e3, u2⟩)))))
  · unfold zd8
    rw [k1, k2, k4, k5, if_neg hz, if_neg k7, if_neg k7, if_neg k8, decide_eq_true k6, e2, e4, u3, u4, u7, if_neg (by decide : ¬ (0 : Int) = 6), if_neg (by decide : ¬ (0 : Int) = 5)]
    have ea : (true && decide (A = 1)) = aq := by rcases hA2 with ⟨h, h2⟩ | ⟨h, h2⟩ <;> rw [h, h2] <;> rfl
    have el : (true && decide (L = 1)) = rl := by rcases hL2 with ⟨h, h2⟩ | ⟨h, h2⟩ <;> rw [h, h2] <;> rfl
    rw [ea, el]
    rcases hn with ⟨h, h2, h3, h4⟩ | ⟨h, h2, h3⟩
    · rw [h3, h]; rfl
    · rw [h]; rfl
end Go.Proofs.YtmamblgpekafbaaGreatDoor
namespace Go.Proofs.YtmamblgpekafbaaGreatDoor
open Go.RowKit
theorem Zq2 (k : Nat) (hk : k < 75) : clL.getD k 99 = 0 ∨ clL.getD k 99 = 1 ∨ clL.getD k 99 = 2 ∨ clL.getD k 99 = 3 ∨ clL.getD k 99 = 4 ∨ clL.getD k 99 = 5 ∨ clL.getD k 99 = 6 ∨ clL.getD k 99 = 7 ∨ clL.getD k 99 = 8 ∨ clL.getD k 99 = 9 ∨ clL.getD k 99 = 10 ∨ clL.getD k 99 = 11 ∨ clL.getD k 99 = 12 := by
  have : clL.getD k 99 < 13 := Zm1 ⟨k, hk⟩
  omega
theorem Zd4 {i : Ins} (h : Rgt i) : Bk i := by
  obtain ⟨op, rd, rs1, rs2, imm, aq, rl, pred, succ⟩ := i
  obtain ⟨hop, hrd, hr1, hr2, hw, hf, hs, ha, h6, h5, hn, hm, hfe, hts, hot⟩ := h
  simp only at hop hrd hr1 hr2 hw hf hs ha h6 h5 hn hm hfe hts hot
  obtain ⟨k, hk, rfl⟩ : ∃ k : Nat, k < 75 ∧ op = (k : Int) + 1 := ⟨op.toNat - 1, by omega, by omega⟩
  obtain ⟨c0, c1, g0, g1, a0, a1⟩ := zS6 ⟨k, hk⟩
  have h53 := zv3 ⟨k, hk⟩
  rcases Zq2 k hk with hc | hc | hc | hc | hc | hc | hc | hc | hc | hc | hc | hc | hc
  · obtain ⟨k1, k2, k3, k4, k5, k6, k7, k8⟩ := cls_0 ⟨k, hk⟩ hc
    simp only at k1 k2 k3 k4 k5 k6 k7 k8
    have h53 := h53 (by show clL.getD k 99 ≠ 10; omega)
    obtain ⟨m1, m2, m3⟩ := cm_0 ⟨k, hk⟩ (.inl hc)
    obtain ⟨rfl, rfl⟩ := ha k6
    obtain ⟨rfl, rfl⟩ := hot k7 k8
    obtain rfl := hf k2
    obtain rfl := hs k3
    exact bk_u (f := 4) (by decide) (by have := hm (by rw [k4]; decide); rw [k4] at this; exact this) hrd ⟨c0, c1⟩ k1 k2 k3 k4 k5 k6 k7 k8 h53 m1 m2 m3
  · obtain ⟨k1, k2, k3, k4, k5, k6, k7, k8⟩ := cls_1 ⟨k, hk⟩ hc
    simp only at k1 k2 k3 k4 k5 k6 k7 k8
    have h53 := h53 (by show clL.getD k 99 ≠ 10; omega)
    obtain ⟨m1, m2, m3⟩ := cm_0 ⟨k, hk⟩ (.inr hc)
    obtain ⟨rfl, rfl⟩ := ha k6
    obtain ⟨rfl, rfl⟩ := hot k7 k8
    obtain rfl := hf k2
    obtain rfl := hs k3
    exact bk_u (f := 5) (by decide) (by have := hm (by rw [k4]; decide); rw [k4] at this; exact this) hrd ⟨c0, c1⟩ k1 k2 k3 k4 k5 k6 k7 k8 h53 m1 m2 m3
  · obtain ⟨k1, k2, k3, k4, k5, k6, k7, k8⟩ := cls_2 ⟨k, hk⟩ hc
    simp only at k1 k2 k3 k4 k5 k6 k7 k8
    have h53 := h53 (by show clL.getD k 99 ≠ 10; omega)
    obtain ⟨m1, m3⟩ := cm_2 ⟨k, hk⟩ (.inl hc)
    obtain ⟨rfl, rfl⟩ := ha k6
    obtain ⟨rfl, rfl⟩ := hot k7 k8
    obtain rfl := hs k3
    exact bk_i (by have := hm (by rw [k4]; decide); rw [k4] at this; exact this) hrd hr1 ⟨c0, c1⟩ ⟨g0, g1⟩ k1 k2 k3 k4 k5 k6 k7 k8 h53 m1 m3
  · obtain ⟨k1, k2, k3, k4, k5, k6, k7, k8⟩ := cls_3 ⟨k, hk⟩ hc
    simp only at k1 k2 k3 k4 k5 k6 k7 k8
    have h53 := h53 (by show clL.getD k 99 ≠ 10; omega)
    obtain ⟨m1, m3⟩ := cm_2 ⟨k, hk⟩ (.inr (.inl hc))
    obtain ⟨rfl, rfl⟩ := ha k6
    obtain ⟨rfl, rfl⟩ := hot k7 k8
    obtain rfl := hw k1
    exact bk_s (f := 3) (by decide) (by have := hm (by rw [k4]; decide); rw [k4] at this; exact this) hr1 hr2 ⟨c0, c1⟩ ⟨g0, g1⟩ k1 k2 k3 k4 k5 k6 k7 k8 h53 m1 m3
  · obtain ⟨k1, k2, k3, k4, k5, k6, k7, k8⟩ := cls_4 ⟨k, hk⟩ hc
    simp only at k1 k2 k3 k4 k5 k6 k7 k8
    have h53 := h53 (by show clL.getD k 99 ≠ 10; omega)
    obtain ⟨m1, m3⟩ := cm_2 ⟨k, hk⟩ (.inr (.inr hc))
    obtain ⟨rfl, rfl⟩ := ha k6
    obtain ⟨rfl, rfl⟩ := hot k7 k8
    obtain rfl := hw k1
    exact bk_s (f := 2) (by decide) (by have := hm (by rw [k4]; decide); rw [k4] at this; exact this) hr1 hr2 ⟨c0, c1⟩ ⟨g0, g1⟩ k1 k2 k3 k4 k5 k6 k7 k8 h53 m1 m3
  · obtain ⟨k1, k2, k3, k4, k5, k6, k7, k8⟩ := cls_5 ⟨k, hk⟩ hc
    simp only at k1 k2 k3 k4 k5 k6 k7 k8
    have h53 := h53 (by show clL.getD k 99 ≠ 10; omega)
    obtain ⟨m1, m2, m3⟩ := cm_5 ⟨k, hk⟩ hc
    obtain ⟨rfl, rfl⟩ := ha k6
    obtain ⟨rfl, rfl⟩ := hot k7 k8
    obtain rfl := hs k3
    obtain ⟨i0, i1⟩ := h6 k5
    exact bk_r (n := 6) (.inr (.inr ⟨rfl, rfl, i0, i1, k3, m1⟩)) hrd hr1 hr2 ⟨c0, c1⟩ ⟨g0, g1⟩ k1 k2 k4 k5 k6 k7 k8 h53 (by rw [if_pos rfl]; exact m3)
  · obtain ⟨k1, k2, k3, k4, k5, k6, k7, k8⟩ := cls_6 ⟨k, hk⟩ hc
    simp only at k1 k2 k3 k4 k5 k6 k7 k8
    have h53 := h53 (by show clL.getD k 99 ≠ 10; omega)
    obtain ⟨m1, m3⟩ := cm_6 ⟨k, hk⟩ (.inl hc)
    obtain ⟨rfl, rfl⟩ := ha k6
    obtain ⟨rfl, rfl⟩ := hot k7 k8
    obtain rfl := hs k3
    obtain ⟨i0, i1⟩ := h5 k5
    exact bk_r (n := 5) (.inr (.inl ⟨rfl, rfl, i0, i1, k3, m1⟩)) hrd hr1 hr2 ⟨c0, c1⟩ ⟨g0, g1⟩ k1 k2 k4 k5 k6 k7 k8 h53 (by rw [if_neg (by decide)]; exact m3)
  · obtain ⟨k1, k2, k3, k4, k5, k6, k7, k8⟩ := cls_7 ⟨k, hk⟩ hc
    simp only at k1 k2 k3 k4 k5 k6 k7 k8
    have h53 := h53 (by show clL.getD k 99 ≠ 10; omega)
    obtain ⟨m1, m3⟩ := cm_6 ⟨k, hk⟩ (.inr hc)
    obtain ⟨rfl, rfl⟩ := ha k6
    obtain ⟨rfl, rfl⟩ := hot k7 k8
    obtain rfl := hn k5 k4
    exact bk_r (n := 0) (.inl ⟨rfl, rfl, k3, m1⟩) hrd hr1 hr2 ⟨c0, c1⟩ ⟨g0, g1⟩ k1 k2 k4 k5 k6 k7 k8 h53 (by rw [if_neg (by decide)]; exact m3)
  · obtain ⟨k1, k2, k3, k4, k5, k6, k7, k8⟩ := cls_8 ⟨k, hk⟩ hc
    simp only at k1 k2 k3 k4 k5 k6 k7 k8
    have h53 := h53 (by show clL.getD k 99 ≠ 10; omega)
    obtain ⟨p0, p1, s0, s1⟩ := hfe k7
    obtain ⟨rfl, rfl⟩ := ha k6
    obtain rfl := hn k5 k4
    obtain rfl := hw k1
    obtain rfl := hf k2
    obtain rfl := hs k3
    rw [k7]
    exact bk_fence ⟨p0, p1⟩ ⟨s0, s1⟩
  · obtain ⟨k1, k2, k3, k4, k5, k6, k7, k8⟩ := cls_9 ⟨k, hk⟩ hc
    simp only at k1 k2 k3 k4 k5 k6 k7 k8
    have h53 := h53 (by show clL.getD k 99 ≠ 10; omega)
    obtain ⟨rfl, rfl⟩ := hts k8
    obtain ⟨rfl, rfl⟩ := ha k6
    obtain rfl := hn k5 k4
    obtain rfl := hw k1
    obtain rfl := hf k2
    obtain rfl := hs k3
    rw [k8]
    exact bk_tso
  · obtain ⟨k1, k2, k3, k4, k5, k6, k7, k8⟩ := zU1 ⟨k, hk⟩ hc
    simp only at k1 k2 k3 k4 k5 k6 k7 k8
    obtain ⟨m1, m2, m3, m4⟩ := cm_10 ⟨k, hk⟩ hc
    obtain ⟨rfl, rfl⟩ := hot k7 k8
    obtain ⟨rfl, rfl⟩ := ha k6
    obtain rfl := hn k5 k4
    obtain rfl := hw k1
    obtain rfl := hf k2
    obtain rfl := hs k3
    rcases m4 with ⟨_, e⟩ | ⟨_, e⟩
    · simp only at e; rw [e]; exact bk_ecall
    · simp only at e; rw [e]; exact Zf7
  · obtain ⟨k1, k2, k3, k4, k5, k6, k7, k8⟩ := zQ2 ⟨k, hk⟩ hc
    simp only at k1 k2 k3 k4 k5 k6 k7 k8
    have h53 := h53 (by show clL.getD k 99 ≠ 10; omega)
    obtain ⟨m1, m2, m3⟩ := cm_11 ⟨k, hk⟩ hc
    obtain ⟨rfl, rfl⟩ := hot k7 k8
    obtain rfl := hn k5 k4
    obtain rfl := hs k3
    exact bk_a (.inl ⟨rfl, m2, k3, m1⟩) hrd hr1 hr2 ⟨c0, c1⟩ ⟨g0, g1⟩ k1 k2 k4 k5 k6 k7 k8 m3
  · obtain ⟨k1, k2, k3, k4, k5, k6, k7, k8⟩ := zV3 ⟨k, hk⟩ hc
    simp only at k1 k2 k3 k4 k5 k6 k7 k8
    have h53 := h53 (by show clL.getD k 99 ≠ 10; omega)
    obtain ⟨m1, m2, m3⟩ := cm_12 ⟨k, hk⟩ hc
    obtain ⟨rfl, rfl⟩ := hot k7 k8
    obtain rfl := hn k5 k4
    exact bk_a (.inr ⟨k3, m1, a0, m2⟩) hrd hr1 hr2 ⟨c0, c1⟩ ⟨g0, g1⟩ k1 k2 k4 k5 k6 k7 k8 m3
theorem zC5 (x : Int) : b01 (decide (x % 2 = 1)) = x % 2 := by
  by_cases h : x % 2 = 1
  · rw [decide_eq_true h, h]; rfl
  · rw [decide_eq_false h]; show (0 : Int) = _; omega
theorem keep_1 (v : Int) : zm2 1 v = v / 1048576 * 1048576 := rfl
theorem keep_2 (v : Int) : zm2 2 v = v / 33554432 * 33554432 + v / 128 % 32 * 128 := rfl
theorem keep_3 (v : Int) : zm2 3 v = v / 33554432 * 33554432 + v / 128 % 32 * 128 := rfl
theorem keep_4 (v : Int) : zm2 4 v = v / 4096 * 4096 := rfl
theorem keep_5 (v : Int) : zm2 5 v = v / 4096 * 4096 := rfl
def ownV (v k : Int) : Int := if k = 50 then 15 + v / 1048576 % 256 * 1048576 else if k = 51 then 2200961039 else v
theorem dec_enc {v op : Int} (hop : 1 ≤ op ∧ op ≤ 75) (v0 : 0 ≤ v) (v1 : v < 4294967296) (hI : Isw v op) : Rgt (zd8 v op) ∧ zd9 (zd8 v op) = ownV v op := by
  obtain ⟨k, hk, rfl⟩ : ∃ k : Nat, k < 75 ∧ op = (k : Int) + 1 := ⟨op.toNat - 1, by omega, by omega⟩
  have hN := hI.nrm
  have hp := Zp1 v
  have r1 : 0 ≤ v / 128 % 32 ∧ v / 128 % 32 ≤ 31 := by omega
  have r2 : 0 ≤ v / 32768 % 32 ∧ v / 32768 % 32 ≤ 31 := by omega
  have r3 : 0 ≤ v / 1048576 % 32 ∧ v / 1048576 % 32 ≤ 31 := by omega
  have h53 := zv3 ⟨k, hk⟩
  have hz : ¬ (0 : Int) < 0 := by omega
  have zz : (0 : Int) ≤ 0 ∧ (0 : Int) ≤ 31 := by decide
  rcases Zq2 k hk with hc | hc | hc | hc | hc | hc | hc | hc | hc | hc | hc | hc | hc
  · obtain ⟨k1, k2, k3, k4, k5, k6, k7, k8⟩ := cls_0 ⟨k, hk⟩ hc
    obtain ⟨m1, m2, m3⟩ := cm_0 ⟨k, hk⟩ (.inl hc)
    simp only at m1 m2 m3
    simp only at k1 k2 k3 k4 k5 k6 k7 k8
    have h53 : (k : Int) + 1 ≠ 53 := h53 (by show clL.getD k 99 ≠ 10; omega)
    have k6' : ¬ 10 ≤ srt ((k : Int) + 1) := by omega
    have e : zd8 v ((k : Int) + 1) = ⟨(k : Int) + 1, v / 128 % 32, 0, 0, getK 4 v 32, false, false, 0, 0⟩ := by
      unfold zd8
      simp only [k1, k2, k3, k4, k5, decide_eq_false k6', if_neg k7, if_neg k8]
      simp
    rw [e]
    have hown : ownV v ((k : Int) + 1) = v := by unfold ownV; rw [if_neg k7, if_neg k8]
    rw [hown]
    obtain ⟨n1, n2, n3, n4, n5, n6, n7, n8, n9, na⟩ := hN
    have hg := zt1 (f := 4) (by decide) (by decide) v0 v1
    simp only [Int.cast_ofNat_Int] at hg
    refine ⟨⟨hop, r1, zz, zz, fun h => absurd h (by rw [k1]; decide), fun _ => rfl, fun _ => rfl, fun _ => ⟨rfl, rfl⟩,
      fun h => absurd h (by rw [k5]; decide), fun h => absurd h (by rw [k5]; decide), fun _ h => absurd h (by rw [k4]; decide), fun _ => by rw [k4]; exact hg.1, fun h => absurd h k7, fun h => absurd h k8, fun _ _ => ⟨rfl, rfl⟩⟩, ?_⟩
    unfold zd9
    simp only [k4, k5, if_neg k8, m3, if_neg k6', if_neg k7, if_neg h53, if_pos (show (0 : Int) < 4 by omega), if_neg hz, hg.2]
    rw [keep_4]
    simp
    omega
  · obtain ⟨k1, k2, k3, k4, k5, k6, k7, k8⟩ := cls_1 ⟨k, hk⟩ hc
    obtain ⟨m1, m2, m3⟩ := cm_0 ⟨k, hk⟩ (.inr hc)
    simp only at m1 m2 m3
    simp only at k1 k2 k3 k4 k5 k6 k7 k8
    have h53 : (k : Int) + 1 ≠ 53 := h53 (by show clL.getD k 99 ≠ 10; omega)
    have k6' : ¬ 10 ≤ srt ((k : Int) + 1) := by omega
    have e : zd8 v ((k : Int) + 1) = ⟨(k : Int) + 1, v / 128 % 32, 0, 0, getK 5 v 32, false, false, 0, 0⟩ := by
      unfold zd8
      simp only [k1, k2, k3, k4, k5, decide_eq_false k6', if_neg k7, if_neg k8]
      simp
    rw [e]
    have hown : ownV v ((k : Int) + 1) = v := by unfold ownV; rw [if_neg k7, if_neg k8]
    rw [hown]
    obtain ⟨n1, n2, n3, n4, n5, n6, n7, n8, n9, na⟩ := hN
    have hg := zt1 (f := 5) (by decide) (by decide) v0 v1
    simp only [Int.cast_ofNat_Int] at hg
    refine ⟨⟨hop, r1, zz, zz, fun h => absurd h (by rw [k1]; decide), fun _ => rfl, fun _ => rfl, fun _ => ⟨rfl, rfl⟩,
      fun h => absurd h (by rw [k5]; decide), fun h => absurd h (by rw [k5]; decide), fun _ h => absurd h (by rw [k4]; decide), fun _ => by rw [k4]; exact hg.1, fun h => absurd h k7, fun h => absurd h k8, fun _ _ => ⟨rfl, rfl⟩⟩, ?_⟩
    unfold zd9
    simp only [k4, k5, if_neg k8, m3, if_neg k6', if_neg k7, if_neg h53, if_pos (show (0 : Int) < 5 by omega), if_neg hz, hg.2]
    rw [keep_5]
    simp
    omega
  · obtain ⟨k1, k2, k3, k4, k5, k6, k7, k8⟩ := cls_2 ⟨k, hk⟩ hc
    obtain ⟨m1, m3⟩ := cm_2 ⟨k, hk⟩ (.inl hc)
    simp only at m1 m3
    simp only at k1 k2 k3 k4 k5 k6 k7 k8
    have h53 : (k : Int) + 1 ≠ 53 := h53 (by show clL.getD k 99 ≠ 10; omega)
    have k6' : ¬ 10 ≤ srt ((k : Int) + 1) := by omega
    have e : zd8 v ((k : Int) + 1) = ⟨(k : Int) + 1, v / 128 % 32, v / 32768 % 32, 0, getK 1 v 32, false, false, 0, 0⟩ := by
      unfold zd8
      simp only [k1, k2, k3, k4, k5, decide_eq_false k6', if_neg k7, if_neg k8]
      simp
    rw [e]
    have hown : ownV v ((k : Int) + 1) = v := by unfold ownV; rw [if_neg k7, if_neg k8]
    rw [hown]
    obtain ⟨n1, n2, n3, n4, n5, n6, n7, n8, n9, na⟩ := hN
    have hg := zt1 (f := 1) (by decide) (by decide) v0 v1
    simp only [Int.cast_ofNat_Int] at hg
    refine ⟨⟨hop, r1, r2, zz, fun h => absurd h (by rw [k1]; decide), fun h => absurd h (by rw [k2]; decide), fun _ => rfl, fun _ => ⟨rfl, rfl⟩,
      fun h => absurd h (by rw [k5]; decide), fun h => absurd h (by rw [k5]; decide), fun _ h => absurd h (by rw [k4]; decide), fun _ => by rw [k4]; exact hg.1, fun h => absurd h k7, fun h => absurd h k8, fun _ _ => ⟨rfl, rfl⟩⟩, ?_⟩
    unfold zd9
    simp only [k4, k5, if_neg k8, m3, if_neg k6', if_neg k7, if_neg h53, if_pos (show (0 : Int) < 1 by omega), if_neg hz, hg.2]
    rw [keep_1]
    have n2 := n2 (by omega) (by omega)
    simp
    omega
  · obtain ⟨k1, k2, k3, k4, k5, k6, k7, k8⟩ := cls_3 ⟨k, hk⟩ hc
    obtain ⟨m1, m3⟩ := cm_2 ⟨k, hk⟩ (.inr (.inl hc))
    simp only at m1 m3
    simp only at k1 k2 k3 k4 k5 k6 k7 k8
    have h53 : (k : Int) + 1 ≠ 53 := h53 (by show clL.getD k 99 ≠ 10; omega)
    have k6' : ¬ 10 ≤ srt ((k : Int) + 1) := by omega
    have e : zd8 v ((k : Int) + 1) = ⟨(k : Int) + 1, 0, v / 32768 % 32, v / 1048576 % 32, getK 3 v 32, false, false, 0, 0⟩ := by
      unfold zd8
      simp only [k1, k2, k3, k4, k5, decide_eq_false k6', if_neg k7, if_neg k8]
      simp
    rw [e]
    have hown : ownV v ((k : Int) + 1) = v := by unfold ownV; rw [if_neg k7, if_neg k8]
    rw [hown]
    obtain ⟨n1, n2, n3, n4, n5, n6, n7, n8, n9, na⟩ := hN
    have hg := zt1 (f := 3) (by decide) (by decide) v0 v1
    simp only [Int.cast_ofNat_Int] at hg
    refine ⟨⟨hop, zz, r2, r3, fun _ => rfl, fun h => absurd h (by rw [k2]; decide), fun h => absurd h (by rw [k3]; decide), fun _ => ⟨rfl, rfl⟩,
      fun h => absurd h (by rw [k5]; decide), fun h => absurd h (by rw [k5]; decide), fun _ h => absurd h (by rw [k4]; decide), fun _ => by rw [k4]; exact hg.1, fun h => absurd h k7, fun h => absurd h k8, fun _ _ => ⟨rfl, rfl⟩⟩, ?_⟩
    unfold zd9
    simp only [k4, k5, if_neg k8, m3, if_neg k6', if_neg k7, if_neg h53, if_pos (show (0 : Int) < 3 by omega), if_neg hz, hg.2]
    rw [keep_3]
    have n2 := n2 (by omega) (by omega)
    simp
    omega
  · obtain ⟨k1, k2, k3, k4, k5, k6, k7, k8⟩ := cls_4 ⟨k, hk⟩ hc
    obtain ⟨m1, m3⟩ := cm_2 ⟨k, hk⟩ (.inr (.inr hc))
    simp only at m1 m3
    simp only at k1 k2 k3 k4 k5 k6 k7 k8
    have h53 : (k : Int) + 1 ≠ 53 := h53 (by show clL.getD k 99 ≠ 10; omega)
    have k6' : ¬ 10 ≤ srt ((k : Int) + 1) := by omega
    have e : zd8 v ((k : Int) + 1) = ⟨(k : Int) + 1, 0, v / 32768 % 32, v / 1048576 % 32, getK 2 v 32, false, false, 0, 0⟩ := by
      unfold zd8
      simp only [k1, k2, k3, k4, k5, decide_eq_false k6', if_neg k7, if_neg k8]
      simp
    rw [e]
    have hown : ownV v ((k : Int) + 1) = v := by unfold ownV; rw [if_neg k7, if_neg k8]
    rw [hown]
    obtain ⟨n1, n2, n3, n4, n5, n6, n7, n8, n9, na⟩ := hN
    have hg := zt1 (f := 2) (by decide) (by decide) v0 v1
    simp only [Int.cast_ofNat_Int] at hg
    refine ⟨⟨hop, zz, r2, r3, fun _ => rfl, fun h => absurd h (by rw [k2]; decide), fun h => absurd h (by rw [k3]; decide), fun _ => ⟨rfl, rfl⟩,
      fun h => absurd h (by rw [k5]; decide), fun h => absurd h (by rw [k5]; decide), fun _ h => absurd h (by rw [k4]; decide), fun _ => by rw [k4]; exact hg.1, fun h => absurd h k7, fun h => absurd h k8, fun _ _ => ⟨rfl, rfl⟩⟩, ?_⟩
    unfold zd9
    simp only [k4, k5, if_neg k8, m3, if_neg k6', if_neg k7, if_neg h53, if_pos (show (0 : Int) < 2 by omega), if_neg hz, hg.2]
    rw [keep_2]
    have n2 := n2 (by omega) (by omega)
    simp
    omega
  · obtain ⟨k1, k2, k3, k4, k5, k6, k7, k8⟩ := cls_5 ⟨k, hk⟩ hc
    obtain ⟨m1, m2, m3⟩ := cm_5 ⟨k, hk⟩ (hc)
    simp only at m1 m2 m3
    simp only at k1 k2 k3 k4 k5 k6 k7 k8
    have h53 : (k : Int) + 1 ≠ 53 := h53 (by show clL.getD k 99 ≠ 10; omega)
    have k6' : ¬ 10 ≤ srt ((k : Int) + 1) := by omega
    have e : zd8 v ((k : Int) + 1) = ⟨(k : Int) + 1, v / 128 % 32, v / 32768 % 32, 0, v / 1048576 % 64, false, false, 0, 0⟩ := by
      unfold zd8
      simp only [k1, k2, k3, k4, k5, decide_eq_false k6', if_neg k7, if_neg k8]
      simp
    rw [e]
    have hown : ownV v ((k : Int) + 1) = v := by unfold ownV; rw [if_neg k7, if_neg k8]
    rw [hown]
    obtain ⟨n1, n2, n3, n4, n5, n6, n7, n8, n9, na⟩ := hN
    refine ⟨⟨hop, r1, r2, zz, fun h => absurd h (by rw [k1]; decide), fun h => absurd h (by rw [k2]; decide), fun _ => rfl, fun _ => ⟨rfl, rfl⟩,
      fun _ => ⟨by simp only; omega, by simp only; omega⟩, fun h => absurd h (by rw [k5]; decide), fun h => absurd h (by rw [k5]; decide), fun h => absurd h (by rw [k4]; decide), fun h => absurd h k7, fun h => absurd h k8, fun _ _ => ⟨rfl, rfl⟩⟩, ?_⟩
    unfold zd9
    simp only [k4, k5, if_neg k8, if_neg k6', if_neg k7, if_neg h53, if_neg hz, if_pos (show (0 : Int) < 6 by omega), ]
    have n2 := n2 (by omega) (by omega)
    have n4 := n4 m1
    rcases m3 with ⟨h, h2⟩ | ⟨h, h2⟩
    · rw [h, if_pos rfl]; omega
    · rw [h]; simp; omega
  · obtain ⟨k1, k2, k3, k4, k5, k6, k7, k8⟩ := cls_6 ⟨k, hk⟩ hc
    obtain ⟨m1, m3⟩ := cm_6 ⟨k, hk⟩ (.inl hc)
    simp only at m1 m3
    simp only at k1 k2 k3 k4 k5 k6 k7 k8
    have h53 : (k : Int) + 1 ≠ 53 := h53 (by show clL.getD k 99 ≠ 10; omega)
    have k6' : ¬ 10 ≤ srt ((k : Int) + 1) := by omega
    have e : zd8 v ((k : Int) + 1) = ⟨(k : Int) + 1, v / 128 % 32, v / 32768 % 32, 0, v / 1048576 % 32, false, false, 0, 0⟩ := by
      unfold zd8
      simp only [k1, k2, k3, k4, k5, decide_eq_false k6', if_neg k7, if_neg k8]
      simp
    rw [e]
    have hown : ownV v ((k : Int) + 1) = v := by unfold ownV; rw [if_neg k7, if_neg k8]
    rw [hown]
    obtain ⟨n1, n2, n3, n4, n5, n6, n7, n8, n9, na⟩ := hN
    refine ⟨⟨hop, r1, r2, zz, fun h => absurd h (by rw [k1]; decide), fun h => absurd h (by rw [k2]; decide), fun _ => rfl, fun _ => ⟨rfl, rfl⟩,
      fun h => absurd h (by rw [k5]; decide), fun _ => ⟨by simp only; omega, by simp only; omega⟩, fun h => absurd h (by rw [k5]; decide), fun h => absurd h (by rw [k4]; decide), fun h => absurd h k7, fun h => absurd h k8, fun _ _ => ⟨rfl, rfl⟩⟩, ?_⟩
    unfold zd9
    simp only [k4, k5, if_neg k8, if_neg k6', if_neg k7, if_neg h53, if_neg hz, if_pos (show (0 : Int) < 5 by omega), ]
    have n2 := n2 (by omega) (by omega)
    have n3 := n3 m1
    rcases m3 with ⟨h, h2⟩ | ⟨h, h2⟩
    · rw [h, if_pos rfl]; omega
    · rw [h]; simp; omega
  · obtain ⟨k1, k2, k3, k4, k5, k6, k7, k8⟩ := cls_7 ⟨k, hk⟩ hc
    obtain ⟨m1, m3⟩ := cm_6 ⟨k, hk⟩ (.inr hc)
    simp only at m1 m3
    simp only at k1 k2 k3 k4 k5 k6 k7 k8
    have h53 : (k : Int) + 1 ≠ 53 := h53 (by show clL.getD k 99 ≠ 10; omega)
    have k6' : ¬ 10 ≤ srt ((k : Int) + 1) := by omega
    have e : zd8 v ((k : Int) + 1) = ⟨(k : Int) + 1, v / 128 % 32, v / 32768 % 32, v / 1048576 % 32, 0, false, false, 0, 0⟩ := by
      unfold zd8
      simp only [k1, k2, k3, k4, k5, decide_eq_false k6', if_neg k7, if_neg k8]
      simp
    rw [e]
    have hown : ownV v ((k : Int) + 1) = v := by unfold ownV; rw [if_neg k7, if_neg k8]
    rw [hown]
    obtain ⟨n1, n2, n3, n4, n5, n6, n7, n8, n9, na⟩ := hN
    refine ⟨⟨hop, r1, r2, r3, fun h => absurd h (by rw [k1]; decide), fun h => absurd h (by rw [k2]; decide), fun h => absurd h (by rw [k3]; decide), fun _ => ⟨rfl, rfl⟩,
      fun h => absurd h (by rw [k5]; decide), fun h => absurd h (by rw [k5]; decide), fun _ _ => rfl, fun h => absurd h (by rw [k4]; decide), fun h => absurd h k7, fun h => absurd h k8, fun _ _ => ⟨rfl, rfl⟩⟩, ?_⟩
    unfold zd9
    simp only [k4, k5, if_neg k8, if_neg k6', if_neg k7, if_neg h53, if_neg hz, ]
    have n2 := n2 (by omega) (by omega)
    have n3 := n3 m1
    rcases m3 with ⟨h, h2⟩ | ⟨h, h2⟩
    · rw [h, if_pos rfl]; omega
    · rw [h]; simp; omega
  · obtain ⟨k1, k2, k3, k4, k5, k6, k7, k8⟩ := cls_8 ⟨k, hk⟩ hc
    obtain ⟨m1, m2, m4, m3⟩ := cm_8 ⟨k, hk⟩ (hc)
    simp only at m1 m2 m4 m3
    simp only at k1 k2 k3 k4 k5 k6 k7 k8
    have h53 : (k : Int) + 1 ≠ 53 := h53 (by show clL.getD k 99 ≠ 10; omega)
    have k6' : ¬ 10 ≤ srt ((k : Int) + 1) := by omega
    have k8' : (k : Int) + 1 ≠ 51 := by omega
    have e : zd8 v ((k : Int) + 1) = ⟨(k : Int) + 1, 0, 0, 0, 0, false, false, v / 16777216 % 16, v / 1048576 % 16⟩ := by
      unfold zd8
      simp only [k1, k2, k3, k4, k5, decide_eq_false k6', if_pos k7, if_neg k8']
      simp
    rw [e]
    have hown : ownV v ((k : Int) + 1) = 15 + v / 1048576 % 256 * 1048576 := by unfold ownV; rw [if_pos k7]
    rw [hown]
    obtain ⟨n1, n2, n3, n4, n5, n6, n7, n8, n9, na⟩ := hN
    refine ⟨⟨hop, zz, zz, zz, fun _ => rfl, fun _ => rfl, fun _ => rfl, fun _ => ⟨rfl, rfl⟩,
      fun h => absurd h (by rw [k5]; decide), fun h => absurd h (by rw [k5]; decide), fun _ _ => rfl, fun h => absurd h (by rw [k4]; decide), fun _ => ⟨by simp only; omega, by simp only; omega, by simp only; omega, by simp only; omega⟩, fun h => absurd h k8', fun h => absurd k7 h⟩, ?_⟩
    unfold zd9
    simp only [k4, k5, if_neg k8', m3, if_neg k6', if_pos k7, if_neg hz, ]
    rw [m2, m4]
    simp
    omega
  · obtain ⟨k1, k2, k3, k4, k5, k6, k7, k8⟩ := cls_9 ⟨k, hk⟩ hc
    obtain m1 := cm_9 ⟨k, hk⟩ (hc)
    simp only at m1
    simp only at k1 k2 k3 k4 k5 k6 k7 k8
    have h53 : (k : Int) + 1 ≠ 53 := h53 (by show clL.getD k 99 ≠ 10; omega)
    have k6' : ¬ 10 ≤ srt ((k : Int) + 1) := by omega
    have k7' : (k : Int) + 1 ≠ 50 := by omega
    have e : zd8 v ((k : Int) + 1) = ⟨(k : Int) + 1, 0, 0, 0, 0, false, false, 3, 3⟩ := by
      unfold zd8
      simp only [k1, k2, k3, k4, k5, decide_eq_false k6', if_neg k7', if_pos k8]
      simp
    rw [e]
    have hown : ownV v ((k : Int) + 1) = 2200961039 := by unfold ownV; rw [if_neg k7', if_pos k8]
    rw [hown]
    obtain ⟨n1, n2, n3, n4, n5, n6, n7, n8, n9, na⟩ := hN
    refine ⟨⟨hop, zz, zz, zz, fun _ => rfl, fun _ => rfl, fun _ => rfl, fun _ => ⟨rfl, rfl⟩,
      fun h => absurd h (by rw [k5]; decide), fun h => absurd h (by rw [k5]; decide), fun _ _ => rfl, fun h => absurd h (by rw [k4]; decide), fun h => absurd h k7', fun _ => ⟨rfl, rfl⟩, fun _ h => absurd k8 h⟩, ?_⟩
    unfold zd9
    rw [if_pos k8]
  · obtain ⟨k1, k2, k3, k4, k5, k6, k7, k8⟩ := zU1 ⟨k, hk⟩ hc
    obtain ⟨m1, m2, m3, m4⟩ := cm_10 ⟨k, hk⟩ (hc)
    simp only at m1 m2 m3 m4
    simp only at k1 k2 k3 k4 k5 k6 k7 k8
    have k6' : ¬ 10 ≤ srt ((k : Int) + 1) := by omega
    have e : zd8 v ((k : Int) + 1) = ⟨(k : Int) + 1, 0, 0, 0, 0, false, false, 0, 0⟩ := by
      unfold zd8
      simp only [k1, k2, k3, k4, k5, decide_eq_false k6', if_neg k7, if_neg k8]
      simp
    rw [e]
    have hown : ownV v ((k : Int) + 1) = v := by unfold ownV; rw [if_neg k7, if_neg k8]
    rw [hown]
    obtain ⟨n1, n2, n3, n4, n5, n6, n7, n8, n9, na⟩ := hN
    refine ⟨⟨hop, zz, zz, zz, fun _ => rfl, fun _ => rfl, fun _ => rfl, fun _ => ⟨rfl, rfl⟩,
      fun h => absurd h (by rw [k5]; decide), fun h => absurd h (by rw [k5]; decide), fun _ _ => rfl, fun h => absurd h (by rw [k4]; decide), fun h => absurd h k7, fun h => absurd h k8, fun _ _ => ⟨rfl, rfl⟩⟩, ?_⟩
    unfold zd9
    simp only [k4, k5, if_neg k8, m3, if_neg k6', if_neg k7, if_neg hz, ]
    rw [m1, m2]
    rcases m4 with ⟨e1, e2⟩ | ⟨e1, e2⟩
    · rw [n9 e1, if_neg (show ¬ ((k : Int) + 1 = 53) by omega)]; simp
    · rw [na e1, if_pos e2]; simp
  · obtain ⟨k1, k2, k3, k4, k5, k6, k7, k8⟩ := zQ2 ⟨k, hk⟩ hc
    obtain ⟨m1, m2, m3⟩ := cm_11 ⟨k, hk⟩ (hc)
    simp only at m1 m2 m3
    simp only at k1 k2 k3 k4 k5 k6 k7 k8
    have h53 : (k : Int) + 1 ≠ 53 := h53 (by show clL.getD k 99 ≠ 10; omega)
    have k6' : 10 ≤ srt ((k : Int) + 1) := by omega
    have e : zd8 v ((k : Int) + 1) = ⟨(k : Int) + 1, v / 128 % 32, v / 32768 % 32, 0, 0, decide (v / 67108864 % 2 = 1), decide (v / 33554432 % 2 = 1), 0, 0⟩ := by
      unfold zd8
      simp only [k1, k2, k3, k4, k5, k6', if_neg k7, if_neg k8]
      simp
    rw [e]
    have hown : ownV v ((k : Int) + 1) = v := by unfold ownV; rw [if_neg k7, if_neg k8]
    rw [hown]
    obtain ⟨n1, n2, n3, n4, n5, n6, n7, n8, n9, na⟩ := hN
    refine ⟨⟨hop, r1, r2, zz, fun h => absurd h (by rw [k1]; decide), fun h => absurd h (by rw [k2]; decide), fun _ => rfl, fun h => absurd h (by simp only; omega),
      fun h => absurd h (by rw [k5]; decide), fun h => absurd h (by rw [k5]; decide), fun _ _ => rfl, fun h => absurd h (by rw [k4]; decide), fun h => absurd h k7, fun h => absurd h k8, fun _ _ => ⟨rfl, rfl⟩⟩, ?_⟩
    unfold zd9
    simp only [k4, k5, if_neg k8, m3, if_pos k6', if_neg hz, ]
    have n2 := n2 (by omega) (by omega)
    have n56 := n6 m1
    have hA : b01 (decide (v / 67108864 % 2 = 1)) = v / 67108864 % 2 := zC5 _
    have hL : b01 (decide (v / 33554432 % 2 = 1)) = v / 33554432 % 2 := zC5 _
    rw [hA, hL]
    simp
    have hz5 : v / 1048576 % 32 = 0 := by
      unfold Isw at hI
      omega
    omega
  · obtain ⟨k1, k2, k3, k4, k5, k6, k7, k8⟩ := zV3 ⟨k, hk⟩ hc
    obtain ⟨m1, m2, m3⟩ := cm_12 ⟨k, hk⟩ (hc)
    simp only at m1 m2 m3
    simp only at k1 k2 k3 k4 k5 k6 k7 k8
    have h53 : (k : Int) + 1 ≠ 53 := h53 (by show clL.getD k 99 ≠ 10; omega)
    have k6' : 10 ≤ srt ((k : Int) + 1) := by omega
    have e : zd8 v ((k : Int) + 1) = ⟨(k : Int) + 1, v / 128 % 32, v / 32768 % 32, v / 1048576 % 32, 0, decide (v / 67108864 % 2 = 1), decide (v / 33554432 % 2 = 1), 0, 0⟩ := by
      unfold zd8
      simp only [k1, k2, k3, k4, k5, k6', if_neg k7, if_neg k8]
      simp
    rw [e]
    have hown : ownV v ((k : Int) + 1) = v := by unfold ownV; rw [if_neg k7, if_neg k8]
    rw [hown]
    obtain ⟨n1, n2, n3, n4, n5, n6, n7, n8, n9, na⟩ := hN
    refine ⟨⟨hop, r1, r2, r3, fun h => absurd h (by rw [k1]; decide), fun h => absurd h (by rw [k2]; decide), fun h => absurd h (by rw [k3]; decide), fun h => absurd h (by simp only; omega),
      fun h => absurd h (by rw [k5]; decide), fun h => absurd h (by rw [k5]; decide), fun _ _ => rfl, fun h => absurd h (by rw [k4]; decide), fun h => absurd h k7, fun h => absurd h k8, fun _ _ => ⟨rfl, rfl⟩⟩, ?_⟩
    unfold zd9
    simp only [k4, k5, if_neg k8, m3, if_pos k6', if_neg hz, ]
    have n2 := n2 (by omega) (by omega)
    have n56 := n5 m1
    have hA : b01 (decide (v / 67108864 % 2 = 1)) = v / 67108864 % 2 := zC5 _
    have hL : b01 (decide (v / 33554432 % 2 = 1)) = v / 33554432 % 2 := zC5 _
    rw [hA, hL]
    simp
    omega
end Go.Proofs.YtmamblgpekafbaaGreatDoor
namespace Go.Proofs.YtmamblgpekafbaaGreatDoor
open Go.RowKit
def thL : List Int := [0, 0, 0, 0, 0, 0, 1, 4, 5, 6, 7, 0, 1, 2, 3, 4, 5, 6, 0, 1, 2, 3, 0, 2, 3, 4, 6, 7, 1, 5, 5, 0, 1, 5, 5, 0, 0, 1, 2, 3, 4, 5, 5, 6, 7, 0, 0, 1, 5, 5, 0, 0, 0, 0, 2, 3, 2, 3, 2, 2, 2, 2, 2, 2, 2, 2, 2, 3, 3, 3, 3, 3, 3, 3, 3, 3]
def upL : List Int := [0, 0, 0, 0, 0, 0, 0, 0, 0, 0, 0, 0, 0, 0, 0, 0, 0, 0, 0, 0, 0, 0, 0, 0, 0, 0, 0, 0, 0, 0, 1024, 0, 0, 0, 1024, 0, 1024, 0, 0, 0, 0, 0, 1024, 0, 0, 0, 1024, 0, 0, 1024, 0, 2048, 0, 1, 256, 256, 384, 384, 128, 0, 512, 1536, 1024, 2048, 2560, 3072, 3584, 128, 0, 512, 1536, 1024, 2048, 2560, 3072, 3584]
def thV (op : Int) : Int := thL.getD op.toNat 0
def upV (op : Int) : Int := upL.getD op.toNat 0
def immW (op imm : Int) : Int := if 0 < shV op then imm * 1048576 else if 0 < fmV op then putK (fmV op) (imm % 18446744073709551616) 32 else 0
def zu5 (i : Ins) : List Int := [ocV i.op, i.rd * 128, thV i.op * 4096, i.rs1 * 32768, i.rs2 * 1048576, upV i.op * 1048576, immW i.op i.imm, i.succ * 1048576, i.pred * 16777216, b01 i.rl * 33554432, b01 i.aq * 67108864]
theorem zL2 : ∀ k : Fin 75, thV ((k.val : Int) + 1) = f3V ((k.val : Int) + 1) ∧ (0 ≤ upV ((k.val : Int) + 1) ∧ upV ((k.val : Int) + 1) < 4096) ∧
    upV ((k.val : Int) + 1) = (if turB ((k.val : Int) + 1) then 1024 else 0) + (if 10 ≤ srt ((k.val : Int) + 1) then agV ((k.val : Int) + 1) * 128 else 0) + (if (k.val : Int) + 1 = 53 then 1 else 0) + (if (k.val : Int) + 1 = 51 then 2048 else 0) := by decide +kernel
theorem word_sum {i : Ins} (h : Rgt i) (h51 : i.op ≠ 51) :
    zd9 i = ocV i.op + i.rd * 128 + thV i.op * 4096 + i.rs1 * 32768 + i.rs2 * 1048576 + upV i.op * 1048576 + immW i.op i.imm + i.succ * 1048576 + i.pred * 16777216 + b01 i.rl * 33554432 + b01 i.aq * 67108864 := by
  obtain ⟨op, rd, rs1, rs2, imm, aq, rl, pred, succ⟩ := i
  obtain ⟨hop, hrd, hr1, hr2, hw, hf, hs, ha, h6, h5, hn, hm, hfe, hts, hot⟩ := h
  simp only at hop hrd hr1 hr2 hw hf hs ha h6 h5 hn hm hfe hts hot h51 ⊢
  have hc := zG1 hop
  have ht := zL2 ⟨op.toNat - 1, by omega⟩
  simp only [show ((op.toNat - 1 : Nat) : Int) + 1 = op by omega] at ht
  obtain ⟨t1, _, t3⟩ := ht
  rw [if_neg h51] at t3
  unfold zd9 immW
  simp only
  rw [if_neg h51, t1, t3]
  have hx : (if 0 < shV op then imm * 1048576 else 0) + (if 0 < fmV op then putK (fmV op) (imm % 18446744073709551616) 32 else 0) = (if 0 < shV op then imm * 1048576 else if 0 < fmV op then putK (fmV op) (imm % 18446744073709551616) 32 else 0) := by
    by_cases g : 0 < shV op
    · have : ¬ 0 < fmV op := by omega
      rw [if_pos g, if_neg this, if_pos g]; omega
    · rw [if_neg g, if_neg g]; omega
  have hy : (if turB op then (1073741824 : Int) else 0) = (if turB op then 1024 else 0) * 1048576 := by split <;> omega
  rw [hy]
  generalize (if turB op then (1024 : Int) else 0) = T at *
  generalize (if 0 < shV op then imm * 1048576 else 0) = X1 at *
  generalize (if 0 < fmV op then putK (fmV op) (imm % 18446744073709551616) 32 else 0) = X2 at *
  rw [← hx]
  by_cases g : 10 ≤ srt op
  · have n50 : op ≠ 50 := fun e => by subst e; exact absurd g (by decide)
    have n53 : op ≠ 53 := fun e => by subst e; exact absurd g (by decide)
    obtain ⟨rfl, rfl⟩ := hot n50 h51
    rw [if_pos g, if_pos g, if_neg n53]
    omega
  · obtain ⟨rfl, rfl⟩ := ha (by omega)
    rw [if_neg g, if_neg g, show b01 false = 0 by rfl]
    by_cases n50 : op = 50
    · rw [if_pos n50, if_neg (by omega)]; omega
    · obtain ⟨rfl, rfl⟩ := hot n50 h51
      rw [if_neg n50]
      split <;> omega
theorem zh7 {i : Ins} {P : Int} (h : Rgt i) (hP : immW i.op i.imm = P) (p0 : 0 ≤ P ∧ P < 4294967296) (p7 : P % 128 = 0) (e1 : i.rd = 0 ∨ P / 128 % 32 = 0) (e2 : thV i.op = 0 ∨ P / 4096 % 8 = 0) (e3 : i.rs1 = 0 ∨ P / 32768 % 32 = 0)
    (hs : 0 ≤ i.succ ∧ i.succ < 16) (hp : 0 ≤ i.pred ∧ i.pred < 16)
    (e4 : upJ i.rs2 (upV i.op) (P / 1048576) i.succ i.pred (b01 i.rl) (b01 i.aq) = i.rs2 + upV i.op + P / 1048576 + i.succ + i.pred * 16 + b01 i.rl * 32 + b01 i.aq * 64) :
    zo9 (zu5 i) = ocV i.op + i.rd * 128 + thV i.op * 4096 + i.rs1 * 32768 + i.rs2 * 1048576 + upV i.op * 1048576 + immW i.op i.imm + i.succ * 1048576 + i.pred * 16777216 + b01 i.rl * 33554432 + b01 i.aq * 67108864 := by
  have hop := h.op
  have hr := h.rd
  have hr1 := h.rs1
  have hr2 := h.rs2
  have ht := zL2 ⟨i.op.toNat - 1, by omega⟩
  have hg := zS6 ⟨i.op.toNat - 1, by omega⟩
  simp only [show ((i.op.toNat - 1 : Nat) : Int) + 1 = i.op by omega] at ht hg
  obtain ⟨t1, ⟨t2, t3⟩, _⟩ := ht
  obtain ⟨c0, c1, g0, g1, _⟩ := hg
  have b0 := zj2 i.rl
  have b1 := zj2 i.aq
  have hPm : P = mk5 0 (P / 128 % 32) (P / 4096 % 8) (P / 32768 % 32) (P / 1048576) := by unfold mk5; omega
  unfold zu5
  rw [hP]
  rw [← t1] at g0 g1
  have hj := zZ2 (a0 := ocV i.op) (rd := i.rd) (t := thV i.op) (r1 := i.rs1) (r2 := i.rs2) (u := upV i.op) (p1 := P / 128 % 32) (p2 := P / 4096 % 8) (p3 := P / 32768 % 32) (p4 := P / 1048576) (s := i.succ) (pr := i.pred) (l := b01 i.rl) (a := b01 i.aq)
    (by omega) (by omega) (by omega) (by omega) (by omega) ⟨t2, t3⟩ (by omega) (by omega) (by omega) (by omega) hs hp (by omega) (by omega)
  rw [← hPm, zx6 (by omega) (by omega) e1, zx6 (by omega) (by omega) e2, zx6 (by omega) (by omega) e3, e4] at hj
  rw [hj]
  unfold mk5
  omega
theorem join_tso : zo9 (zu5 ⟨51, 0, 0, 0, 0, false, false, 3, 3⟩) = zd9 ⟨51, 0, 0, 0, 0, false, false, 3, 3⟩ := by decide
theorem Zg2 {i : Ins} (h : Rgt i) : zo9 (zu5 i) = zd9 i := by
  obtain ⟨k, hk, hki⟩ : ∃ k : Nat, k < 75 ∧ i.op = (k : Int) + 1 := ⟨i.op.toNat - 1, by have := h.op; omega, by have := h.op; omega⟩
  have hc := Zq2 k hk
  have ht := zL2 ⟨k, hk⟩
  simp only at ht
  rw [← hki] at ht
  obtain ⟨t1, t2, t3⟩ := ht
  by_cases h51 : i.op = 51
  · obtain ⟨op, rd, rs1, rs2, imm, aq, rl, pred, succ⟩ := i
    obtain ⟨hop, hrd, hr1, hr2, hw, hf, hs, ha, h6, h5, hn, hm, hfe, hts, hot⟩ := h
    simp only at h51 hw hf hs ha hn hts
    subst h51
    obtain rfl := hw (by decide)
    obtain rfl := hf (by decide)
    obtain rfl := hs (by decide)
    obtain ⟨rfl, rfl⟩ := ha (by decide)
    obtain ⟨rfl, rfl⟩ := hts rfl
    obtain rfl := hn (by decide) (by decide)
    exact join_tso
  rw [word_sum h h51]
  rw [if_neg h51] at t3
  have hrd := h.rd
  have hr1 := h.rs1
  have hr2 := h.rs2
  have b0 := zj2 i.rl
  have b1 := zj2 i.aq
  have hb : srt i.op < 10 → b01 i.rl = 0 ∧ b01 i.aq = 0 := fun g => by have := h.at1 g; rw [this.1, this.2]; exact ⟨rfl, rfl⟩
  -- an immediate of a format
  have hform : ∀ f : Nat, 1 ≤ f → f ≤ 5 → fmV i.op = f → shV i.op = 0 → zm2 f (immW i.op i.imm) = immW i.op i.imm ∧ 0 ≤ immW i.op i.imm ∧ immW i.op i.imm < 4294967296 := by
    intro f f1 f5 hf hz
    have hm := h.may (by omega)
    rw [hf] at hm
    have := zw0 f1 f5 hm
    unfold immW
    rw [hz, if_neg (by omega), hf, if_pos (by omega)]
    exact this.2
  have hu0 : turB i.op = false → srt i.op < 10 → i.op ≠ 53 → upV i.op = 0 := by
    intro g1 g2 g3
    have g4 : ¬ 10 ≤ srt i.op := by omega
    rw [t3, g1, if_neg g4, if_neg g3]
    rfl
  have hua : turB i.op = false → 10 ≤ srt i.op → i.op ≠ 53 → upV i.op = agV i.op * 128 := by
    intro g1 g2 g3
    rw [t3, g1, if_pos g2, if_neg g3, if_neg (by decide)]
    omega
  have hut : srt i.op < 10 → i.op ≠ 53 → upV i.op = 0 ∨ upV i.op = 1024 := by
    intro g2 g3
    have g4 : ¬ 10 ≤ srt i.op := by omega
    rw [t3, if_neg g4, if_neg g3]
    cases turB i.op <;> simp
  rcases hc with hc | hc | hc | hc | hc | hc | hc | hc | hc | hc | hc | hc | hc
  · obtain ⟨k1, k2, k3, k4, k5, k6, k7, k8⟩ := cls_0 ⟨k, hk⟩ hc
    obtain ⟨m1, m2, m3⟩ := cm_0 ⟨k, hk⟩ (.inl hc)
    simp only at k1 k2 k3 k4 k5 k6 k7 k8 m1 m2 m3
    have h53 := zv3 ⟨k, hk⟩ (by show clL.getD k 99 ≠ 10; omega)
    simp only at h53
    rw [← hki] at k1 k2 k3 k4 k5 k6 k7 k8 m1 m2 m3 h53
    have hu := hu0 m3 k6 h53
    obtain ⟨y1, y2⟩ := hb k6
    obtain ⟨y3, y4⟩ := h.oth k7 k8
    have y5 := h.fir k2
    have y6 := h.sec k3
    obtain ⟨g1, g2, g3⟩ := hform 4 (by decide) (by decide) (by rw [k4]; rfl) k5
    rw [keep_4] at g1
    refine zh7 h rfl ⟨g2, g3⟩ (by omega) (.inr (by omega)) (.inl (by omega)) (.inl y5) (by omega) (by omega) ?_
    rw [y1, y2, y3, y4, y6, hu, zN4 (by omega)]; omega
  · obtain ⟨k1, k2, k3, k4, k5, k6, k7, k8⟩ := cls_1 ⟨k, hk⟩ hc
    obtain ⟨m1, m2, m3⟩ := cm_0 ⟨k, hk⟩ (.inr hc)
    simp only at k1 k2 k3 k4 k5 k6 k7 k8 m1 m2 m3
    have h53 := zv3 ⟨k, hk⟩ (by show clL.getD k 99 ≠ 10; omega)
    simp only at h53
    rw [← hki] at k1 k2 k3 k4 k5 k6 k7 k8 m1 m2 m3 h53
    have hu := hu0 m3 k6 h53
    obtain ⟨y1, y2⟩ := hb k6
    obtain ⟨y3, y4⟩ := h.oth k7 k8
    have y5 := h.fir k2
    have y6 := h.sec k3
    obtain ⟨g1, g2, g3⟩ := hform 5 (by decide) (by decide) (by rw [k4]; rfl) k5
    rw [keep_5] at g1
    refine zh7 h rfl ⟨g2, g3⟩ (by omega) (.inr (by omega)) (.inl (by omega)) (.inl y5) (by omega) (by omega) ?_
    rw [y1, y2, y3, y4, y6, hu, zN4 (by omega)]; omega
  · obtain ⟨k1, k2, k3, k4, k5, k6, k7, k8⟩ := cls_2 ⟨k, hk⟩ hc
    obtain ⟨m1, m3⟩ := cm_2 ⟨k, hk⟩ (.inl hc)
    simp only at k1 k2 k3 k4 k5 k6 k7 k8 m1 m3
    have h53 := zv3 ⟨k, hk⟩ (by show clL.getD k 99 ≠ 10; omega)
    simp only at h53
    rw [← hki] at k1 k2 k3 k4 k5 k6 k7 k8 m1 m3 h53
    have hu := hu0 m3 k6 h53
    obtain ⟨y1, y2⟩ := hb k6
    obtain ⟨y3, y4⟩ := h.oth k7 k8
    have y6 := h.sec k3
    obtain ⟨g1, g2, g3⟩ := hform 1 (by decide) (by decide) (by rw [k4]; rfl) k5
    rw [keep_1] at g1
    refine zh7 h rfl ⟨g2, g3⟩ (by omega) (.inr (by omega)) (.inr (by omega)) (.inr (by omega)) (by omega) (by omega) ?_
    rw [y1, y2, y3, y4, y6, hu, zN4 (by omega)]; omega
  · obtain ⟨k1, k2, k3, k4, k5, k6, k7, k8⟩ := cls_3 ⟨k, hk⟩ hc
    obtain ⟨m1, m3⟩ := cm_2 ⟨k, hk⟩ (.inr (.inl hc))
    simp only at k1 k2 k3 k4 k5 k6 k7 k8 m1 m3
    have h53 := zv3 ⟨k, hk⟩ (by show clL.getD k 99 ≠ 10; omega)
    simp only at h53
    rw [← hki] at k1 k2 k3 k4 k5 k6 k7 k8 m1 m3 h53
    have hu := hu0 m3 k6 h53
    obtain ⟨y1, y2⟩ := hb k6
    obtain ⟨y3, y4⟩ := h.oth k7 k8
    have y6 := h.wr k1
    obtain ⟨g1, g2, g3⟩ := hform 3 (by decide) (by decide) (by rw [k4]; rfl) k5
    rw [keep_3] at g1
    refine zh7 h rfl ⟨g2, g3⟩ (by omega) (.inl y6) (.inr (by omega)) (.inr (by omega)) (by omega) (by omega) ?_
    rw [y1, y2, y3, y4, hu, show immW i.op i.imm / 1048576 = immW i.op i.imm / 33554432 * 32 by omega, upJ_s (by omega) (by omega)]; omega
  · obtain ⟨k1, k2, k3, k4, k5, k6, k7, k8⟩ := cls_4 ⟨k, hk⟩ hc
    obtain ⟨m1, m3⟩ := cm_2 ⟨k, hk⟩ (.inr (.inr hc))
    simp only at k1 k2 k3 k4 k5 k6 k7 k8 m1 m3
    have h53 := zv3 ⟨k, hk⟩ (by show clL.getD k 99 ≠ 10; omega)
    simp only at h53
    rw [← hki] at k1 k2 k3 k4 k5 k6 k7 k8 m1 m3 h53
    have hu := hu0 m3 k6 h53
    obtain ⟨y1, y2⟩ := hb k6
    obtain ⟨y3, y4⟩ := h.oth k7 k8
    have y6 := h.wr k1
    obtain ⟨g1, g2, g3⟩ := hform 2 (by decide) (by decide) (by rw [k4]; rfl) k5
    rw [keep_2] at g1
    refine zh7 h rfl ⟨g2, g3⟩ (by omega) (.inl y6) (.inr (by omega)) (.inr (by omega)) (by omega) (by omega) ?_
    rw [y1, y2, y3, y4, hu, show immW i.op i.imm / 1048576 = immW i.op i.imm / 33554432 * 32 by omega, upJ_s (by omega) (by omega)]; omega
  · obtain ⟨k1, k2, k3, k4, k5, k6, k7, k8⟩ := cls_5 ⟨k, hk⟩ hc
    obtain ⟨m1, m2, m3⟩ := cm_5 ⟨k, hk⟩ hc
    simp only at k1 k2 k3 k4 k5 k6 k7 k8 m1 m2 m3
    have h53 := zv3 ⟨k, hk⟩ (by show clL.getD k 99 ≠ 10; omega)
    simp only at h53
    rw [← hki] at k1 k2 k3 k4 k5 k6 k7 k8 m1 m2 m3 h53
    have hu := hut k6 h53
    obtain ⟨y1, y2⟩ := hb k6
    obtain ⟨y3, y4⟩ := h.oth k7 k8
    have y6 := h.sec k3
    have y7 := h.sh6 k5
    have hI : immW i.op i.imm = i.imm * 1048576 := by unfold immW; rw [k5, if_pos (by decide)]
    refine zh7 h hI (by omega) (by omega) (.inr (by omega)) (.inr (by omega)) (.inr (by omega)) (by omega) (by omega) ?_
    rw [y1, y2, y3, y4, y6, show i.imm * 1048576 / 1048576 = i.imm by omega, upJ_sh hu (by omega)]; omega
  · obtain ⟨k1, k2, k3, k4, k5, k6, k7, k8⟩ := cls_6 ⟨k, hk⟩ hc
    obtain ⟨m1, m3⟩ := cm_6 ⟨k, hk⟩ (.inl hc)
    simp only at k1 k2 k3 k4 k5 k6 k7 k8 m1 m3
    have h53 := zv3 ⟨k, hk⟩ (by show clL.getD k 99 ≠ 10; omega)
    simp only at h53
    rw [← hki] at k1 k2 k3 k4 k5 k6 k7 k8 m1 m3 h53
    have hu := hut k6 h53
    obtain ⟨y1, y2⟩ := hb k6
    obtain ⟨y3, y4⟩ := h.oth k7 k8
    have y6 := h.sec k3
    have y7 := h.sh5 k5
    have hI : immW i.op i.imm = i.imm * 1048576 := by unfold immW; rw [k5, if_pos (by decide)]
    refine zh7 h hI (by omega) (by omega) (.inr (by omega)) (.inr (by omega)) (.inr (by omega)) (by omega) (by omega) ?_
    rw [y1, y2, y3, y4, y6, show i.imm * 1048576 / 1048576 = i.imm by omega, upJ_sh hu (by omega)]; omega
  · obtain ⟨k1, k2, k3, k4, k5, k6, k7, k8⟩ := cls_7 ⟨k, hk⟩ hc
    obtain ⟨m1, m3⟩ := cm_6 ⟨k, hk⟩ (.inr hc)
    simp only at k1 k2 k3 k4 k5 k6 k7 k8 m1 m3
    have h53 := zv3 ⟨k, hk⟩ (by show clL.getD k 99 ≠ 10; omega)
    simp only at h53
    rw [← hki] at k1 k2 k3 k4 k5 k6 k7 k8 m1 m3 h53
    have hu := hut k6 h53
    obtain ⟨y1, y2⟩ := hb k6
    obtain ⟨y3, y4⟩ := h.oth k7 k8
    have hI : immW i.op i.imm = 0 := by unfold immW; rw [k5, if_neg (by decide), k4, if_neg (by decide)]
    refine zh7 h hI (by omega) (by omega) (.inr (by omega)) (.inr (by omega)) (.inr (by omega)) (by omega) (by omega) ?_
    rw [y1, y2, y3, y4, show (0 : Int) / 1048576 = 0 by decide, upJ_r (by omega) hu]; omega
  · obtain ⟨k1, k2, k3, k4, k5, k6, k7, k8⟩ := cls_8 ⟨k, hk⟩ hc
    obtain ⟨m1, m2, m4, m3⟩ := cm_8 ⟨k, hk⟩ hc
    simp only at k1 k2 k3 k4 k5 k6 k7 k8 m1 m2 m3 m4
    rw [← hki] at k1 k2 k3 k4 k5 k6 k7 k8 m1 m2 m3 m4
    have hu := hu0 m3 k6 (by omega)
    obtain ⟨y1, y2⟩ := hb k6
    have y3 := h.fen k7
    have y6 := h.sec k3
    have hI : immW i.op i.imm = 0 := by unfold immW; rw [k5, if_neg (by decide), k4, if_neg (by decide)]
    refine zh7 h hI (by omega) (by omega) (.inr (by omega)) (.inr (by omega)) (.inr (by omega)) (by omega) (by omega) ?_
    rw [y1, y2, y6, hu, show (0 : Int) / 1048576 = 0 by decide, upJ_f (by omega) (by omega)]; omega
  · obtain ⟨k1, k2, k3, k4, k5, k6, k7, k8⟩ := cls_9 ⟨k, hk⟩ hc
    simp only at k8
    rw [← hki] at k8
    exact absurd k8 h51
  · obtain ⟨k1, k2, k3, k4, k5, k6, k7, k8⟩ := zU1 ⟨k, hk⟩ hc
    obtain ⟨m1, m2, m3, m4⟩ := cm_10 ⟨k, hk⟩ hc
    simp only at k1 k2 k3 k4 k5 k6 k7 k8 m1 m2 m3 m4
    rw [← hki] at k1 k2 k3 k4 k5 k6 k7 k8 m1 m2 m3 m4
    obtain ⟨y1, y2⟩ := hb k6
    obtain ⟨y3, y4⟩ := h.oth k7 k8
    have y6 := h.sec k3
    have hI : immW i.op i.imm = 0 := by unfold immW; rw [k5, if_neg (by decide), k4, if_neg (by decide)]
    refine zh7 h hI (by omega) (by omega) (.inr (by omega)) (.inr (by omega)) (.inr (by omega)) (by omega) (by omega) ?_
    rw [y1, y2, y3, y4, y6, show (0 : Int) / 1048576 = 0 by decide, upJ_u t2.1]; omega
  · obtain ⟨k1, k2, k3, k4, k5, k6, k7, k8⟩ := zQ2 ⟨k, hk⟩ hc
    obtain ⟨m1, m2, m3⟩ := cm_11 ⟨k, hk⟩ hc
    simp only at k1 k2 k3 k4 k5 k6 k7 k8 m1 m2 m3
    have h53 := zv3 ⟨k, hk⟩ (by show clL.getD k 99 ≠ 10; omega)
    simp only at h53
    rw [← hki] at k1 k2 k3 k4 k5 k6 k7 k8 m1 m2 m3 h53
    have hu := hua m3 k6 h53
    obtain ⟨y3, y4⟩ := h.oth k7 k8
    have hI : immW i.op i.imm = 0 := by unfold immW; rw [k5, if_neg (by decide), k4, if_neg (by decide)]
    refine zh7 h hI (by omega) (by omega) (.inr (by omega)) (.inr (by omega)) (.inr (by omega)) (by omega) (by omega) ?_
    rw [y3, y4, hu, show (0 : Int) / 1048576 = 0 by decide, upJ_a (by omega) (by omega) (by omega) (by omega)]; omega
  · obtain ⟨k1, k2, k3, k4, k5, k6, k7, k8⟩ := zV3 ⟨k, hk⟩ hc
    obtain ⟨m1, m2, m3⟩ := cm_12 ⟨k, hk⟩ hc
    simp only at k1 k2 k3 k4 k5 k6 k7 k8 m1 m2 m3
    have h53 := zv3 ⟨k, hk⟩ (by show clL.getD k 99 ≠ 10; omega)
    simp only at h53
    rw [← hki] at k1 k2 k3 k4 k5 k6 k7 k8 m1 m2 m3 h53
    have hu := hua m3 k6 h53
    obtain ⟨y3, y4⟩ := h.oth k7 k8
    have hI : immW i.op i.imm = 0 := by unfold immW; rw [k5, if_neg (by decide), k4, if_neg (by decide)]
    refine zh7 h hI (by omega) (by omega) (.inr (by omega)) (.inr (by omega)) (.inr (by omega)) (by omega) (by omega) ?_
    rw [y3, y4, hu, show (0 : Int) / 1048576 = 0 by decide, upJ_a (by omega) (by omega) (by omega) (by omega)]; omega
end Go.Proofs.YtmamblgpekafbaaGreatDoor
namespace Go.Proofs.YtmamblgpekafbaaGreatDoor
open Go.RowKit
theorem or_u32 {a b : Int} (a0 : 0 ≤ a) (a1 : a < 4294967296) (b0 : 0 ≤ b) (b1 : b < 4294967296) : bits .or .u32 a b = orI a b := by
  obtain ⟨A, rfl⟩ := Int.eq_ofNat_of_zero_le a0
  obtain ⟨B, rfl⟩ := Int.eq_ofNat_of_zero_le b0
  exact u32_or_nat A B (by omega) (by omega)
theorem at_c (lo p x : Int) (h : (lo = 7 ∧ p = 128) ∨ (lo = 12 ∧ p = 4096) ∨ (lo = 15 ∧ p = 32768) ∨ (lo = 20 ∧ p = 1048576) ∨ (lo = 24 ∧ p = 16777216) ∨ (lo = 25 ∧ p = 33554432) ∨ (lo = 26 ∧ p = 67108864)) (h0 : 0 ≤ x) (h1 : x * p < 4294967296) (w : World) :
    Calls Tryz.prog 97 #[.int .i64 lo, .int .i64 x] w fun e w' => e = .returned (.int .u32 (x * p)) ∧ w = w' := by
  rcases h with ⟨rfl, rfl⟩ | ⟨rfl, rfl⟩ | ⟨rfl, rfl⟩ | ⟨rfl, rfl⟩ | ⟨rfl, rfl⟩ | ⟨rfl, rfl⟩ | ⟨rfl, rfl⟩
  all_goals
    have H0 := Lib.hid h0
    have H1 := Lib.hid h1
    clear h0 h1
    go_enter Tryz.func97, Tryz.ntmps97
    go_wp2
    go_ret
    refine ⟨za1 ?_, rfl⟩
    have h0 := H0.out
    have h1 := H1.out
    clear H0 H1
    omega
theorem flag_c (lo p : Int) (b : Bool) (h : (lo = 25 ∧ p = 33554432) ∨ (lo = 26 ∧ p = 67108864)) (w : World) :
    Calls Tryz.prog 100 #[.int .i64 lo, .bool b] w fun e w' => e = .returned (.int .u32 ((if b then 1 else 0) * p)) ∧ w = w' := by
  have HA := fun w => at_c lo p 1 (by omega) (by omega) (by omega) w
  rw [Int.one_mul] at HA
  clear h
  cases b
  · go_enter Tryz.func100, Tryz.ntmps100
    go_wp2
    go_ret
    exact ⟨za1 (by simp), rfl⟩
  · go_enter Tryz.func100, Tryz.ntmps100
    go_wp2_with (first
      | (go_at_call 97; refine (HA _).mono ?_; rintro e w' ⟨rfl, rfl⟩))
    go_ret
    exact ⟨za1 (by simp), rfl⟩
theorem zp9 (l : List Int) (h : ∀ x ∈ l, 0 ≤ x ∧ x < 4294967296) : ∀ k : Nat, 0 ≤ zo9 (l.take k) ∧ zo9 (l.take k) < 4294967296
  | 0 => by rw [List.take_zero]; exact ⟨Int.le_refl 0, by decide⟩
  | k + 1 => by
    by_cases hk : k < l.length
    · rw [List.take_succ_eq_append_getElem hk, zA5]
      have := zp9 l h k
      have h2 := h _ (List.getElem_mem hk)
      exact ⟨zq2 _ _, zz8 32 this.2 h2.2⟩
    · have := zp9 l h k
      rw [List.take_of_length_le (by omega)] at this ⊢
      exact this
theorem join_c (A : Option Addr) (cap : Nat) (l : List Int) (w : World) (hl : l.length ≤ 1000) (hr : Rd w w.heap.size A (l.map (Value.int .u32))) (hb : ∀ x ∈ l, 0 ≤ x ∧ x < 4294967296) :
    Calls Tryz.prog 95 #[.slice A l.length cap] w fun e w' => e = .returned (.int .u32 (zo9 l)) ∧ w = w' := by
  have HR := Lib.hid hr
  have HB := Lib.hid hb
  have HJ := Lib.hid (zp9 l hb)
  clear hr hb
  go_enter Tryz.func95, Tryz.ntmps95
  go_wp2
  go_loop [3, 8] (fun v3 v8 => ∃ k : Nat, k ≤ l.length ∧ v8 = .int .i64 k ∧ ∃ x : Int, v3 = .int .u32 x ∧ Hid (x = zo9 (l.take k))) (fun _ v8 => l.length - (intOf v8).toNat)
  case atStart => exact ⟨0, by omega, rfl, 0, rfl, (show Hid _ from rfl)⟩
  case round =>
    obtain ⟨k, hk, rfl, x, rfl, HX⟩ := hrel
    by_cases hlt : k < l.length
    · obtain ⟨b, off, rfl, _, hc⟩ := HR.out.at (i := k) (by rw [List.length_map]; exact hlt)
      simp only [List.getElem_map] at hc
      have hltI : (k : Int) < l.length := by omega
      have hx := HJ.out k
      rw [← HX.out] at hx
      have hy := HB.out _ (List.getElem_mem hlt)
      have hor := or_u32 hx.1 hx.2 hy.1 hy.2
      have HV : Hid (orI x l[k] = zo9 (l.take (k + 1))) := by show _ = _; rw [List.take_succ_eq_append_getElem hlt, zA5, ← HX.out]
      generalize l[k] = y at *
      clear hx hy
      go_wp2
      go_round
      case rel => exact ⟨k + 1, by omega, by go_num, _, rfl, (show Hid _ from by show _ = _; first | exact hor.trans HV.out | exact HV.out)⟩
      case measure => simp [intOf]; omega
    · have HV : Hid (x = zo9 l) := by show _ = _; rw [HX.out, List.take_of_length_le (by omega)]
      go_wp2
      go_ret
      exact ⟨za1 HV.out, rfl⟩
end Go.Proofs.YtmamblgpekafbaaGreatDoor
