/- An instruction's text, a text's words, and what is told of them: plain. Nothing here speaks of a program. -/
import Derived.Test.YtolmecnjolfjgaaGreatDoorDg
import Derived.Test.YtolmecnjolfjgaaGreatDoorRg
set_option maxRecDepth 100000
namespace Go.Proofs.YtolmecnjolfjgaaGreatDoor
open Go.RowKit

/-! ### Texts -/
def annT (aq rl : Bool) : List UInt8 := (if aq || rl then [46] else []) ++ (if aq then [97, 113] else []) ++ (if rl then [114, 108] else [])
def cmS : List UInt8 := [44, 32]
def tailT (i : Ins) : List UInt8 :=
  if srt i.op = 1 ∨ i.op = 3 then [32] ++ regT i.rd ++ cmS ++ digI i.imm
  else if srt i.op = 2 ∨ srt i.op = 6 then [32] ++ regT i.rd ++ cmS ++ regT i.rs1 ++ cmS ++ digI i.imm
  else if srt i.op = 3 then [32] ++ regT i.rs1 ++ cmS ++ regT i.rs2 ++ cmS ++ digI i.imm
  else if srt i.op = 4 then [32] ++ regT i.rd ++ cmS ++ digI i.imm ++ [40] ++ regT i.rs1 ++ [41]
  else if srt i.op = 5 then [32] ++ regT i.rs2 ++ cmS ++ digI i.imm ++ [40] ++ regT i.rs1 ++ [41]
  else if srt i.op = 7 then [32] ++ regT i.rd ++ cmS ++ regT i.rs1 ++ cmS ++ regT i.rs2
  else if i.op = 50 then [32] ++ setT i.pred ++ cmS ++ setT i.succ
  else if srt i.op = 10 then [32] ++ regT i.rd ++ [44, 32, 40] ++ regT i.rs1 ++ [41]
  else if 10 < srt i.op then [32] ++ regT i.rd ++ cmS ++ regT i.rs2 ++ [44, 32, 40] ++ regT i.rs1 ++ [41]
  else []
def textT (i : Ins) : List UInt8 := nmO i.op ++ annT i.aq i.rl ++ tailT i

/-! ### A text's words -/
def isW (c : UInt8) : Bool := decide ((97 ≤ c.toNat ∧ c.toNat ≤ 122) ∨ (48 ≤ c.toNat ∧ c.toNat ≤ 57) ∨ c = 46 ∨ c = 45)
def putW (w : List UInt8) : List (List UInt8) := if w = [] then [] else [w]
def wordsA : List UInt8 → List UInt8 → List (List UInt8)
  | [], w => putW w
  | c :: s, w => if isW c then wordsA s (w ++ [c]) else putW w ++ wordsA s []
def wordsT (s : List UInt8) : List (List UInt8) := wordsA s []
def AllW (l : List UInt8) : Prop := ∀ c ∈ l, isW c = true
instance (l : List UInt8) : Decidable (AllW l) := by unfold AllW; infer_instance
theorem AllW.app {a b : List UInt8} (ha : AllW a) (hb : AllW b) : AllW (a ++ b) := fun c h => (List.mem_append.1 h).elim (ha c) (hb c)
theorem wordsA_all (a s w : List UInt8) (h : AllW a) : wordsA (a ++ s) w = wordsA s (w ++ a) := by
  induction a generalizing w with
  | nil => simp
  | cons c t ih =>
    rw [List.cons_append, wordsA, if_pos (h c List.mem_cons_self), ih _ (fun c hc => h c (List.mem_cons_of_mem _ hc)), List.append_assoc]
    rfl
theorem wordsA_cut (c : UInt8) (s w : List UInt8) (h : isW c = false) : wordsA (c :: s) w = putW w ++ wordsA s [] := by
  rw [wordsA, if_neg (by rw [h]; decide)]
theorem putW_ne {w : List UInt8} (h : w ≠ []) : putW w = [w] := by unfold putW; rw [if_neg h]
/-- A piece with a sign behind it. -/
theorem words_piece (a s : List UInt8) (c : UInt8) (h : AllW a) (hn : a ≠ []) (hc : isW c = false) : wordsA (a ++ c :: s) [] = a :: wordsA s [] := by
  rw [wordsA_all a _ _ h, List.nil_append, wordsA_cut c s a hc, putW_ne hn]
  rfl
theorem words_sign (s : List UInt8) (c : UInt8) (hc : isW c = false) : wordsA (c :: s) [] = wordsA s [] := by
  rw [wordsA_cut c s [] hc]
  rfl
theorem words_last (a : List UInt8) (h : AllW a) (hn : a ≠ []) : wordsA a [] = [a] := by
  have := wordsA_all a [] [] h
  rw [List.append_nil] at this
  rw [this, List.nil_append, wordsA, putW_ne hn]
theorem words_nil : wordsA [] [] = [] := rfl
theorem isW_dig {c : UInt8} (h : isDig c = true) : isW c = true := by
  have := of_decide_eq_true h
  exact decide_eq_true (.inr (.inl this))
theorem allW_digI (n : Int) : AllW (digI n) := by
  intro c hc
  unfold digI at hc
  split at hc
  · rcases List.mem_cons.1 hc with rfl | h
    · decide
    · exact isW_dig (digU_all _ c h)
  · exact isW_dig (digU_all _ c hc)
theorem digI_ne (n : Int) : digI n ≠ [] := by
  unfold digI
  split
  · exact List.cons_ne_nil _ _
  · exact digU_ne _
theorem allW_regT (r : Int) : AllW (regT r) := by
  intro c hc
  rcases List.mem_cons.1 hc with rfl | h
  · decide
  · exact allW_digI r c h
theorem regT_ne (r : Int) : regT r ≠ [] := List.cons_ne_nil _ _
theorem allW_sets : ∀ n : Fin 16, AllW (setT (n.val : Int)) ∧ setT (n.val : Int) ≠ [] := by decide +kernel
theorem allW_set {n : Int} (h : 0 ≤ n ∧ n < 16) : AllW (setT n) ∧ setT n ≠ [] := by
  have := allW_sets ⟨n.toNat, by omega⟩
  rw [show ((n.toNat : Nat) : Int) = n by omega] at this
  exact this
theorem allW_names : ∀ k : Fin 75, (AllW (nmO ((k.val : Int) + 1)) ∧ nmO ((k.val : Int) + 1) ≠ []) := by decide +kernel
theorem allW_head {op : Int} (h : 1 ≤ op ∧ op ≤ 75) (aq rl : Bool) : AllW (nmO op ++ annT aq rl) ∧ nmO op ++ annT aq rl ≠ [] := by
  have := allW_names ⟨op.toNat - 1, by omega⟩
  rw [show ((op.toNat - 1 : Nat) : Int) + 1 = op by omega] at this
  refine ⟨this.1.app ?_, fun e => this.2 (List.append_eq_nil_iff.1 e).1⟩
  cases aq <;> cases rl <;> decide
/-- An instruction's pieces. -/
def piecesT (i : Ins) : List (List UInt8) :=
  if srt i.op = 1 ∨ i.op = 3 then [regT i.rd, digI i.imm]
  else if srt i.op = 2 ∨ srt i.op = 6 then [regT i.rd, regT i.rs1, digI i.imm]
  else if srt i.op = 3 then [regT i.rs1, regT i.rs2, digI i.imm]
  else if srt i.op = 4 then [regT i.rd, digI i.imm, regT i.rs1]
  else if srt i.op = 5 then [regT i.rs2, digI i.imm, regT i.rs1]
  else if srt i.op = 7 then [regT i.rd, regT i.rs1, regT i.rs2]
  else if i.op = 50 then [setT i.pred, setT i.succ]
  else if srt i.op = 10 then [regT i.rd, regT i.rs1]
  else if 10 < srt i.op then [regT i.rd, regT i.rs2, regT i.rs1]
  else []
theorem words_text {i : Ins} (h : Rgt i) : wordsT (textT i) = (nmO i.op ++ annT i.aq i.rl) :: piecesT i := by
  obtain ⟨hA, hn⟩ := allW_head h.op i.aq i.rl
  have s32 : isW 32 = false := by decide
  have s44 : isW 44 = false := by decide
  have s40 : isW 40 = false := by decide
  have s41 : isW 41 = false := by decide
  have aR := allW_regT
  have nR := regT_ne
  have aD := allW_digI
  have nD := digI_ne
  unfold wordsT textT tailT piecesT
  generalize nmO i.op ++ annT i.aq i.rl = hd at *
  unfold cmS
  by_cases c1 : srt i.op = 1 ∨ i.op = 3
  · rw [if_pos c1, if_pos c1]
    simp only [List.append_assoc, List.cons_append, List.nil_append]
    rw [words_piece hd _ _ hA hn s32, words_piece _ _ _ (aR _) (nR _) s44, words_sign _ _ s32, words_last _ (aD _) (nD _)]
  rw [if_neg c1, if_neg c1]
  by_cases c2 : srt i.op = 2 ∨ srt i.op = 6
  · rw [if_pos c2, if_pos c2]
    simp only [List.append_assoc, List.cons_append, List.nil_append]
    rw [words_piece hd _ _ hA hn s32, words_piece _ _ _ (aR _) (nR _) s44, words_sign _ _ s32, words_piece _ _ _ (aR _) (nR _) s44, words_sign _ _ s32, words_last _ (aD _) (nD _)]
  rw [if_neg c2, if_neg c2]
  by_cases c3 : srt i.op = 3
  · rw [if_pos c3, if_pos c3]
    simp only [List.append_assoc, List.cons_append, List.nil_append]
    rw [words_piece hd _ _ hA hn s32, words_piece _ _ _ (aR _) (nR _) s44, words_sign _ _ s32, words_piece _ _ _ (aR _) (nR _) s44, words_sign _ _ s32, words_last _ (aD _) (nD _)]
  rw [if_neg c3, if_neg c3]
  by_cases c4 : srt i.op = 4
  · rw [if_pos c4, if_pos c4]
    simp only [List.append_assoc, List.cons_append, List.nil_append]
    rw [words_piece hd _ _ hA hn s32, words_piece _ _ _ (aR _) (nR _) s44, words_sign _ _ s32, words_piece _ _ _ (aD _) (nD _) s40, words_piece _ _ _ (aR _) (nR _) s41, words_nil]
  rw [if_neg c4, if_neg c4]
  by_cases c5 : srt i.op = 5
  · rw [if_pos c5, if_pos c5]
    simp only [List.append_assoc, List.cons_append, List.nil_append]
    rw [words_piece hd _ _ hA hn s32, words_piece _ _ _ (aR _) (nR _) s44, words_sign _ _ s32, words_piece _ _ _ (aD _) (nD _) s40, words_piece _ _ _ (aR _) (nR _) s41, words_nil]
  rw [if_neg c5, if_neg c5]
  by_cases c7 : srt i.op = 7
  · rw [if_pos c7, if_pos c7]
    simp only [List.append_assoc, List.cons_append, List.nil_append]
    rw [words_piece hd _ _ hA hn s32, words_piece _ _ _ (aR _) (nR _) s44, words_sign _ _ s32, words_piece _ _ _ (aR _) (nR _) s44, words_sign _ _ s32, words_last _ (aR _) (nR _)]
  rw [if_neg c7, if_neg c7]
  by_cases c8 : i.op = 50
  · have hf := h.fen c8
    obtain ⟨aP, nP⟩ := allW_set ⟨hf.1, hf.2.1⟩
    obtain ⟨aS, nS⟩ := allW_set ⟨hf.2.2.1, hf.2.2.2⟩
    rw [if_pos c8, if_pos c8]
    simp only [List.append_assoc, List.cons_append, List.nil_append]
    rw [words_piece hd _ _ hA hn s32, words_piece _ _ _ aP nP s44, words_sign _ _ s32, words_last _ aS nS]
  rw [if_neg c8, if_neg c8]
  by_cases c9 : srt i.op = 10
  · rw [if_pos c9, if_pos c9]
    simp only [List.append_assoc, List.cons_append, List.nil_append]
    rw [words_piece hd _ _ hA hn s32, words_piece _ _ _ (aR _) (nR _) s44, words_sign _ _ s32, words_sign _ _ s40, words_piece _ _ _ (aR _) (nR _) s41, words_nil]
  rw [if_neg c9, if_neg c9]
  by_cases c10 : 10 < srt i.op
  · rw [if_pos c10, if_pos c10]
    simp only [List.append_assoc, List.cons_append, List.nil_append]
    rw [words_piece hd _ _ hA hn s32, words_piece _ _ _ (aR _) (nR _) s44, words_sign _ _ s32, words_piece _ _ _ (aR _) (nR _) s44, words_sign _ _ s32, words_sign _ _ s40, words_piece _ _ _ (aR _) (nR _) s41, words_nil]
  rw [if_neg c10, if_neg c10, List.append_nil, words_last _ hA hn]

/-! ### What is made of words -/
/-- What a word behind the first one turns: the n-th, of an operation. -/
structure RdS where
  i : Ins
  regs : Int
  nums : Int
def putR (op : Int) (regs r : Int) (i : Ins) : Ins :=
  if (regs = 1 ∧ srt op = 3) ∨ (regs = 2 ∧ (op = 4 ∨ srt op = 4 ∨ srt op = 5 ∨ srt op = 6 ∨ srt op = 7 ∨ srt op = 10)) ∨ (regs = 3 ∧ 10 < srt op) then { i with rs1 := r }
  else if (regs = 1 ∧ srt op = 5) ∨ (regs = 2 ∧ (srt op = 3 ∨ 10 < srt op)) ∨ (regs = 3 ∧ srt op = 7) then { i with rs2 := r }
  else if regs = 1 then { i with rd := r }
  else i
def setR (op : Int) (n : Nat) (w : List UInt8) (i : Ins) : Ins :=
  if op = 50 ∧ n = 1 then { i with pred := (bitsT w : Int) } else if op = 50 ∧ n = 2 then { i with succ := (bitsT w : Int) } else i
def stepR (op : Int) (n : Nat) (w : List UInt8) (s : RdS) : RdS :=
  let i := setR op n w s.i
  let s1 : RdS := match regS w with
    | some r => ⟨putR op (s.regs + 1) r i, s.regs + 1, s.nums⟩
    | none => ⟨i, s.regs, s.nums⟩
  match numV w with
  | some x => if op = 50 then s1 else ⟨if s1.nums + 1 = 1 then { s1.i with imm := x } else s1.i, s1.regs, s1.nums + 1⟩
  | none => s1
def foldR (op : Int) : Nat → List (List UInt8) → RdS → RdS
  | _, [], s => s
  | n, w :: t, s => foldR op (n + 1) t (stepR op n w s)
def baseR (op : Int) (aq rl : Bool) : Ins := ⟨op, 0, 0, 0, 0, aq, rl, if op = 51 then 3 else 0, if op = 51 then 3 else 0⟩
def readR (op : Int) (aq rl : Bool) (ws : List (List UInt8)) : Ins := (foldR op 1 ws.tail ⟨baseR op aq rl, 0, 0⟩).i
theorem num_regT (r : Int) : numV (regT r) = none := by
  cases h : numV (regT r) with
  | none => rfl
  | some n =>
    have e := ((num_iff _ _).1 h).2
    unfold regT at e
    have : ∀ l : List UInt8, digI n ≠ 120 :: l := by
      intro l e
      have hd : (digI n).head? = some 120 := by rw [e]; rfl
      unfold digI at hd
      split at hd
      · cases hd
      · exact absurd (head_dig hd) (by decide)
    exact absurd e (this _)
theorem reg_digI0 (n : Int) : regS (digI n) = none := by
  cases h : regS (digI n) with
  | none => rfl
  | some r =>
    have e := ((reg_iff _ _).1 h).2
    have hn := num_regT r
    have hd : (digI n).head? = some 120 := by rw [← e]; rfl
    unfold digI at hd
    split at hd
    · cases hd
    · exact absurd (head_dig hd) (by decide)
theorem reg_sets : ∀ n : Fin 16, regS (setT (n.val : Int)) = none := by decide +kernel
theorem reg_set {n : Int} (h : 0 ≤ n ∧ n < 16) : regS (setT n) = none := by
  have := reg_sets ⟨n.toNat, by omega⟩
  rw [show ((n.toNat : Nat) : Int) = n by omega] at this
  exact this
theorem bits_set' {n : Int} (h : 0 ≤ n ∧ n < 16) : (bitsT (setT n) : Int) = n := by
  have := bits_set ⟨n.toNat, by omega⟩
  rw [show ((n.toNat : Nat) : Int) = n by omega] at this
  rw [this]
  show ((n.toNat : Nat) : Int) = n
  omega
/-- A register's word; a number's; a set's. -/
theorem step_reg {op : Int} {n : Nat} {r : Int} {s : RdS} (hr : 0 ≤ r ∧ r ≤ 31) (h50 : op ≠ 50) : stepR op n (regT r) s = ⟨putR op (s.regs + 1) r s.i, s.regs + 1, s.nums⟩ := by
  unfold stepR setR
  rw [num_regT, (reg_iff _ _).2 ⟨hr, rfl⟩, if_neg (by omega), if_neg (by omega)]
theorem step_num {op : Int} {n : Nat} {x : Int} {s : RdS} (hx : I64 x) (h50 : op ≠ 50) (h0 : s.nums = 0) : stepR op n (digI x) s = ⟨{ s.i with imm := x }, s.regs, 1⟩ := by
  unfold stepR setR
  rw [num_digI hx, reg_digI0, if_neg (by omega), if_neg (by omega)]
  simp only [h0, if_neg h50]
  rfl
theorem step_set {n : Nat} {x : Int} {s : RdS} (hx : 0 ≤ x ∧ x < 16) : stepR 50 n (setT x) s = ⟨setR 50 n (setT x) s.i, s.regs, s.nums⟩ := by
  unfold stepR
  rw [reg_set hx]
  cases numV (setT x) with
  | none => rfl
  | some y => simp
/-! ### What is read of an instruction's text is it -/
theorem imm_I64 {i : Ins} (h : Rgt i) : I64 i.imm := by
  have hf : 0 ≤ fmV i.op ∧ fmV i.op ≤ 5 ∧ (shV i.op = 0 ∨ shV i.op = 5 ∨ shV i.op = 6) := by
    have hall : ∀ k : Fin 75, 0 ≤ fmV ((k.val : Int) + 1) ∧ fmV ((k.val : Int) + 1) ≤ 5 ∧ (shV ((k.val : Int) + 1) = 0 ∨ shV ((k.val : Int) + 1) = 5 ∨ shV ((k.val : Int) + 1) = 6) := by decide +kernel
    have := hall ⟨i.op.toNat - 1, by have := h.op; omega⟩
    rw [show ((i.op.toNat - 1 : Nat) : Int) + 1 = i.op by have := h.op; omega] at this
    exact this
  unfold I64
  rcases hf.2.2 with e | e | e
  · by_cases e0 : fmV i.op = 0
    · rw [h.non e e0]; decide
    · have := h.may (by omega)
      unfold May at this
      omega
  · have := h.sh5 e; omega
  · have := h.sh6 e; omega
theorem imm_none {i : Ins} (h : Rgt i) (hs : 7 ≤ srt i.op) : i.imm = 0 := by
  have hall : ∀ k : Fin 75, 7 ≤ srt ((k.val : Int) + 1) → fmV ((k.val : Int) + 1) = 0 ∧ shV ((k.val : Int) + 1) = 0 := by decide +kernel
  have := hall ⟨i.op.toNat - 1, by have := h.op; omega⟩
  rw [show ((i.op.toNat - 1 : Nat) : Int) + 1 = i.op by have := h.op; omega] at this
  exact h.non (this hs).2 (this hs).1
theorem put_1 {op regs r : Int} {i : Ins} (h : (regs = 1 ∧ srt op = 3) ∨ (regs = 2 ∧ (op = 4 ∨ srt op = 4 ∨ srt op = 5 ∨ srt op = 6 ∨ srt op = 7 ∨ srt op = 10)) ∨ (regs = 3 ∧ 10 < srt op)) : putR op regs r i = { i with rs1 := r } := if_pos h
theorem put_2 {op regs r : Int} {i : Ins} (h : ¬ ((regs = 1 ∧ srt op = 3) ∨ (regs = 2 ∧ (op = 4 ∨ srt op = 4 ∨ srt op = 5 ∨ srt op = 6 ∨ srt op = 7 ∨ srt op = 10)) ∨ (regs = 3 ∧ 10 < srt op)))
    (h' : (regs = 1 ∧ srt op = 5) ∨ (regs = 2 ∧ (srt op = 3 ∨ 10 < srt op)) ∨ (regs = 3 ∧ srt op = 7)) : putR op regs r i = { i with rs2 := r } := by
  unfold putR
  rw [if_neg h, if_pos h']
theorem put_d {op regs r : Int} {i : Ins} (h : regs = 1) (h3 : srt op ≠ 3) (h5 : srt op ≠ 5) : putR op regs r i = { i with rd := r } := by
  unfold putR
  rw [if_neg (by omega), if_neg (by omega), if_pos h]
theorem read_text {i : Ins} (h : Rgt i) : readR i.op i.aq i.rl (wordsT (textT i)) = i := by
  rw [words_text h]
  unfold readR
  rw [List.tail_cons]
  have hs := srt_spec i.op
  have hop := h.op
  have hI := imm_I64 h
  have hn := imm_none h
  have w1 : wrB i.op = false → i.rd = 0 := h.wr
  have w2 : firB i.op = false → i.rs1 = 0 := h.fir
  have w3 : secB i.op = false → i.rs2 = 0 := h.sec
  unfold wrB at w1
  unfold firB at w2
  unfold secB at w3
  rw [decide_eq_false_iff_not] at w1 w2 w3
  have hp := h.oth
  have ht := h.tso
  have hf := h.fen
  have r1 := h.rd
  have r2 := h.rs1
  have r3 := h.rs2
  have ha := h.at1
  obtain ⟨op, rd, rs1, rs2, imm, aq, rl, pred, succ⟩ := i
  simp only at *
  clear h
  unfold piecesT baseR
  simp only
  by_cases c1 : srt op = 1 ∨ op = 3
  · have n50 : op ≠ 50 := by omega
    have n51 : op ≠ 51 := by omega
    obtain ⟨p1, p2⟩ := hp n50 n51
    rw [if_pos c1]
    simp only [foldR, step_reg r1 n50, step_num hI n50, if_neg n51]
    rw [put_d (regs := 0 + 1) (by omega) (by omega) (by omega), w2 (by omega), w3 (by omega), p1, p2]
  rw [if_neg c1]
  by_cases c2 : srt op = 2 ∨ srt op = 6
  · have n50 : op ≠ 50 := by omega
    have n51 : op ≠ 51 := by omega
    obtain ⟨p1, p2⟩ := hp n50 n51
    rw [if_pos c2]
    simp only [foldR, step_reg r1 n50, step_reg r2 n50, step_num hI n50, if_neg n51]
    rw [put_d (regs := 0 + 1) (by omega) (by omega) (by omega), put_1 (by omega), w3 (by omega), p1, p2]
  rw [if_neg c2]
  by_cases c3 : srt op = 3
  · have n50 : op ≠ 50 := by omega
    have n51 : op ≠ 51 := by omega
    obtain ⟨p1, p2⟩ := hp n50 n51
    rw [if_pos c3]
    simp only [foldR, step_reg r2 n50, step_reg r3 n50, step_num hI n50, if_neg n51]
    rw [put_1 (regs := 0 + 1) (by omega), put_2 (by omega) (by omega), w1 (by omega), p1, p2]
  rw [if_neg c3]
  by_cases c4 : srt op = 4
  · have n50 : op ≠ 50 := by omega
    have n51 : op ≠ 51 := by omega
    obtain ⟨p1, p2⟩ := hp n50 n51
    rw [if_pos c4]
    simp only [foldR, step_reg r1 n50, step_reg r2 n50, step_num hI n50, if_neg n51]
    rw [put_d (regs := 0 + 1) (by omega) (by omega) (by omega), put_1 (by omega), w3 (by omega), p1, p2]
  rw [if_neg c4]
  by_cases c5 : srt op = 5
  · have n50 : op ≠ 50 := by omega
    have n51 : op ≠ 51 := by omega
    obtain ⟨p1, p2⟩ := hp n50 n51
    rw [if_pos c5]
    simp only [foldR, step_reg r3 n50, step_reg r2 n50, step_num hI n50, if_neg n51]
    rw [put_2 (regs := 0 + 1) (by omega) (by omega), put_1 (by omega), w1 (by omega), p1, p2]
  rw [if_neg c5]
  by_cases c7 : srt op = 7
  · have n50 : op ≠ 50 := by omega
    have n51 : op ≠ 51 := by omega
    obtain ⟨p1, p2⟩ := hp n50 n51
    rw [if_pos c7]
    simp only [foldR, step_reg r1 n50, step_reg r2 n50, step_reg r3 n50, if_neg n51]
    rw [put_d (regs := 0 + 1) (by omega) (by omega) (by omega), put_1 (regs := 0 + 1 + 1) (by omega), put_2 (by omega) (by omega), hn (by omega), p1, p2]
  rw [if_neg c7]
  by_cases c8 : op = 50
  · subst c8
    have hf := hf rfl
    rw [if_pos rfl]
    simp only [foldR, step_set ⟨hf.1, hf.2.1⟩, step_set ⟨hf.2.2.1, hf.2.2.2⟩, setR]
    rw [w1 (by omega), w2 (by omega), w3 (by omega), hn (by omega)]
    simp [bits_set' ⟨hf.1, hf.2.1⟩, bits_set' ⟨hf.2.2.1, hf.2.2.2⟩]
  rw [if_neg c8]
  by_cases c9 : srt op = 10
  · have n51 : op ≠ 51 := by omega
    obtain ⟨p1, p2⟩ := hp c8 n51
    rw [if_pos c9]
    simp only [foldR, step_reg r1 c8, step_reg r2 c8, if_neg n51]
    rw [put_d (regs := 0 + 1) (by omega) (by omega) (by omega), put_1 (by omega), w3 (by omega), hn (by omega), p1, p2]
  rw [if_neg c9]
  by_cases c10 : 10 < srt op
  · have n51 : op ≠ 51 := by omega
    obtain ⟨p1, p2⟩ := hp c8 n51
    rw [if_pos c10]
    simp only [foldR, step_reg r1 c8, step_reg r2 c8, step_reg r3 c8, if_neg n51]
    rw [put_d (regs := 0 + 1) (by omega) (by omega) (by omega), put_2 (regs := 0 + 1 + 1) (by omega) (by omega), put_1 (by omega), hn (by omega), p1, p2]
  rw [if_neg c10]
  simp only [foldR]
  rw [w1 (by omega), w2 (by omega), w3 (by omega), hn (by omega)]
  by_cases c11 : op = 51
  · rw [if_pos c11, (ht c11).1, (ht c11).2]
  · rw [if_neg c11, (hp c8 c11).1, (hp c8 c11).2]
/-! ### Unlike instructions have unlike texts -/
def stripT (l : List UInt8) : List UInt8 × Bool × Bool :=
  if l.drop (l.length - 5) = [46, 97, 113, 114, 108] then (l.take (l.length - 5), true, true)
  else if l.drop (l.length - 3) = [46, 97, 113] then (l.take (l.length - 3), true, false)
  else if l.drop (l.length - 3) = [46, 114, 108] then (l.take (l.length - 3), false, true)
  else (l, false, false)
theorem strip_heads : ∀ k : Fin 75, ∀ aq rl : Bool, stripT (nmO ((k.val : Int) + 1) ++ annT aq rl) = (nmO ((k.val : Int) + 1), aq, rl) := by decide +kernel
theorem names_unlike : ∀ k j : Fin 75, nmO ((k.val : Int) + 1) = nmO ((j.val : Int) + 1) → k = j := by decide +kernel
theorem nmO_inj {op op' : Int} (h : 1 ≤ op ∧ op ≤ 75) (h' : 1 ≤ op' ∧ op' ≤ 75) (e : nmO op = nmO op') : op = op' := by
  have := names_unlike ⟨op.toNat - 1, by omega⟩ ⟨op'.toNat - 1, by omega⟩
  rw [show ((op.toNat - 1 : Nat) : Int) + 1 = op by omega, show ((op'.toNat - 1 : Nat) : Int) + 1 = op' by omega] at this
  have := Fin.mk.inj (this e)
  omega
theorem head_inj {op op' : Int} {aq rl aq' rl' : Bool} (h : 1 ≤ op ∧ op ≤ 75) (h' : 1 ≤ op' ∧ op' ≤ 75) (e : nmO op ++ annT aq rl = nmO op' ++ annT aq' rl') : op = op' ∧ aq = aq' ∧ rl = rl' := by
  have s1 := strip_heads ⟨op.toNat - 1, by omega⟩ aq rl
  have s2 := strip_heads ⟨op'.toNat - 1, by omega⟩ aq' rl'
  rw [show ((op.toNat - 1 : Nat) : Int) + 1 = op by omega] at s1
  rw [show ((op'.toNat - 1 : Nat) : Int) + 1 = op' by omega] at s2
  rw [e, s2] at s1
  simp only [Prod.mk.injEq] at s1
  exact ⟨nmO_inj h h' s1.1.symm, s1.2.1.symm, s1.2.2.symm⟩
theorem text_inj {i k : Ins} (hi : Rgt i) (hk : Rgt k) (e : textT i = textT k) : i = k := by
  have w := congrArg wordsT e
  rw [words_text hi, words_text hk] at w
  obtain ⟨h1, h2, h3⟩ := head_inj hi.op hk.op (List.cons.inj w).1
  have r1 := read_text hi
  have r2 := read_text hk
  rw [← r1, ← r2, h1, h2, h3, e]
end Go.Proofs.YtolmecnjolfjgaaGreatDoor
