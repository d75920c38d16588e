/- What is read of a text, plain: it is the instruction that is right and whose text it is. -/
import Derived.Test.YtolmecnjolfjgaaGreatDoorPsl
set_option maxRecDepth 100000
namespace Go.Proofs.YtolmecnjolfjgaaGreatDoor
open Go.RowKit

theorem reg_get {p : List UInt8} (h : (regS p).isSome = true) : regT ((regS p).getD 0) = p := by
  obtain ⟨r, hr⟩ := Option.isSome_iff_exists.1 h
  rw [hr]
  exact ((reg_iff p r).1 hr).2
theorem num_get {p : List UInt8} (h : (numV p).isSome = true) : digI ((numV p).getD 0) = p := by
  obtain ⟨r, hr⟩ := Option.isSome_iff_exists.1 h
  rw [hr]
  exact ((num_iff p r).1 hr).2
theorem set_get {p : List UInt8} (h : (setO p).isSome = true) : setT ((setO p).getD 0) = p := by
  obtain ⟨r, hr⟩ := Option.isSome_iff_exists.1 h
  rw [hr]
  exact ((setO_iff p r).1 hr).2
theorem put_same {i : Ins} {c : UInt8} {p : List UInt8} (h : (putT i c p).2 = true) : partT (putT i c p).1 c = p := by
  unfold putT at h ⊢
  by_cases c1 : c = 100
  · rw [if_pos c1] at h ⊢; unfold partT; rw [if_pos c1]; exact reg_get h
  rw [if_neg c1] at h ⊢
  by_cases c2 : c = 97
  · rw [if_pos c2] at h ⊢; unfold partT; rw [if_neg c1, if_pos c2]; exact reg_get h
  rw [if_neg c2] at h ⊢
  by_cases c3 : c = 98
  · rw [if_pos c3] at h ⊢; unfold partT; rw [if_neg c1, if_neg c2, if_pos c3]; exact reg_get h
  rw [if_neg c3] at h ⊢
  by_cases c4 : c = 110
  · rw [if_pos c4] at h ⊢; unfold partT; rw [if_neg c1, if_neg c2, if_neg c3, if_pos c4]; exact num_get h
  rw [if_neg c4] at h ⊢
  by_cases c5 : c = 112
  · rw [if_pos c5] at h ⊢; unfold partT; rw [if_neg c1, if_neg c2, if_neg c3, if_neg c4, if_pos c5]; exact set_get h
  rw [if_neg c5] at h ⊢
  by_cases c6 : c = 115
  · rw [if_pos c6] at h ⊢; unfold partT; rw [if_neg c1, if_neg c2, if_neg c3, if_neg c4, if_neg c5, if_pos c6]; exact set_get h
  rw [if_neg c6] at h
  cases h
theorem put_other {i : Ins} {c d : UInt8} {p : List UInt8} (h : d ≠ c) : partT (putT i c p).1 d = partT i d := by
  unfold putT
  by_cases c1 : c = 100
  · subst c1; rw [if_pos rfl]; unfold partT; rw [if_neg h, if_neg h]
  rw [if_neg c1]
  by_cases c2 : c = 97
  · subst c2; rw [if_pos rfl]; unfold partT; rw [if_neg h, if_neg h]
  rw [if_neg c2]
  by_cases c3 : c = 98
  · subst c3; rw [if_pos rfl]; unfold partT; rw [if_neg h, if_neg h]
  rw [if_neg c3]
  by_cases c4 : c = 110
  · subst c4; rw [if_pos rfl]; unfold partT; rw [if_neg h, if_neg h]
  rw [if_neg c4]
  by_cases c5 : c = 112
  · subst c5; rw [if_pos rfl]; unfold partT; rw [if_neg h, if_neg h]
  rw [if_neg c5]
  by_cases c6 : c = 115
  · subst c6; rw [if_pos rfl]; unfold partT; rw [if_neg h, if_neg h]
  rw [if_neg c6]
theorem put_op (i : Ins) (c : UInt8) (p : List UInt8) : (putT i c p).1.op = i.op ∧ (putT i c p).1.aq = i.aq ∧ (putT i c p).1.rl = i.rl := by
  unfold putT
  (repeat' split) <;> exact ⟨rfl, rfl, rfl⟩
def putAll : Ins → List (UInt8 × List UInt8) → Bool → Ins × Bool
  | i, [], b => (i, b)
  | i, x :: l, b => putAll (putT i x.1 x.2).1 l ((putT i x.1 x.2).2 && b)
theorem putAll_sound (l : List (UInt8 × List UInt8)) : (l.map Prod.fst).Nodup → ∀ i b, (putAll i l b).2 = true → b = true ∧ (∀ x ∈ l, partT (putAll i l b).1 x.1 = x.2) ∧ (∀ d, d ∉ l.map Prod.fst → partT (putAll i l b).1 d = partT i d) ∧ (putAll i l b).1.op = i.op ∧ (putAll i l b).1.aq = i.aq ∧ (putAll i l b).1.rl = i.rl := by
  induction l with
  | nil => intro _ i b h; exact ⟨h, fun x hx => absurd hx List.not_mem_nil, fun d _ => rfl, rfl, rfl, rfl⟩
  | cons x l ih =>
    intro hn i b h
    rw [List.map_cons, List.nodup_cons] at hn
    rw [putAll] at h ⊢
    obtain ⟨h1, h2, h3, h4, h5, h6⟩ := ih hn.2 _ _ h
    rw [Bool.and_eq_true] at h1
    obtain ⟨o1, o2, o3⟩ := put_op i x.1 x.2
    refine ⟨h1.2, fun y hy => ?_, fun d hd => ?_, h4.trans o1, h5.trans o2, h6.trans o3⟩
    · rcases List.mem_cons.1 hy with rfl | hy
      · rw [h3 _ hn.1]; exact put_same h1.1
      · exact h2 y hy
    · rw [List.map_cons, List.mem_cons, not_or] at hd
      rw [h3 d hd.2]
      exact put_other hd.1

def tryN (name : List UInt8) (aq rl : Bool) : Int := if Lib.hasSuffix name (annT aq rl) then bynm (Lib.trimSuffix name (annT aq rl)) else 0
def namedK (name : List UInt8) : Int × Bool × Bool :=
  if tryN name false false ≠ 0 then (tryN name false false, false, false) else if tryN name false true ≠ 0 then (tryN name false true, false, true)
  else if tryN name true false ≠ 0 then (tryN name true false, true, false) else if tryN name true true ≠ 0 then (tryN name true true, true, true) else (0, false, false)
def namedT (name : List UInt8) : Ins := baseR (namedK name).1 (namedK name).2.1 (namedK name).2.2
theorem bynm_some {l : List UInt8} (h : bynm l ≠ 0) : (1 ≤ bynm l ∧ bynm l ≤ 75) ∧ nmO (bynm l) = l := by
  unfold bynm at h ⊢
  split at h
  · next hm =>
    have hl := List.idxOf_lt_length_of_mem hm
    rw [nmL_len] at hl
    rw [if_pos hm]
    refine ⟨⟨by omega, by omega⟩, ?_⟩
    unfold nmO
    rw [if_pos ⟨by omega, by omega⟩, show ((nmL.idxOf l : Int) + 1).toNat - 1 = nmL.idxOf l by omega, List.getD_eq_getElem?_getD, List.getElem?_eq_getElem (by rw [nmL_len]; exact hl)]
    exact List.getElem_idxOf (by rw [nmL_len]; exact hl)
  · exact absurd rfl h
theorem tryN_sound {name : List UInt8} {aq rl : Bool} (h : tryN name aq rl ≠ 0) : (1 ≤ tryN name aq rl ∧ tryN name aq rl ≤ 75) ∧ name = nmO (tryN name aq rl) ++ annT aq rl := by
  unfold tryN at h ⊢
  split at h
  · next hs =>
    rw [if_pos hs]
    obtain ⟨h1, h2⟩ := bynm_some h
    refine ⟨h1, ?_⟩
    rw [h2]
    unfold Lib.trimSuffix
    rw [if_pos hs]
    unfold Lib.hasSuffix at hs
    obtain ⟨t, ht⟩ := List.isSuffixOf_iff_suffix.1 hs
    rw [← ht, List.length_append, Nat.add_sub_cancel, List.take_left]
  · exact absurd rfl h
theorem named_sound {name : List UInt8} (h : (namedT name).op ≠ 0) : (1 ≤ (namedT name).op ∧ (namedT name).op ≤ 75) ∧ name = nmO (namedT name).op ++ annT (namedT name).aq (namedT name).rl := by
  have e : ∀ op aq rl, (baseR op aq rl).op = op ∧ (baseR op aq rl).aq = aq ∧ (baseR op aq rl).rl = rl := fun _ _ _ => ⟨rfl, rfl, rfl⟩
  unfold namedT at h ⊢
  obtain ⟨e1, e2, e3⟩ := e (namedK name).1 (namedK name).2.1 (namedK name).2.2
  rw [e1] at h
  rw [e1, e2, e3]
  unfold namedK at h ⊢
  by_cases h1 : tryN name false false ≠ 0
  · rw [if_pos h1]; exact tryN_sound h1
  rw [if_neg h1] at h ⊢
  by_cases h2 : tryN name false true ≠ 0
  · rw [if_pos h2]; exact tryN_sound h2
  rw [if_neg h2] at h ⊢
  by_cases h3 : tryN name true false ≠ 0
  · rw [if_pos h3]; exact tryN_sound h3
  rw [if_neg h3] at h ⊢
  by_cases h4 : tryN name true true ≠ 0
  · rw [if_pos h4]; exact tryN_sound h4
  rw [if_neg h4] at h
  exact absurd rfl h
theorem named_whole : ∀ k : Fin 75, ∀ aq rl : Bool, namedK (nmO ((k.val : Int) + 1) ++ annT aq rl) = ((k.val : Int) + 1, aq, rl) := by decide +kernel
theorem named_any {op : Int} (h : 1 ≤ op ∧ op ≤ 75) (aq rl : Bool) : namedT (nmO op ++ annT aq rl) = baseR op aq rl := by
  have := named_whole ⟨op.toNat - 1, by omega⟩ aq rl
  rw [show ((op.toNat - 1 : Nat) : Int) + 1 = op by omega] at this
  unfold namedT
  rw [this]

def sixL : List UInt8 := [100, 97, 98, 110, 112, 115]
theorem shapes_ok : ∀ k : Fin 13, goodO (shpL.getD k.val []) = true ∧ ((shpL.getD k.val []).filter noMk).Nodup ∧ ∀ c ∈ shpL.getD k.val [], noMk c = true → c ∈ sixL := by decide +kernel
theorem shp_ok (op : Int) : goodO (shpT op) = true ∧ ((shpT op).filter noMk).Nodup ∧ ∀ c ∈ shpT op, noMk c = true → c ∈ sixL := by
  have hs := srt_spec op
  unfold shpT
  by_cases h3 : op = 3
  · rw [if_pos h3]; exact shapes_ok 1
  rw [if_neg h3]
  by_cases h51 : op = 51
  · rw [if_pos h51]; exact shapes_ok 0
  rw [if_neg h51]
  exact shapes_ok ⟨(srt op).toNat, by omega⟩
theorem shp_lacks : ∀ k : Fin 75, (¬ 100 ∈ shpT ((k.val : Int) + 1) → wrB ((k.val : Int) + 1) = false) ∧ (¬ 97 ∈ shpT ((k.val : Int) + 1) → firB ((k.val : Int) + 1) = false) ∧ (¬ 98 ∈ shpT ((k.val : Int) + 1) → secB ((k.val : Int) + 1) = false)
    ∧ (¬ 110 ∈ shpT ((k.val : Int) + 1) → shV ((k.val : Int) + 1) = 0 ∧ fmV ((k.val : Int) + 1) = 0) ∧ (¬ 112 ∈ shpT ((k.val : Int) + 1) → (k.val : Int) + 1 ≠ 50) ∧ (¬ 115 ∈ shpT ((k.val : Int) + 1) → (k.val : Int) + 1 ≠ 50) := by decide +kernel
theorem shp_lack {op : Int} (h : 1 ≤ op ∧ op ≤ 75) : (¬ 100 ∈ shpT op → wrB op = false) ∧ (¬ 97 ∈ shpT op → firB op = false) ∧ (¬ 98 ∈ shpT op → secB op = false)
    ∧ (¬ 110 ∈ shpT op → shV op = 0 ∧ fmV op = 0) ∧ (¬ 112 ∈ shpT op → op ≠ 50) ∧ (¬ 115 ∈ shpT op → op ≠ 50) := by
  have := shp_lacks ⟨op.toNat - 1, by omega⟩
  rw [show ((op.toNat - 1 : Nat) : Int) + 1 = op by omega] at this
  exact this

def no32 (c : UInt8) : Bool := c != 32
def nameT (s : List UInt8) : List UInt8 := s.takeWhile no32
def restT (s : List UInt8) : List UInt8 := s.dropWhile no32
def readC (s : List UInt8) : Option Ins :=
  match cutA (shpT (namedT (nameT s)).op) (restT s) [] with
  | none => none
  | some x => if (putAll (namedT (nameT s)) x.1 (decide (x.2 = []))).2 && rgtB (putAll (namedT (nameT s)) x.1 (decide (x.2 = []))).1 then some (putAll (namedT (nameT s)) x.1 (decide (x.2 = []))).1 else none
theorem part_mark (i : Ins) (c : UInt8) (h : isMk c = true) : partT i c = [c] := by
  have : c = 32 ∨ c = 44 ∨ c = 40 ∨ c = 41 := by
    unfold isMk at h
    simp only [Bool.or_eq_true, beq_iff_eq] at h
    rcases h with ((h | h) | h) | h
    · exact .inl h
    · exact .inr (.inl h)
    · exact .inr (.inr (.inl h))
    · exact .inr (.inr (.inr h))
  rcases this with rfl | rfl | rfl | rfl <;> rfl
theorem readC_sound {s : List UInt8} {j : Ins} (h : readC s = some j) : Rgt j ∧ textT j = s := by
  unfold readC at h
  split at h
  · cases h
  · next x hx =>
    split at h
    · next hq =>
      obtain rfl := Option.some.inj h
      rw [Bool.and_eq_true] at hq
      have hR := (rgt_iff _).1 hq.2
      obtain ⟨D, h1, h2, h3⟩ := cut_sound _ _ _ _ _ (show cutA _ _ _ = some (x.1, x.2) from hx)
      rw [List.nil_append] at h1
      rw [h1] at hq hR ⊢
      have hnd : (D.map Prod.fst).Nodup := by rw [h2]; exact (shp_ok _).2.1
      obtain ⟨p1, p2, p3, p4, p5, p6⟩ := putAll_sound D hnd _ _ hq.1
      refine ⟨hR, ?_⟩
      have hop := hR.op
      rw [text_parts hop]
      rw [p4] at hop
      rw [p4, p5, p6]
      obtain ⟨n1, n2⟩ := named_sound (name := nameT s) (by omega)
      rw [← n2]
      have e := h3 (partT (putAll (namedT (nameT s)) D (decide (x.2 = []))).1) (fun c hc => part_mark _ c hc) p2
      have hx0 : x.2 = [] := of_decide_eq_true p1
      rw [hx0, List.append_nil] at e
      rw [hx0, ← e]
      exact List.takeWhile_append_dropWhile
    · cases h
def mergeI (L : List UInt8) (j i : Ins) : Ins :=
  ⟨i.op, if 100 ∈ L then j.rd else i.rd, if 97 ∈ L then j.rs1 else i.rs1, if 98 ∈ L then j.rs2 else i.rs2, if 110 ∈ L then j.imm else i.imm, i.aq, i.rl, if 112 ∈ L then j.pred else i.pred, if 115 ∈ L then j.succ else i.succ⟩
theorem fold_put {j : Ins} (h1 : 0 ≤ j.rd ∧ j.rd ≤ 31) (h2 : 0 ≤ j.rs1 ∧ j.rs1 ≤ 31) (h3 : 0 ≤ j.rs2 ∧ j.rs2 ≤ 31) (h4 : I64 j.imm) (h5 : 0 ≤ j.pred ∧ j.pred < 16) (h6 : 0 ≤ j.succ ∧ j.succ < 16) (L : List UInt8) :
    (∀ c ∈ L, c ∈ sixL) → ∀ i, putAll i (L.map fun c => (c, partT j c)) true = (mergeI L j i, true) := by
  have r1 := (reg_iff _ _).2 ⟨h1, rfl⟩
  have r2 := (reg_iff _ _).2 ⟨h2, rfl⟩
  have r3 := (reg_iff _ _).2 ⟨h3, rfl⟩
  have r4 := (num_iff _ _).2 ⟨h4, rfl⟩
  have r5 := (setO_iff _ _).2 ⟨h5, rfl⟩
  have r6 := (setO_iff _ _).2 ⟨h6, rfl⟩
  induction L with
  | nil => intro _ i; rfl
  | cons c L ih =>
    intro hL i
    have ih := ih (fun x hx => hL x (List.mem_cons_of_mem _ hx))
    have hc := hL c List.mem_cons_self
    rw [List.map_cons, putAll]
    simp only [sixL, List.mem_cons, List.not_mem_nil, or_false] at hc
    rcases hc with rfl | rfl | rfl | rfl | rfl | rfl
    · rw [show putT i 100 (partT j 100) = ({ i with rd := j.rd }, true) by show (({ i with rd := (regS (regT j.rd)).getD 0 } : Ins), (regS (regT j.rd)).isSome) = _; rw [r1]; rfl]
      rw [show (true && true) = true from rfl, ih]
      simp [mergeI]
    · rw [show putT i 97 (partT j 97) = ({ i with rs1 := j.rs1 }, true) by show (({ i with rs1 := (regS (regT j.rs1)).getD 0 } : Ins), (regS (regT j.rs1)).isSome) = _; rw [r2]; rfl]
      rw [show (true && true) = true from rfl, ih]
      simp [mergeI]
    · rw [show putT i 98 (partT j 98) = ({ i with rs2 := j.rs2 }, true) by show (({ i with rs2 := (regS (regT j.rs2)).getD 0 } : Ins), (regS (regT j.rs2)).isSome) = _; rw [r3]; rfl]
      rw [show (true && true) = true from rfl, ih]
      simp [mergeI]
    · rw [show putT i 110 (partT j 110) = ({ i with imm := j.imm }, true) by show (({ i with imm := (numV (digI j.imm)).getD 0 } : Ins), (numV (digI j.imm)).isSome) = _; rw [r4]; rfl]
      rw [show (true && true) = true from rfl, ih]
      simp [mergeI]
    · rw [show putT i 112 (partT j 112) = ({ i with pred := j.pred }, true) by show (({ i with pred := (setO (setT j.pred)).getD 0 } : Ins), (setO (setT j.pred)).isSome) = _; rw [r5]; rfl]
      rw [show (true && true) = true from rfl, ih]
      simp [mergeI]
    · rw [show putT i 115 (partT j 115) = ({ i with succ := j.succ }, true) by show (({ i with succ := (setO (setT j.succ)).getD 0 } : Ins), (setO (setT j.succ)).isSome) = _; rw [r6]; rfl]
      rw [show (true && true) = true from rfl, ih]
      simp [mergeI]
theorem noMk_W {c : UInt8} (h : isW c = true) : noMk c = true := by
  have := of_decide_eq_true h
  unfold noMk isMk
  rw [Bool.not_eq_true']
  simp only [Bool.or_eq_false_iff, beq_eq_false_iff_ne]
  refine ⟨⟨⟨?_, ?_⟩, ?_⟩, ?_⟩ <;> (rintro rfl; revert this; decide)
theorem part_W {j : Ins} (h5 : 0 ≤ j.pred ∧ j.pred < 16) (h6 : 0 ≤ j.succ ∧ j.succ < 16) {c : UInt8} (hc : c ∈ sixL) : ∀ d ∈ partT j c, noMk d = true := by
  simp only [sixL, List.mem_cons, List.not_mem_nil, or_false] at hc
  rcases hc with rfl | rfl | rfl | rfl | rfl | rfl
  · exact fun d hd => noMk_W (allW_regT j.rd d hd)
  · exact fun d hd => noMk_W (allW_regT j.rs1 d hd)
  · exact fun d hd => noMk_W (allW_regT j.rs2 d hd)
  · exact fun d hd => noMk_W (allW_digI j.imm d hd)
  · exact fun d hd => noMk_W ((allW_set h5).1 d hd)
  · exact fun d hd => noMk_W ((allW_set h6).1 d hd)
theorem shp_head (op : Int) : shpT op = [] ∨ ∃ t, shpT op = 32 :: t := by
  have hall : ∀ k : Fin 13, shpL.getD k.val [] = [] ∨ (shpL.getD k.val []).head? = some 32 := by decide
  have hs := srt_spec op
  unfold shpT
  by_cases h3 : op = 3
  · rw [if_pos h3]; exact .inr ⟨_, rfl⟩
  rw [if_neg h3]
  by_cases h51 : op = 51
  · rw [if_pos h51]; exact .inl rfl
  rw [if_neg h51]
  rcases hall ⟨(srt op).toNat, by omega⟩ with h | h
  · exact .inl h
  · right
    cases hl : shpL.getD (srt op).toNat [] with
    | nil => rw [hl] at h; cases h
    | cons a t => rw [hl] at h; rw [Option.some.inj h]; exact ⟨t, rfl⟩
theorem readC_text {j : Ins} (h : Rgt j) : readC (textT j) = some j := by
  have hop := h.op
  have h5 : 0 ≤ j.pred ∧ j.pred < 16 := by
    by_cases e : j.op = 50
    · exact ⟨(h.fen e).1, (h.fen e).2.1⟩
    · by_cases e' : j.op = 51
      · rw [(h.tso e').1]; decide
      · rw [(h.oth e e').1]; decide
  have h6 : 0 ≤ j.succ ∧ j.succ < 16 := by
    by_cases e : j.op = 50
    · exact (h.fen e).2.2
    · by_cases e' : j.op = 51
      · rw [(h.tso e').2]; decide
      · rw [(h.oth e e').2]; decide
  obtain ⟨g1, g2, g3⟩ := shp_ok j.op
  have hW := (allW_head hop j.aq j.rl).1
  have hb : (shpT j.op).flatMap (partT j) = [] ∨ ∃ d t, (shpT j.op).flatMap (partT j) = d :: t ∧ no32 d = false := by
    rcases shp_head j.op with e | ⟨t, e⟩
    · rw [e]; exact .inl rfl
    · rw [e]; exact .inr ⟨32, t.flatMap (partT j), rfl, rfl⟩
  obtain ⟨t1, t2⟩ := take_p (p := no32) (a := nmO j.op ++ annT j.aq j.rl) (b := (shpT j.op).flatMap (partT j)) (fun c hc => by
    have := of_decide_eq_true (hW c hc)
    unfold no32
    rw [bne_iff_ne]
    rintro rfl
    revert this
    decide) hb
  have e1 : nameT (textT j) = nmO j.op ++ annT j.aq j.rl := by rw [text_parts hop]; exact t1
  have e2 : restT (textT j) = (shpT j.op).flatMap (partT j) := by rw [text_parts hop]; exact t2
  have e3 := named_any hop j.aq j.rl
  have hcut := cut_whole (partT j) (part_mark j) (shpT j.op) g1 (fun c hc hn => part_W h5 h6 (g3 c hc hn)) []
  have hput := fold_put h.rd h.rs1 h.rs2 (imm_I64 h) h5 h6 ((shpT j.op).filter noMk) (fun c hc => g3 c (List.mem_filter.1 hc).1 (List.mem_filter.1 hc).2) (baseR j.op j.aq j.rl)
  have hj : mergeI ((shpT j.op).filter noMk) j (baseR j.op j.aq j.rl) = j := by
    obtain ⟨l1, l2, l3, l4, l5, l6⟩ := shp_lack hop
    have hin : ∀ c : UInt8, noMk c = true → (c ∈ (shpT j.op).filter noMk ↔ c ∈ shpT j.op) := fun c hc => by rw [List.mem_filter]; exact ⟨fun x => x.1, fun x => ⟨x, hc⟩⟩
    have w1 := h.wr
    have w2 := h.fir
    have w3 := h.sec
    have w4 := h.non
    have w5 := h.tso
    have w6 := h.oth
    obtain ⟨op, rd, rs1, rs2, imm, aq, rl, pred, succ⟩ := j
    unfold mergeI baseR
    simp only [hin 100 rfl, hin 97 rfl, hin 98 rfl, hin 110 rfl, hin 112 rfl, hin 115 rfl] at *
    congr 1
    · split
      · rfl
      · next hh => exact (w1 (l1 hh)).symm
    · split
      · rfl
      · next hh => exact (w2 (l2 hh)).symm
    · split
      · rfl
      · next hh => exact (w3 (l3 hh)).symm
    · split
      · rfl
      · next hh => exact (w4 (l4 hh).1 (l4 hh).2).symm
    · split
      · rfl
      · next hh =>
        by_cases e : op = 51
        · rw [if_pos e]; exact (w5 e).1.symm
        · rw [if_neg e]; exact (w6 (l5 hh) e).1.symm
    · split
      · rfl
      · next hh =>
        by_cases e : op = 51
        · rw [if_pos e]; exact (w5 e).2.symm
        · rw [if_neg e]; exact (w6 (l6 hh) e).2.symm
  unfold readC
  rw [e1, e2, e3]
  rw [show (baseR j.op j.aq j.rl).op = j.op from rfl, hcut]
  simp only [List.nil_append, decide_true]
  rw [hput, hj, (rgt_iff j).2 h]
  rfl
theorem readC_iff (s : List UInt8) (j : Ins) : readC s = some j ↔ Rgt j ∧ textT j = s := ⟨readC_sound, fun ⟨h, e⟩ => e ▸ readC_text h⟩
end Go.Proofs.YtolmecnjolfjgaaGreatDoor
