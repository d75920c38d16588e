/- The program's part and Text. -/
import Derived.Test.YtdpbiboldmoadaaDoorKr
set_option maxRecDepth 100000
namespace Go.Proofs.YtdpbiboldmoadaaDoor
open Go.RowKit

/-! ### The library's powers of ten -/
def powV : Array Value := (Lib.pow10Tab.map fun z => Value.int .u64 z).toArray
def TabP (w : World) : Prop := ∃ t fr, w.heap[5]? = some (.cells powV t fr)
theorem TabP.below {W w : World} (h : TabP W) (hb : Below W.heap.size W w) : TabP w := by
  obtain ⟨t, fr, h1⟩ := h
  have z1 := (Array.getElem?_eq_some_iff.1 h1).1
  exact ⟨t, fr, by rw [hb.block _ z1]; exact h1⟩
theorem tabP_is {nm : String} {w : World} (hn : Tryd.prog.globalNamed nm = some 5) (h : TabP w) : Lib.TabIs Tryd.prog w nm .u64 Lib.pow10Tab := by
  obtain ⟨t, fr, h1⟩ := h
  unfold Lib.TabIs World.var?
  rw [hn, Option.bind_some, h1]
  rfl
theorem grow_below {w : World} (k : Nat) (os : Array Obj) : Below w.heap.size w (Sort.grow (w.drewN k) os) := by
  refine ⟨rfl, rfl, rfl, ?_, ?_⟩
  · show w.heap.size ≤ (w.heap ++ os).size
    simp
  · intro b hb
    show (w.heap ++ os)[b]? = w.heap[b]?
    rw [Array.getElem?_append_left hb]
theorem fmt_c (n : Int) (h : I64 n) (w : World) (hT : TabP w) : Calls Tryd.prog 45 #[.int .i64 n, .int .i64 10] w fun e w' => e = .returned (tx (digI n)) ∧ Below w.heap.size w w' := by
  refine (Any.strconv_FormatInt_10 Tryd.laysM173 n h.1 h.2 w (tabP_is (by kernel_rfl) hT)).mono ?_
  rintro e w' ⟨rfl, k, os, rfl⟩
  rw [itoa_digI h]
  exact ⟨rfl, grow_below k os⟩

/-! ### Parts -/
structure PartOk (i : Ins) : Prop where
  rd : 0 ≤ i.rd ∧ i.rd ≤ 31
  rs1 : 0 ≤ i.rs1 ∧ i.rs1 ≤ 31
  rs2 : 0 ≤ i.rs2 ∧ i.rs2 ≤ 31
  imm : I64 i.imm
  pred : 0 ≤ i.pred ∧ i.pred < 16
  succ : 0 ≤ i.succ ∧ i.succ < 16
theorem Rgt.part {j : Ins} (h : Rgt j) : PartOk j := by
  refine ⟨h.rd, h.rs1, h.rs2, imm_I64 h, ?_, ?_⟩
  · by_cases e : j.op = 50
    · exact ⟨(h.fen e).1, (h.fen e).2.1⟩
    · by_cases e' : j.op = 51
      · rw [(h.tso e').1]; decide
      · rw [(h.oth e e').1]; decide
  · by_cases e : j.op = 50
    · exact (h.fen e).2.2
    · by_cases e' : j.op = 51
      · rw [(h.tso e').2]; decide
      · rw [(h.oth e e').2]; decide
theorem conv_rune (m : Nat) (h : m = 32 ∨ m = 44 ∨ m = 40 ∨ m = 41) (w : World) : (convert 21 9 (.int .i32 m)).run Tryd.prog w = .ok (tx [UInt8.ofNat m]) w := by
  rcases h with rfl | rfl | rfl | rfl <;> kernel_rfl
theorem mark_of {c : UInt8} (h : isMk c = true) : c = 32 ∨ c = 44 ∨ c = 40 ∨ c = 41 := by
  unfold isMk at h
  simp only [Bool.or_eq_true, beq_iff_eq] at h
  rcases h with ((h | h) | h) | h
  · exact .inl h
  · exact .inr (.inl h)
  · exact .inr (.inr (.inl h))
  · exact .inr (.inr (.inr h))
set_option maxHeartbeats 2000000 in
theorem part_ch (i : Ins) (ok : PartOk i) (c : UInt8) (hc : c ∈ sixL ∨ isMk c = true) (w : World) (hP : TabP w) :
    Calls Tryd.prog 22 #[insV i, .int .u8 (c.toNat : Int)] w fun e w' => e = .returned (tx (partT i c)) ∧ BW w w' := by
  have HB : BW w w := Below.refl _ _
  have KR := fun r x (h : 0 ≤ r ∧ r ≤ 31) => sregister_c r h x
  have KS := fun n x (h : 0 ≤ n ∧ n < 16) (hb : BW w x) => (sset_c n h x).mono fun e w' hh => (⟨hh.1, hb.on hh.2⟩ : _ ∧ BW w w')
  have KF := fun n x (h : I64 n) (hb : BW w x) => (fmt_c n h x (hP.below hb)).mono fun e w' hh => (⟨hh.1, hb.on hh.2⟩ : _ ∧ BW w w')
  have HB1 := HB.new (.cells (insCells i) 23)
  obtain ⟨h1, h2, h3, h4, h5, h6⟩ := ok
  have k1 := KR i.rd
  have k2 := KR i.rs1
  have k3 := KR i.rs2
  have k4 := KF i.imm _ h4 HB1
  have k5 := KS i.pred _ h5 HB1
  have k6 := KS i.succ _ h6 HB1
  have q1 := fun x => k1 x h1
  have q2 := fun x => k2 x h2
  have q3 := fun x => k3 x h3
  have v1 : Hid (partT i 100 = regT i.rd) := rfl
  have v2 : Hid (partT i 97 = regT i.rs1) := rfl
  have v3 : Hid (partT i 98 = regT i.rs2) := rfl
  have v4 : Hid (partT i 110 = digI i.imm) := rfl
  have v5 : Hid (partT i 112 = setT i.pred) := rfl
  have v6 : Hid (partT i 115 = setT i.succ) := rfl
  have hm := fun c h => part_mark i c h
  clear KR KS KF k1 k2 k3 hP
  obtain ⟨op, rd, rs1, rs2, imm, aq, rl, pred, succ⟩ := i
  unfold insV insCells tx at *
  simp only at *
  rcases hc with hc | hc
  · simp only [sixL, List.mem_cons, List.not_mem_nil, or_false] at hc
    rcases hc with rfl | rfl | rfl | rfl | rfl | rfl
    · rw [v1.out]
      clear v1 v2 v3 v4 v5 v6 hm
      generalize regT rd = r at *
      go_enter Tryd.func22, Tryd.ntmps22
      go_wp2_with (first
        | (go_at_call 44; refine (q1 _).mono ?_; rintro e w' ⟨rfl, rfl⟩))
      go_ret
      exact ⟨rfl, HB1⟩
    · rw [v2.out]
      clear v1 v2 v3 v4 v5 v6 hm
      generalize regT rs1 = r at *
      go_enter Tryd.func22, Tryd.ntmps22
      go_wp2_with (first
        | (go_at_call 44; refine (q2 _).mono ?_; rintro e w' ⟨rfl, rfl⟩))
      go_ret
      exact ⟨rfl, HB1⟩
    · rw [v3.out]
      clear v1 v2 v3 v4 v5 v6 hm
      generalize regT rs2 = r at *
      go_enter Tryd.func22, Tryd.ntmps22
      go_wp2_with (first
        | (go_at_call 44; refine (q3 _).mono ?_; rintro e w' ⟨rfl, rfl⟩))
      go_ret
      exact ⟨rfl, HB1⟩
    · rw [v4.out]
      clear v1 v2 v3 v4 v5 v6 hm
      generalize digI imm = r at *
      go_enter Tryd.func22, Tryd.ntmps22
      go_wp2_with (first
        | (go_at_call 45; refine k4.mono ?_; rintro e w' ⟨rfl, hb⟩; have HB2 := Lib.hid hb; clear hb))
      go_ret
      exact ⟨rfl, HB2.out⟩
    · rw [v5.out]
      clear v1 v2 v3 v4 v5 v6 hm
      generalize setT pred = r at *
      go_enter Tryd.func22, Tryd.ntmps22
      go_wp2_with (first
        | (go_at_call 46; refine k5.mono ?_; rintro e w' ⟨rfl, hb⟩; have HB2 := Lib.hid hb; clear hb))
      go_ret
      exact ⟨rfl, HB2.out⟩
    · rw [v6.out]
      clear v1 v2 v3 v4 v5 v6 hm
      generalize setT succ = r at *
      go_enter Tryd.func22, Tryd.ntmps22
      go_wp2_with (first
        | (go_at_call 46; refine k6.mono ?_; rintro e w' ⟨rfl, hb⟩; have HB2 := Lib.hid hb; clear hb))
      go_ret
      exact ⟨rfl, HB2.out⟩
  · have hv := hm c hc
    have hr := fun w => conv_rune c.toNat (by rcases mark_of hc with rfl | rfl | rfl | rfl <;> decide) w
    rw [hv]
    clear v1 v2 v3 v4 v5 v6 hm hv
    unfold tx at hr
    rcases mark_of hc with rfl | rfl | rfl | rfl
    all_goals
      go_enter Tryd.func22, Tryd.ntmps22
      go_wp2
      go_ret
      exact ⟨rfl, HB1⟩
end Go.Proofs.YtdpbiboldmoadaaDoor
