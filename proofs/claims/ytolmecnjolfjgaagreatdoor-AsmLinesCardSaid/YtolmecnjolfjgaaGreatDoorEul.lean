/- The program's third and upper of package encode, operation by operation. -/
import Derived.Test.YtolmecnjolfjgaaGreatDoorRows
import Derived.Test.YtolmecnjolfjgaaGreatDoorEwl
import Derived.Test.YtolmecnjolfjgaaGreatDoorOp5l
import Derived.WalkKit
import Derived.WalkLawsBesides
import Derived.WalkSmall
import Derived.WalkSpells
import Derived.Lib.Hide
import Derived.Below
set_option maxRecDepth 100000
namespace Go.Proofs.YtolmecnjolfjgaaGreatDoor
open Go.RowKit

def lenV (n : Int) : Int := if n = 0 then 0 else if n = 1 then 1 else if n = 2 then 2 else 3
theorem len64_c (n : Int) (h : n = 0 ∨ n = 1 ∨ n = 2 ∨ n = 4) (w : World) :
    Calls Tryz.prog 195 #[.int .u64 n] w fun e w' => e = .returned (.int .i64 (lenV n)) ∧ w = w' := by
  rcases h with rfl | rfl | rfl | rfl
  all_goals
    go_enter Tryz.func195, Tryz.ntmps195
    go_wp2
    go_ret
    exact ⟨ret_int (by kernel_rfl), rfl⟩
theorem len_c (n : Int) (h : n = 0 ∨ n = 1 ∨ n = 2 ∨ n = 4) (w : World) :
    Calls Tryz.prog 160 #[.int .u64 n] w fun e w' => e = .returned (.int .i64 (lenV n)) ∧ w = w' := by
  have KL := fun w => len64_c n h w
  rcases h with rfl | rfl | rfl | rfl
  all_goals
    go_enter Tryz.func160, Tryz.ntmps160
    go_wp2_with (first
      | (go_at_call 195; refine (KL _).mono ?_; rintro e w' ⟨rfl, rfl⟩))
    go_ret
    exact ⟨rfl, rfl⟩
set_option maxHeartbeats 8000000 in
theorem third7_0_0 (op : Int) (h : op = 1 ∨ op = 2 ∨ op = 3 ∨ op = 4 ∨ op = 5 ∨ op = 6 ∨ op = 7 ∨ op = 8 ∨ op = 9 ∨ op = 10 ∨ op = 22 ∨ op = 23 ∨ op = 24 ∨ op = 25 ∨ op = 26) (w : World) (hT : TabL w) :
    Calls Tryz.prog 112 #[.int .i64 op] w fun e w' => e = .returned (.int .i64 (thV op)) ∧ w = w' := by
  have KS : ∀ s, siz op = s → Calls Tryz.prog 92 #[.int .i64 op] w fun e w' => e = .returned (.int .i64 s) ∧ w = w' := by
    rintro s rfl; exact size_c op ⟨by omega, by omega⟩ w hT
  have KL := len_c 0 (by decide) w
  rw [show lenV 0 = 0 by decide] at KL
  clear hT
  rcases h with rfl | rfl | rfl | rfl | rfl | rfl | rfl | rfl | rfl | rfl | rfl | rfl | rfl | rfl | rfl
  all_goals
    have KS' := KS 0 (by decide)
    clear KS
    go_enter Tryz.func112, Tryz.ntmps112
    go_wp2_with (first
      | (go_at_call 92; refine KS'.mono ?_; rintro e w' ⟨rfl, rfl⟩)
      | (go_at_call 160; refine KL.mono ?_; rintro e w' ⟨rfl, rfl⟩))
    go_ret
    exact ⟨ret_int (by decide), rfl⟩
set_option maxHeartbeats 8000000 in
theorem third7_0_1 (op : Int) (h : op = 27 ∨ op = 28 ∨ op = 29 ∨ op = 30 ∨ op = 31 ∨ op = 32 ∨ op = 33 ∨ op = 34 ∨ op = 35 ∨ op = 36 ∨ op = 37 ∨ op = 38 ∨ op = 39 ∨ op = 40 ∨ op = 41) (w : World) (hT : TabL w) :
    Calls Tryz.prog 112 #[.int .i64 op] w fun e w' => e = .returned (.int .i64 (thV op)) ∧ w = w' := by
  have KS : ∀ s, siz op = s → Calls Tryz.prog 92 #[.int .i64 op] w fun e w' => e = .returned (.int .i64 s) ∧ w = w' := by
    rintro s rfl; exact size_c op ⟨by omega, by omega⟩ w hT
  have KL := len_c 0 (by decide) w
  rw [show lenV 0 = 0 by decide] at KL
  clear hT
  rcases h with rfl | rfl | rfl | rfl | rfl | rfl | rfl | rfl | rfl | rfl | rfl | rfl | rfl | rfl | rfl
  all_goals
    have KS' := KS 0 (by decide)
    clear KS
    go_enter Tryz.func112, Tryz.ntmps112
    go_wp2_with (first
      | (go_at_call 92; refine KS'.mono ?_; rintro e w' ⟨rfl, rfl⟩)
      | (go_at_call 160; refine KL.mono ?_; rintro e w' ⟨rfl, rfl⟩))
    go_ret
    exact ⟨ret_int (by decide), rfl⟩
set_option maxHeartbeats 8000000 in
theorem third7_0_2 (op : Int) (h : op = 42 ∨ op = 43 ∨ op = 44 ∨ op = 45 ∨ op = 46 ∨ op = 47 ∨ op = 48 ∨ op = 49 ∨ op = 50 ∨ op = 51 ∨ op = 52 ∨ op = 53) (w : World) (hT : TabL w) :
    Calls Tryz.prog 112 #[.int .i64 op] w fun e w' => e = .returned (.int .i64 (thV op)) ∧ w = w' := by
  have KS : ∀ s, siz op = s → Calls Tryz.prog 92 #[.int .i64 op] w fun e w' => e = .returned (.int .i64 s) ∧ w = w' := by
    rintro s rfl; exact size_c op ⟨by omega, by omega⟩ w hT
  have KL := len_c 0 (by decide) w
  rw [show lenV 0 = 0 by decide] at KL
  clear hT
  rcases h with rfl | rfl | rfl | rfl | rfl | rfl | rfl | rfl | rfl | rfl | rfl | rfl
  all_goals
    have KS' := KS 0 (by decide)
    clear KS
    go_enter Tryz.func112, Tryz.ntmps112
    go_wp2_with (first
      | (go_at_call 92; refine KS'.mono ?_; rintro e w' ⟨rfl, rfl⟩)
      | (go_at_call 160; refine KL.mono ?_; rintro e w' ⟨rfl, rfl⟩))
    go_ret
    exact ⟨ret_int (by decide), rfl⟩
set_option maxHeartbeats 8000000 in
theorem third7_1_0 (op : Int) (h : op = 11 ∨ op = 15 ∨ op = 18) (w : World) (hT : TabL w) :
    Calls Tryz.prog 112 #[.int .i64 op] w fun e w' => e = .returned (.int .i64 (thV op)) ∧ w = w' := by
  have KS : ∀ s, siz op = s → Calls Tryz.prog 92 #[.int .i64 op] w fun e w' => e = .returned (.int .i64 s) ∧ w = w' := by
    rintro s rfl; exact size_c op ⟨by omega, by omega⟩ w hT
  have KL := len_c 0 (by decide) w
  rw [show lenV 0 = 0 by decide] at KL
  clear hT
  rcases h with rfl | rfl | rfl
  all_goals
    have KS' := KS 1 (by decide)
    clear KS
    go_enter Tryz.func112, Tryz.ntmps112
    go_wp2_with (first
      | (go_at_call 92; refine KS'.mono ?_; rintro e w' ⟨rfl, rfl⟩)
      | (go_at_call 160; refine KL.mono ?_; rintro e w' ⟨rfl, rfl⟩))
    go_ret
    exact ⟨ret_int (by decide), rfl⟩
set_option maxHeartbeats 8000000 in
theorem third7_2_0 (op : Int) (h : op = 12 ∨ op = 16 ∨ op = 19) (w : World) (hT : TabL w) :
    Calls Tryz.prog 112 #[.int .i64 op] w fun e w' => e = .returned (.int .i64 (thV op)) ∧ w = w' := by
  have KS : ∀ s, siz op = s → Calls Tryz.prog 92 #[.int .i64 op] w fun e w' => e = .returned (.int .i64 s) ∧ w = w' := by
    rintro s rfl; exact size_c op ⟨by omega, by omega⟩ w hT
  have KL := len_c 1 (by decide) w
  rw [show lenV 1 = 1 by decide] at KL
  clear hT
  rcases h with rfl | rfl | rfl
  all_goals
    have KS' := KS 2 (by decide)
    clear KS
    go_enter Tryz.func112, Tryz.ntmps112
    go_wp2_with (first
      | (go_at_call 92; refine KS'.mono ?_; rintro e w' ⟨rfl, rfl⟩)
      | (go_at_call 160; refine KL.mono ?_; rintro e w' ⟨rfl, rfl⟩))
    go_ret
    exact ⟨ret_int (by decide), rfl⟩
set_option maxHeartbeats 8000000 in
theorem third7_4_0 (op : Int) (h : op = 13 ∨ op = 17 ∨ op = 20 ∨ op = 54 ∨ op = 56 ∨ op = 58 ∨ op = 59 ∨ op = 60 ∨ op = 61 ∨ op = 62 ∨ op = 63 ∨ op = 64 ∨ op = 65 ∨ op = 66) (w : World) (hT : TabL w) :
    Calls Tryz.prog 112 #[.int .i64 op] w fun e w' => e = .returned (.int .i64 (thV op)) ∧ w = w' := by
  have KS : ∀ s, siz op = s → Calls Tryz.prog 92 #[.int .i64 op] w fun e w' => e = .returned (.int .i64 s) ∧ w = w' := by
    rintro s rfl; exact size_c op ⟨by omega, by omega⟩ w hT
  have KL := len_c 2 (by decide) w
  rw [show lenV 2 = 2 by decide] at KL
  clear hT
  rcases h with rfl | rfl | rfl | rfl | rfl | rfl | rfl | rfl | rfl | rfl | rfl | rfl | rfl | rfl
  all_goals
    have KS' := KS 4 (by decide)
    clear KS
    go_enter Tryz.func112, Tryz.ntmps112
    go_wp2_with (first
      | (go_at_call 92; refine KS'.mono ?_; rintro e w' ⟨rfl, rfl⟩)
      | (go_at_call 160; refine KL.mono ?_; rintro e w' ⟨rfl, rfl⟩))
    go_ret
    exact ⟨ret_int (by decide), rfl⟩
set_option maxHeartbeats 8000000 in
theorem third7_8_0 (op : Int) (h : op = 14 ∨ op = 21 ∨ op = 55 ∨ op = 57 ∨ op = 67 ∨ op = 68 ∨ op = 69 ∨ op = 70 ∨ op = 71 ∨ op = 72 ∨ op = 73 ∨ op = 74 ∨ op = 75) (w : World) (hT : TabL w) :
    Calls Tryz.prog 112 #[.int .i64 op] w fun e w' => e = .returned (.int .i64 (thV op)) ∧ w = w' := by
  have KS : ∀ s, siz op = s → Calls Tryz.prog 92 #[.int .i64 op] w fun e w' => e = .returned (.int .i64 s) ∧ w = w' := by
    rintro s rfl; exact size_c op ⟨by omega, by omega⟩ w hT
  have KL := len_c 4 (by decide) w
  rw [show lenV 4 = 3 by decide] at KL
  clear hT
  rcases h with rfl | rfl | rfl | rfl | rfl | rfl | rfl | rfl | rfl | rfl | rfl | rfl | rfl
  all_goals
    have KS' := KS 8 (by decide)
    clear KS
    go_enter Tryz.func112, Tryz.ntmps112
    go_wp2_with (first
      | (go_at_call 92; refine KS'.mono ?_; rintro e w' ⟨rfl, rfl⟩)
      | (go_at_call 160; refine KL.mono ?_; rintro e w' ⟨rfl, rfl⟩))
    go_ret
    exact ⟨ret_int (by decide), rfl⟩
theorem third7_c (op : Int) (h : 1 ≤ op ∧ op ≤ 75) (w : World) (hT : TabL w) :
    Calls Tryz.prog 112 #[.int .i64 op] w fun e w' => e = .returned (.int .i64 (thV op)) ∧ w = w' := by
  by_cases h0 : op = 1 ∨ op = 2 ∨ op = 3 ∨ op = 4 ∨ op = 5 ∨ op = 6 ∨ op = 7 ∨ op = 8 ∨ op = 9 ∨ op = 10 ∨ op = 22 ∨ op = 23 ∨ op = 24 ∨ op = 25 ∨ op = 26
  · exact third7_0_0 op h0 w hT
  by_cases h1 : op = 27 ∨ op = 28 ∨ op = 29 ∨ op = 30 ∨ op = 31 ∨ op = 32 ∨ op = 33 ∨ op = 34 ∨ op = 35 ∨ op = 36 ∨ op = 37 ∨ op = 38 ∨ op = 39 ∨ op = 40 ∨ op = 41
  · exact third7_0_1 op h1 w hT
  by_cases h2 : op = 42 ∨ op = 43 ∨ op = 44 ∨ op = 45 ∨ op = 46 ∨ op = 47 ∨ op = 48 ∨ op = 49 ∨ op = 50 ∨ op = 51 ∨ op = 52 ∨ op = 53
  · exact third7_0_2 op h2 w hT
  by_cases h3 : op = 11 ∨ op = 15 ∨ op = 18
  · exact third7_1_0 op h3 w hT
  by_cases h4 : op = 12 ∨ op = 16 ∨ op = 19
  · exact third7_2_0 op h4 w hT
  by_cases h5 : op = 13 ∨ op = 17 ∨ op = 20 ∨ op = 54 ∨ op = 56 ∨ op = 58 ∨ op = 59 ∨ op = 60 ∨ op = 61 ∨ op = 62 ∨ op = 63 ∨ op = 64 ∨ op = 65 ∨ op = 66
  · exact third7_4_0 op h5 w hT
  exact third7_8_0 op (by omega) w hT
set_option maxHeartbeats 8000000 in
theorem upper7_0 (op : Int) (h : op = 1 ∨ op = 2 ∨ op = 3 ∨ op = 4 ∨ op = 5 ∨ op = 6 ∨ op = 7 ∨ op = 8 ∨ op = 9 ∨ op = 10 ∨ op = 11 ∨ op = 12 ∨ op = 13 ∨ op = 14 ∨ op = 15) (w : World) :
    Calls Tryz.prog 113 #[.int .i64 op] w fun e w' => e = .returned (.int .i64 (upV op)) ∧ w = w' := by
  rcases h with rfl | rfl | rfl | rfl | rfl | rfl | rfl | rfl | rfl | rfl | rfl | rfl | rfl | rfl | rfl
  all_goals
    go_enter Tryz.func113, Tryz.ntmps113
    go_wp2
    go_ret
    exact ⟨ret_int (by decide), rfl⟩
set_option maxHeartbeats 8000000 in
theorem upper7_1 (op : Int) (h : op = 16 ∨ op = 17 ∨ op = 18 ∨ op = 19 ∨ op = 20 ∨ op = 21 ∨ op = 22 ∨ op = 23 ∨ op = 24 ∨ op = 25 ∨ op = 26 ∨ op = 27 ∨ op = 28 ∨ op = 29 ∨ op = 30) (w : World) :
    Calls Tryz.prog 113 #[.int .i64 op] w fun e w' => e = .returned (.int .i64 (upV op)) ∧ w = w' := by
  rcases h with rfl | rfl | rfl | rfl | rfl | rfl | rfl | rfl | rfl | rfl | rfl | rfl | rfl | rfl | rfl
  all_goals
    go_enter Tryz.func113, Tryz.ntmps113
    go_wp2
    go_ret
    exact ⟨ret_int (by decide), rfl⟩
set_option maxHeartbeats 8000000 in
theorem upper7_2 (op : Int) (h : op = 31 ∨ op = 32 ∨ op = 33 ∨ op = 34 ∨ op = 35 ∨ op = 36 ∨ op = 37 ∨ op = 38 ∨ op = 39 ∨ op = 40 ∨ op = 41 ∨ op = 42 ∨ op = 43 ∨ op = 44 ∨ op = 45) (w : World) :
    Calls Tryz.prog 113 #[.int .i64 op] w fun e w' => e = .returned (.int .i64 (upV op)) ∧ w = w' := by
  rcases h with rfl | rfl | rfl | rfl | rfl | rfl | rfl | rfl | rfl | rfl | rfl | rfl | rfl | rfl | rfl
  all_goals
    go_enter Tryz.func113, Tryz.ntmps113
    go_wp2
    go_ret
    exact ⟨ret_int (by decide), rfl⟩
set_option maxHeartbeats 8000000 in
theorem upper7_3 (op : Int) (h : op = 46 ∨ op = 47 ∨ op = 48 ∨ op = 49 ∨ op = 50 ∨ op = 51 ∨ op = 52 ∨ op = 53 ∨ op = 54 ∨ op = 55 ∨ op = 56 ∨ op = 57 ∨ op = 58 ∨ op = 59 ∨ op = 60) (w : World) :
    Calls Tryz.prog 113 #[.int .i64 op] w fun e w' => e = .returned (.int .i64 (upV op)) ∧ w = w' := by
  rcases h with rfl | rfl | rfl | rfl | rfl | rfl | rfl | rfl | rfl | rfl | rfl | rfl | rfl | rfl | rfl
  all_goals
    go_enter Tryz.func113, Tryz.ntmps113
    go_wp2
    go_ret
    exact ⟨ret_int (by decide), rfl⟩
set_option maxHeartbeats 8000000 in
theorem upper7_4 (op : Int) (h : op = 61 ∨ op = 62 ∨ op = 63 ∨ op = 64 ∨ op = 65 ∨ op = 66 ∨ op = 67 ∨ op = 68 ∨ op = 69 ∨ op = 70 ∨ op = 71 ∨ op = 72 ∨ op = 73 ∨ op = 74 ∨ op = 75) (w : World) :
    Calls Tryz.prog 113 #[.int .i64 op] w fun e w' => e = .returned (.int .i64 (upV op)) ∧ w = w' := by
  rcases h with rfl | rfl | rfl | rfl | rfl | rfl | rfl | rfl | rfl | rfl | rfl | rfl | rfl | rfl | rfl
  all_goals
    go_enter Tryz.func113, Tryz.ntmps113
    go_wp2
    go_ret
    exact ⟨ret_int (by decide), rfl⟩
theorem upper7_c (op : Int) (h : 1 ≤ op ∧ op ≤ 75) (w : World) :
    Calls Tryz.prog 113 #[.int .i64 op] w fun e w' => e = .returned (.int .i64 (upV op)) ∧ w = w' := by
  by_cases h0 : op = 1 ∨ op = 2 ∨ op = 3 ∨ op = 4 ∨ op = 5 ∨ op = 6 ∨ op = 7 ∨ op = 8 ∨ op = 9 ∨ op = 10 ∨ op = 11 ∨ op = 12 ∨ op = 13 ∨ op = 14 ∨ op = 15
  · exact upper7_0 op h0 w
  by_cases h1 : op = 16 ∨ op = 17 ∨ op = 18 ∨ op = 19 ∨ op = 20 ∨ op = 21 ∨ op = 22 ∨ op = 23 ∨ op = 24 ∨ op = 25 ∨ op = 26 ∨ op = 27 ∨ op = 28 ∨ op = 29 ∨ op = 30
  · exact upper7_1 op h1 w
  by_cases h2 : op = 31 ∨ op = 32 ∨ op = 33 ∨ op = 34 ∨ op = 35 ∨ op = 36 ∨ op = 37 ∨ op = 38 ∨ op = 39 ∨ op = 40 ∨ op = 41 ∨ op = 42 ∨ op = 43 ∨ op = 44 ∨ op = 45
  · exact upper7_2 op h2 w
  by_cases h3 : op = 46 ∨ op = 47 ∨ op = 48 ∨ op = 49 ∨ op = 50 ∨ op = 51 ∨ op = 52 ∨ op = 53 ∨ op = 54 ∨ op = 55 ∨ op = 56 ∨ op = 57 ∨ op = 58 ∨ op = 59 ∨ op = 60
  · exact upper7_3 op h3 w
  exact upper7_4 op (by omega) w
end Go.Proofs.YtolmecnjolfjgaaGreatDoor
