/- Joined: HChLeaf, HChDec, HChRef, HChRight, HChTok. -/
import Derived.Test.YtgaegajcejpmdaaGreatDoorProg
import Derived.Test.YtgaegajcejpmdaaGreatDoorHJ6
import Derived.Test.YtgaegajcejpmdaaGreatDoorHChBits
import Derived.WalkKit
import Derived.WalkSpells
import Derived.WalkLawsBesides
import Derived.Laws.IdiomStrings
namespace Go.Proofs.YtgaegajcejpmdaaGreatDoor.Ch
open Go.RowKit

theorem ret_int {k : IntKind} {a b : Int} (h : a = b) : Ending.returned (.int k a) = .returned (.int k b) := by rw [h]
theorem ret_bool {a b : Bool} (h : a = b) : Ending.returned (.bool a) = .returned (.bool b) := by rw [h]

set_option maxHeartbeats 400000 in
theorem announced_any (c : Int) (w : World) (h0 : 0 ≤ c) (h1 : c < 256) :
    Calls Tryz.prog 173 #[.int .u8 c] w fun e w' => e = .returned (.int .i64 (ann c)) ∧ w' = w := by
  go_enter Tryz.func173, Tryz.ntmps173
  go_wp2
  all_goals
    go_ret
    refine ⟨ret_int ?_, rfl⟩
    simp only [beq_iff_eq, beq_eq_false_iff_ne] at *
    unfold ann
    repeat' split
    all_goals omega

set_option maxHeartbeats 400000 in
theorem width_any (r : Int) (w : World) :
    Calls Tryz.prog 174 #[.int .i32 r] w fun e w' => e = .returned (.int .i64 (wid r)) ∧ w' = w := by
  go_enter Tryz.func174, Tryz.ntmps174
  go_wp2
  all_goals
    go_ret
    refine ⟨ret_int ?_, rfl⟩
    unfold wid
    repeat' split
    all_goals omega

set_option maxHeartbeats 400000 in
theorem char_any (r : Int) (w : World) :
    Calls Tryz.prog 175 #[.int .i32 r] w fun e w' => e = .returned (.bool (isChar r)) ∧ w' = w := by
  go_enter Tryz.func175, Tryz.ntmps175
  go_wp2
  all_goals
    go_ret
    refine ⟨ret_bool ?_, rfl⟩
    unfold isChar
    rw [Bool.eq_iff_iff]
    simp at *
    omega

set_option maxHeartbeats 400000 in
theorem rchar_any (r : Int) (w : World) :
    Calls Tryz.prog 167 #[.int .i64 r] w fun e w' => e = .returned (.bool (isChar r)) ∧ w' = w := by
  go_enter Tryz.func167, Tryz.ntmps167
  go_wp2
  all_goals
    go_ret
    refine ⟨ret_bool ?_, rfl⟩
    unfold isChar
    rw [Bool.eq_iff_iff]
    simp at *
    omega

set_option maxHeartbeats 400000 in
theorem start_any (r : Int) (w : World) :
    Calls Tryz.prog 146 #[.int .i32 r] w fun e w' => e = .returned (.bool (isStart r)) ∧ w' = w := by
  go_enter Tryz.func146, Tryz.ntmps146
  go_wp2_with (go_at_call 175; refine (char_any _ _).mono ?_; rintro e w' ⟨rfl, rfl⟩)
  all_goals
    go_ret
    refine ⟨ret_bool ?_, rfl⟩
    unfold isStart
    rw [Bool.eq_iff_iff]
    generalize isChar r = z at *
    cases z <;> simp at * <;> omega

set_option maxHeartbeats 400000 in
theorem rstart_any (r : Int) (w : World) :
    Calls Tryz.prog 119 #[.int .i64 r] w fun e w' => e = .returned (.bool (isStart r)) ∧ w' = w := by
  go_enter Tryz.func119, Tryz.ntmps119
  go_wp2_with (go_at_call 167; refine (rchar_any _ _).mono ?_; rintro e w' ⟨rfl, rfl⟩)
  all_goals
    go_ret
    refine ⟨ret_bool ?_, rfl⟩
    unfold isStart
    rw [Bool.eq_iff_iff]
    generalize isChar r = z at *
    cases z <;> simp at * <;> omega

set_option maxHeartbeats 400000 in
theorem part_any (r : Int) (w : World) :
    Calls Tryz.prog 145 #[.int .i32 r] w fun e w' => e = .returned (.bool (isPart r)) ∧ w' = w := by
  go_enter Tryz.func145, Tryz.ntmps145
  go_wp2_with (go_at_call 146; refine (start_any _ _).mono ?_; rintro e w' ⟨rfl, rfl⟩)
  all_goals
    go_ret
    refine ⟨ret_bool ?_, rfl⟩
    unfold isPart
    rw [Bool.eq_iff_iff]
    generalize isStart r = z at *
    cases z <;> simp at * <;> omega

set_option maxHeartbeats 400000 in
theorem rpart_any (r : Int) (w : World) :
    Calls Tryz.prog 118 #[.int .i64 r] w fun e w' => e = .returned (.bool (isPart r)) ∧ w' = w := by
  go_enter Tryz.func118, Tryz.ntmps118
  go_wp2_with (go_at_call 119; refine (rstart_any _ _).mono ?_; rintro e w' ⟨rfl, rfl⟩)
  all_goals
    go_ret
    refine ⟨ret_bool ?_, rfl⟩
    unfold isPart
    rw [Bool.eq_iff_iff]
    generalize isStart r = z at *
    cases z <;> simp at * <;> omega

set_option maxHeartbeats 400000 in
theorem white_any (r : Int) (w : World) :
    Calls Tryz.prog 116 #[.int .i32 r] w fun e w' => e = .returned (.bool (isWhite r)) ∧ w' = w := by
  go_enter Tryz.func116, Tryz.ntmps116
  go_wp2
  all_goals
    go_ret
    refine ⟨ret_bool ?_, rfl⟩
    unfold isWhite
    rw [Bool.eq_iff_iff]
    simp at *
    omega

set_option maxHeartbeats 400000 in
theorem rwhite_any (r : Int) (w : World) :
    Calls Tryz.prog 65 #[.int .i64 r] w fun e w' => e = .returned (.bool (isWhite r)) ∧ w' = w := by
  go_enter Tryz.func65, Tryz.ntmps65
  go_wp2
  all_goals
    go_ret
    refine ⟨ret_bool ?_, rfl⟩
    unfold isWhite
    rw [Bool.eq_iff_iff]
    simp at *
    omega

end Go.Proofs.YtgaegajcejpmdaaGreatDoor.Ch
namespace Go.Proofs.YtgaegajcejpmdaaGreatDoor.Ch
open Go.RowKit
set_option linter.unusedVariables false

theorem ret_pair {k m : IntKind} {a b : Int} {p : Int × Int} (h : p = (a, b)) : Ending.returned (.tuple #[.int k a, .int m b]) = .returned (.tuple #[.int k p.1, .int m p.2]) := by rw [h]
theorem tl_yes {c : Int} (h : (c / 64 != 2) = false) : isTl c = true := by
  unfold isTl; simp at *; omega
theorem tl_no {c : Int} (h : (c / 64 != 2) = true) : isTl c = false := by
  unfold isTl; simp at *; omega
theorem fin_bad {r n : Int} (h : (wid r != n) = true) : fin r n = (-1, 0) := by
  unfold fin; simp at h; rw [if_neg h]
theorem fin_ok {r n : Int} (h : (wid r != n) = false) : fin r n = (r, n) := by
  unfold fin; simp at h; rw [if_pos h]

set_option maxHeartbeats 400000 in
theorem dec_empty (a : Option Addr) (cap : Nat) (w : World) :
    Calls Tryz.prog 144 #[.slice a 0 cap] w fun e w' => e = .returned (.tuple #[.int .i32 (-1), .int .i64 0]) ∧ w' = w := by
  go_enter Tryz.func144, Tryz.ntmps144
  go_wp2
  go_ret2
  exact ⟨rfl, rfl⟩

set_option maxHeartbeats 400000 in
theorem dec_none (b o len cap : Nat) (c : Int) (w : World) (hl : 1 ≤ len) (hc : len ≤ cap) (hm : cap ≤ maxLen) (h0 : w.cell? ⟨b, o, none⟩ = some (.int .u8 c)) (hc0 : 0 ≤ c) (hc1 : c < 256) (hn : ann c = 0 ∨ (len : Int) < ann c) :
    Calls Tryz.prog 144 #[.slice (some ⟨b, o, none⟩) len cap] w fun e w' => e = .returned (.tuple #[.int .i32 (-1), .int .i64 0]) ∧ w' = w := by
  unfold maxLen at hm
  have hne : ((len : Int) == 0) = false := by simp; omega
  generalize ha : ann c = n at hn
  rcases hn with rfl | hn
  · go_enter Tryz.func144, Tryz.ntmps144
    go_wp2_with (go_at_call 173; refine (announced_any _ _ (by omega) (by omega)).mono ?_; rintro e w' ⟨rfl, rfl⟩)
    go_ret2
    exact ⟨rfl, rfl⟩
  · have hz : (n == 0) = false := by simp; omega
    go_enter Tryz.func144, Tryz.ntmps144
    go_wp2_with (go_at_call 173; refine (announced_any _ _ (by omega) (by omega)).mono ?_; rintro e w' ⟨rfl, rfl⟩)
    go_ret2
    exact ⟨rfl, rfl⟩

set_option maxHeartbeats 400000 in
theorem dec_one (b o len cap : Nat) (c : Int) (w : World) (hl : 1 ≤ len) (hc : len ≤ cap) (hm : cap ≤ maxLen) (h0 : w.cell? ⟨b, o, none⟩ = some (.int .u8 c)) (hc0 : 0 ≤ c) (hc1 : c < 128) :
    Calls Tryz.prog 144 #[.slice (some ⟨b, o, none⟩) len cap] w fun e w' => e = .returned (.tuple #[.int .i32 c, .int .i64 1]) ∧ w' = w := by
  unfold maxLen at hm
  have ha : ann c = 1 := by unfold ann; simp; omega
  have hw : wid c = 1 := by unfold wid; repeat' split; all_goals omega
  have hne : ((len : Int) == 0) = false := by simp; omega
  have hn2 : ¬ ((len : Int) < 1) := by omega
  go_enter Tryz.func144, Tryz.ntmps144
  go_wp2_with (go_at_call 173; refine (announced_any _ _ (by omega) (by omega)).mono ?_; rintro e w' ⟨rfl, rfl⟩)
  all_goals
    refine wp_loop_rounds 1 ?_
    rw [rounds_succ]
    go_wp2_with (go_at_call 174; refine (width_any _ _).mono ?_; rintro e w' ⟨rfl, rfl⟩)
    go_ret2
    exact ⟨rfl, rfl⟩

set_option maxHeartbeats 400000 in
theorem dec_two (b o len cap : Nat) (c c1 : Int) (w : World) (hl : 2 ≤ len) (hc : len ≤ cap) (hm : cap ≤ maxLen) (h0 : w.cell? ⟨b, o, none⟩ = some (.int .u8 c)) (hc0 : 192 ≤ c) (hc1 : c < 224)
   (h1 : w.cell? ⟨b, o + 1, none⟩ = some (.int .u8 c1)) (hd0 : 0 ≤ c1) (hd1 : c1 < 256) :
    Calls Tryz.prog 144 #[.slice (some ⟨b, o, none⟩) len cap] w fun e w' => e = .returned (.tuple #[.int .i32 (dec2 c c1).1, .int .i64 (dec2 c c1).2]) ∧ w' = w := by
  unfold maxLen at hm
  have ha : ann c = 2 := by unfold ann; repeat' split; all_goals omega
  have hne : ((len : Int) == 0) = false := by simp; omega
  have hn2 : ¬ ((len : Int) < 2) := by omega
  have hcp : ¬ cap = 1 := by omega
  have e1 := i32_and31 c (by omega) (by omega)
  have e2 := u8_and63 c1 hd0 hd1
  go_enter Tryz.func144, Tryz.ntmps144
  go_wp2_with (go_at_call 173; refine (announced_any _ _ (by omega) (by omega)).mono ?_; rintro e w' ⟨rfl, rfl⟩)
  refine wp_loop_rounds 2 ?_
  rw [rounds_succ]
  go_wp2_with (go_at_call 174; refine (width_any _ _).mono ?_; rintro e w' ⟨rfl, rfl⟩)
  · go_ret2
    exact ⟨ret_pair (by unfold dec2; rw [tl_no ‹_›]; rfl), rfl⟩
  rw [rounds_succ]
  go_wp2_with (go_at_call 174; refine (width_any _ _).mono ?_; rintro e w' ⟨rfl, rfl⟩)
  · go_ret2
    exact ⟨ret_pair (by unfold dec2; rw [if_pos (tl_yes ‹_›), fin_bad ‹_›]), rfl⟩
  · go_ret2
    exact ⟨ret_pair (by unfold dec2; rw [if_pos (tl_yes ‹_›), fin_ok ‹_›]), rfl⟩

set_option maxHeartbeats 400000 in
theorem dec_three (b o len cap : Nat) (c c1 c2 : Int) (w : World) (hl : 3 ≤ len) (hc : len ≤ cap) (hm : cap ≤ maxLen) (h0 : w.cell? ⟨b, o, none⟩ = some (.int .u8 c)) (hc0 : 224 ≤ c) (hc1 : c < 240)
   (h1 : w.cell? ⟨b, o + 1, none⟩ = some (.int .u8 c1)) (hd0 : 0 ≤ c1) (hd1 : c1 < 256) (h2 : w.cell? ⟨b, o + 2, none⟩ = some (.int .u8 c2)) (hg0 : 0 ≤ c2) (hg1 : c2 < 256) :
    Calls Tryz.prog 144 #[.slice (some ⟨b, o, none⟩) len cap] w fun e w' => e = .returned (.tuple #[.int .i32 (dec3 c c1 c2).1, .int .i64 (dec3 c c1 c2).2]) ∧ w' = w := by
  unfold maxLen at hm
  have ha : ann c = 3 := by unfold ann; repeat' split; all_goals omega
  have hne : ((len : Int) == 0) = false := by simp; omega
  have hn2 : ¬ ((len : Int) < 3) := by omega
  have hcp : ¬ cap = 1 := by omega
  have e1 := i32_and15 c (by omega) (by omega)
  have e2 := u8_and63 c1 hd0 hd1
  have e3 := u8_and63 c2 hg0 hg1
  go_enter Tryz.func144, Tryz.ntmps144
  go_wp2_with (go_at_call 173; refine (announced_any _ _ (by omega) (by omega)).mono ?_; rintro e w' ⟨rfl, rfl⟩)
  refine wp_loop_rounds 3 ?_
  rw [rounds_succ]
  go_wp2_with (go_at_call 174; refine (width_any _ _).mono ?_; rintro e w' ⟨rfl, rfl⟩)
  · go_ret2
    exact ⟨ret_pair (by unfold dec3; rw [tl_no ‹_›]; simp), rfl⟩
  rw [rounds_succ]
  go_wp2_with (go_at_call 174; refine (width_any _ _).mono ?_; rintro e w' ⟨rfl, rfl⟩)
  · go_ret2
    exact ⟨ret_pair (by unfold dec3; rw [tl_no (c := c2) ‹_›]; simp), rfl⟩
  rw [rounds_succ]
  go_wp2_with (go_at_call 174; refine (width_any _ _).mono ?_; rintro e w' ⟨rfl, rfl⟩)
  · go_ret2
    exact ⟨ret_pair (by unfold dec3; rw [if_pos ⟨tl_yes (c := c1) ‹_›, tl_yes (c := c2) ‹_›⟩, fin_bad ‹_›]), rfl⟩
  · go_ret2
    exact ⟨ret_pair (by unfold dec3; rw [if_pos ⟨tl_yes (c := c1) ‹_›, tl_yes (c := c2) ‹_›⟩, fin_ok ‹_›]), rfl⟩

set_option maxHeartbeats 800000 in
theorem dec_four (b o len cap : Nat) (c c1 c2 c3 : Int) (w : World) (hl : 4 ≤ len) (hc : len ≤ cap) (hm : cap ≤ maxLen) (h0 : w.cell? ⟨b, o, none⟩ = some (.int .u8 c)) (hc0 : 240 ≤ c) (hc1 : c < 248)
   (h1 : w.cell? ⟨b, o + 1, none⟩ = some (.int .u8 c1)) (hd0 : 0 ≤ c1) (hd1 : c1 < 256) (h2 : w.cell? ⟨b, o + 2, none⟩ = some (.int .u8 c2)) (hg0 : 0 ≤ c2) (hg1 : c2 < 256)
   (h3 : w.cell? ⟨b, o + 3, none⟩ = some (.int .u8 c3)) (hk0 : 0 ≤ c3) (hk1 : c3 < 256) :
    Calls Tryz.prog 144 #[.slice (some ⟨b, o, none⟩) len cap] w fun e w' => e = .returned (.tuple #[.int .i32 (dec4 c c1 c2 c3).1, .int .i64 (dec4 c c1 c2 c3).2]) ∧ w' = w := by
  unfold maxLen at hm
  have ha : ann c = 4 := by unfold ann; repeat' split; all_goals omega
  have hne : ((len : Int) == 0) = false := by simp; omega
  have hn2 : ¬ ((len : Int) < 4) := by omega
  have hcp : ¬ cap = 1 := by omega
  have e1 := i32_and7 c (by omega) (by omega)
  have e2 := u8_and63 c1 hd0 hd1
  have e3 := u8_and63 c2 hg0 hg1
  have e4 := u8_and63 c3 hk0 hk1
  go_enter Tryz.func144, Tryz.ntmps144
  go_wp2_with (go_at_call 173; refine (announced_any _ _ (by omega) (by omega)).mono ?_; rintro e w' ⟨rfl, rfl⟩)
  refine wp_loop_rounds 4 ?_
  rw [rounds_succ]
  go_wp2_with (go_at_call 174; refine (width_any _ _).mono ?_; rintro e w' ⟨rfl, rfl⟩)
  · go_ret2
    exact ⟨ret_pair (by unfold dec4; rw [tl_no (c := c1) ‹_›]; simp), rfl⟩
  rw [rounds_succ]
  go_wp2_with (go_at_call 174; refine (width_any _ _).mono ?_; rintro e w' ⟨rfl, rfl⟩)
  · go_ret2
    exact ⟨ret_pair (by unfold dec4; rw [tl_no (c := c2) ‹_›]; simp), rfl⟩
  rw [rounds_succ]
  go_wp2_with (go_at_call 174; refine (width_any _ _).mono ?_; rintro e w' ⟨rfl, rfl⟩)
  · go_ret2
    exact ⟨ret_pair (by unfold dec4; rw [tl_no (c := c3) ‹_›]; simp), rfl⟩
  rw [rounds_succ]
  go_wp2_with (go_at_call 174; refine (width_any _ _).mono ?_; rintro e w' ⟨rfl, rfl⟩)
  · go_ret2
    exact ⟨ret_pair (by unfold dec4; rw [if_pos ⟨tl_yes (c := c1) ‹_›, tl_yes (c := c2) ‹_›, tl_yes (c := c3) ‹_›⟩, fin_bad ‹_›]), rfl⟩
  · go_ret2
    exact ⟨ret_pair (by unfold dec4; rw [if_pos ⟨tl_yes (c := c1) ‹_›, tl_yes (c := c2) ‹_›, tl_yes (c := c3) ‹_›⟩, fin_ok ‹_›]), rfl⟩

/-- A slice of bytes as it lies in memory: its bytes are the list. -/
def Bts (w : World) (a : Option Addr) (l : List Int) : Prop :=
  (∀ i, 0 ≤ l.getD i 0 ∧ l.getD i 0 < 256) ∧ (l = [] ∨ ∃ b o, a = some ⟨b, o, none⟩ ∧ ∀ i, i < l.length → w.cell? ⟨b, o + i, none⟩ = some (.int .u8 (l.getD i 0)))

theorem decode_any (a : Option Addr) (l : List Int) (cap : Nat) (w : World) (hc : l.length ≤ cap) (hm : cap ≤ maxLen) (hb : Bts w a l) :
    Calls Tryz.prog 144 #[.slice a l.length cap] w fun e w' => e = .returned (.tuple #[.int .i32 (dec l).1, .int .i64 (dec l).2]) ∧ w' = w := by
  obtain ⟨hby, rfl | ⟨b, o, rfl, hcell⟩⟩ := hb
  · exact dec_empty a cap w
  by_cases hl : l.length = 0
  · have : l = [] := List.eq_nil_of_length_eq_zero hl
    subst this
    exact dec_empty _ cap w
  have h0 := hcell 0 (by omega)
  have b0 := hby 0
  have b1 := hby 1
  have b2 := hby 2
  have b3 := hby 3
  unfold dec
  rw [if_neg hl]
  by_cases c0 : l.getD 0 0 < 128
  · rw [if_pos c0]
    exact dec_one b o l.length cap _ w (by omega) hc hm h0 b0.1 c0
  rw [if_neg c0]
  by_cases c1 : l.getD 0 0 < 192
  · rw [if_pos c1]
    exact dec_none b o l.length cap _ w (by omega) hc hm h0 b0.1 b0.2 (.inl (by unfold ann; rw [if_neg c0, if_pos c1]))
  rw [if_neg c1]
  by_cases c2 : l.getD 0 0 < 224
  · rw [if_pos c2]
    by_cases g : 2 ≤ l.length
    · rw [if_pos g]
      exact dec_two b o l.length cap _ _ w g hc hm h0 (by omega) c2 (hcell 1 (by omega)) b1.1 b1.2
    · rw [if_neg g]
      exact dec_none b o l.length cap _ w (by omega) hc hm h0 b0.1 b0.2 (.inr (by unfold ann; rw [if_neg c0, if_neg c1, if_pos c2]; omega))
  rw [if_neg c2]
  by_cases c3 : l.getD 0 0 < 240
  · rw [if_pos c3]
    by_cases g : 3 ≤ l.length
    · rw [if_pos g]
      exact dec_three b o l.length cap _ _ _ w g hc hm h0 (by omega) c3 (hcell 1 (by omega)) b1.1 b1.2 (hcell 2 (by omega)) b2.1 b2.2
    · rw [if_neg g]
      exact dec_none b o l.length cap _ w (by omega) hc hm h0 b0.1 b0.2 (.inr (by unfold ann; rw [if_neg c0, if_neg c1, if_neg c2, if_pos c3]; omega))
  rw [if_neg c3]
  by_cases c4 : l.getD 0 0 < 248
  · rw [if_pos c4]
    by_cases g : 4 ≤ l.length
    · rw [if_pos g]
      exact dec_four b o l.length cap _ _ _ _ w g hc hm h0 (by omega) c4 (hcell 1 (by omega)) b1.1 b1.2 (hcell 2 (by omega)) b2.1 b2.2 (hcell 3 (by omega)) b3.1 b3.2
    · rw [if_neg g]
      exact dec_none b o l.length cap _ w (by omega) hc hm h0 b0.1 b0.2 (.inr (by unfold ann; rw [if_neg c0, if_neg c1, if_neg c2, if_neg c3, if_pos c4]; omega))
  rw [if_neg c4]
  exact dec_none b o l.length cap _ w (by omega) hc hm h0 b0.1 b0.2 (.inl (by unfold ann; rw [if_neg c0, if_neg c1, if_neg c2, if_neg c3, if_neg c4]))
end Go.Proofs.YtgaegajcejpmdaaGreatDoor.Ch
namespace Go.Proofs.YtgaegajcejpmdaaGreatDoor.Ch
open Go.RowKit
set_option linter.unusedVariables false

def tlv (l : List Int) (i : Nat) : Int := if i < l.length ∧ isTl (l.getD i 0) = true then l.getD i 0 % 64 else -1
theorem tlv_bd (l : List Int) (i : Nat) : tlv l i = -1 ∨ (0 ≤ tlv l i ∧ tlv l i < 64) := by
  unfold tlv; split <;> omega

set_option maxHeartbeats 400000 in
theorem tail_any (a : Option Addr) (l : List Int) (cap : Nat) (i : Int) (w : World) (h0 : 0 ≤ i) (h1 : i < 100) (hm : l.length ≤ maxLen) (hb : Bts w a l) :
    Calls Tryz.prog 195 #[.slice a l.length cap, .int .i64 i] w fun e w' => e = .returned (.int .i64 (tlv l i.toNat)) ∧ w' = w := by
  unfold maxLen at hm
  obtain ⟨n, rfl⟩ := Int.eq_ofNat_of_zero_le h0
  by_cases hn : n < l.length
  · obtain ⟨hby, rfl | ⟨b, o, rfl, hcell⟩⟩ := hb
    · simp at hn
    have hc := hcell n hn
    have hbn := hby n
    have e1 := u8_and192 _ hbn.1 hbn.2
    have e2 := u8_and63 _ hbn.1 hbn.2
    have hlt : ¬ ((l.length : Int) ≤ (n : Int)) := by omega
    generalize hx : l.getD n 0 = x at *
    have hx' : Hid (l.getD n 0 = x) := hx
    clear hx hby hcell
    go_enter Tryz.func195, Tryz.ntmps195
    go_wp2
    · go_ret
      refine ⟨ret_int ?_, rfl⟩
      unfold tlv isTl
      simp only [hx'.out]
      rw [if_neg]
      simp at *
      omega
    · go_ret
      refine ⟨ret_int ?_, rfl⟩
      unfold tlv isTl
      simp only [hx'.out]
      rw [if_pos]
      simp at *
      omega
  · have hle : (l.length : Int) ≤ (n : Int) := by omega
    go_enter Tryz.func195, Tryz.ntmps195
    go_wp2
    go_ret
    refine ⟨ret_int ?_, rfl⟩
    unfold tlv
    rw [if_neg]
    simp; omega

theorem dec_2 {l : List Int} (hl : ¬ l.length = 0) (c0 : 192 ≤ l.getD 0 0) (c1 : l.getD 0 0 < 224) : dec l = if 0 ≤ tlv l 1 then fin (l.getD 0 0 % 32 * 64 + tlv l 1) 2 else (-1, 0) := by
  unfold dec dec2 tlv
  rw [if_neg hl, if_neg (by omega), if_neg (by omega), if_pos c1]
  by_cases g : 2 ≤ l.length
  · by_cases t : isTl (l.getD 1 0) = true
    · rw [if_pos g, if_pos t, if_pos (c := 1 < l.length ∧ _) ⟨by omega, t⟩, if_pos (by omega)]
    · rw [if_pos g, if_neg t, if_neg (c := 1 < l.length ∧ _) (fun h => t h.2), if_neg (by omega)]
  · rw [if_neg g, if_neg (c := 1 < l.length ∧ _) (fun h => by omega), if_neg (by omega)]
theorem dec_3 {l : List Int} (hl : ¬ l.length = 0) (c0 : 224 ≤ l.getD 0 0) (c1 : l.getD 0 0 < 240) : dec l = if 0 ≤ tlv l 1 ∧ 0 ≤ tlv l 2 then fin ((l.getD 0 0 % 16 * 64 + tlv l 1) * 64 + tlv l 2) 3 else (-1, 0) := by
  unfold dec dec3 tlv
  rw [if_neg hl, if_neg (by omega), if_neg (by omega), if_neg (by omega), if_pos c1]
  by_cases g : 3 ≤ l.length
  · by_cases t : isTl (l.getD 1 0) = true
    · by_cases u : isTl (l.getD 2 0) = true
      · rw [if_pos g, if_pos ⟨t, u⟩, if_pos (c := 1 < l.length ∧ _) ⟨by omega, t⟩, if_pos (c := 2 < l.length ∧ _) ⟨by omega, u⟩, if_pos (by omega)]
      · rw [if_pos g, if_neg (fun h => u h.2), if_neg (c := 2 < l.length ∧ _) (fun h => u h.2), if_neg (fun h => by omega)]
    · rw [if_pos g, if_neg (fun h => t h.1), if_neg (c := 1 < l.length ∧ _) (fun h => t h.2), if_neg (fun h => by omega)]
  · rw [if_neg g, if_neg (c := 2 < l.length ∧ _) (fun h => by omega), if_neg (fun h => by omega)]
theorem dec_4 {l : List Int} (hl : ¬ l.length = 0) (c0 : 240 ≤ l.getD 0 0) (c1 : l.getD 0 0 < 248) : dec l = if 0 ≤ tlv l 1 ∧ 0 ≤ tlv l 2 ∧ 0 ≤ tlv l 3 then fin (((l.getD 0 0 % 8 * 64 + tlv l 1) * 64 + tlv l 2) * 64 + tlv l 3) 4 else (-1, 0) := by
  unfold dec dec4 tlv
  rw [if_neg hl, if_neg (by omega), if_neg (by omega), if_neg (by omega), if_neg (by omega), if_pos c1]
  by_cases g : 4 ≤ l.length
  · by_cases t : isTl (l.getD 1 0) = true
    · by_cases u : isTl (l.getD 2 0) = true
      · by_cases v : isTl (l.getD 3 0) = true
        · rw [if_pos g, if_pos ⟨t, u, v⟩, if_pos (c := 1 < l.length ∧ _) ⟨by omega, t⟩, if_pos (c := 2 < l.length ∧ _) ⟨by omega, u⟩, if_pos (c := 3 < l.length ∧ _) ⟨by omega, v⟩, if_pos (by omega)]
        · rw [if_pos g, if_neg (fun h => v h.2.2), if_neg (c := 3 < l.length ∧ _) (fun h => v h.2), if_neg (fun h => by omega)]
      · rw [if_pos g, if_neg (fun h => u h.2.1), if_neg (c := 2 < l.length ∧ _) (fun h => u h.2), if_neg (fun h => by omega)]
    · rw [if_pos g, if_neg (fun h => t h.1), if_neg (c := 1 < l.length ∧ _) (fun h => t h.2), if_neg (fun h => by omega)]
  · rw [if_neg g, if_neg (c := 3 < l.length ∧ _) (fun h => by omega), if_neg (fun h => by omega)]

theorem fin_no {r n : Int} (h : ¬ wid r = n) : fin r n = (-1, 0) := by unfold fin; rw [if_neg h]
theorem fin_yes {r n : Int} (h : wid r = n) : fin r n = (r, n) := by unfold fin; rw [if_pos h]

set_option maxHeartbeats 1000000 in
theorem rdec_two (b o cap : Nat) (l : List Int) (c t1 : Int) (w : World) (hl : 1 ≤ l.length) (hc : l.length ≤ cap) (hm : cap ≤ maxLen) (hb : Bts w (some ⟨b, o, none⟩) l) (h0 : w.cell? ⟨b, o, none⟩ = some (.int .u8 c)) (hc0 : 192 ≤ c) (hc1 : c < 224)
    (p : Int × Int) (ht1 : tlv l 1 = t1) (hbd1 : t1 = -1 ∨ (0 ≤ t1 ∧ t1 < 64)) (hno : ¬ (0 ≤ t1) → p = (-1, 0)) (hyes : 0 ≤ t1 → p = fin (c % 32 * 64 + t1) 2) :
    Calls Tryz.prog 166 #[.slice (some ⟨b, o, none⟩) l.length cap] w fun e w' => e = .returned (.tuple #[.int .i64 p.1, .int .i64 p.2]) ∧ w' = w := by
  unfold maxLen at hm
  have hne : ((l.length : Int) == 0) = false := beq_eq_false_iff_ne.2 (by omega)
  have e1 := i64_and224 c (by omega) (by omega)
  have f1 := i64_and240 c (by omega) (by omega)
  have f2 := i64_and248 c (by omega) (by omega)
  have g1 : (c / 32 * 32 == 192) = true := beq_iff_eq.2 (by omega)
  have e2 := i64_and31 c (by omega) (by omega)
  rcases hbd1 with h | ⟨h11, h11'⟩
  · subst h
    have hp := hno (by omega)
    subst hp
    clear hno hyes
    go_enter Tryz.func166, Tryz.ntmps166
    go_wp2
    refine wp_loop_rounds 2 ?_
    rw [rounds_succ]
    go_wp2_with (go_at_call 195; refine (tail_any _ _ _ _ _ (by omega) (by omega) (by unfold maxLen; omega) hb).mono ?_; rintro e w' ⟨rfl, rfl⟩)
    go_ret2
    exact ⟨rfl, rfl⟩
  have j1 := i64_join 6 ((c % 32) * 64) t1 (by omega) (by omega) (by omega) (by omega) (by omega) (by omega)
  have hp : Hid _ := hyes (by omega)
  clear hno hyes
  go_enter Tryz.func166, Tryz.ntmps166
  go_wp2
  refine wp_loop_rounds 2 ?_
  rw [rounds_succ]
  go_wp2_with (go_at_call 195; refine (tail_any _ _ _ _ _ (by omega) (by omega) (by unfold maxLen; omega) hb).mono ?_; rintro e w' ⟨rfl, rfl⟩)
  rw [rounds_succ]
  go_wp2
  all_goals
    go_ret2
    refine ⟨ret_pair ?_, rfl⟩
    rw [hp.out]
    first | exact fin_no (by unfold wid; repeat' split; all_goals omega) | exact fin_yes (by unfold wid; repeat' split; all_goals omega)

set_option maxHeartbeats 1000000 in
theorem rdec_three (b o cap : Nat) (l : List Int) (c t1 t2 : Int) (w : World) (hl : 1 ≤ l.length) (hc : l.length ≤ cap) (hm : cap ≤ maxLen) (hb : Bts w (some ⟨b, o, none⟩) l) (h0 : w.cell? ⟨b, o, none⟩ = some (.int .u8 c)) (hc0 : 224 ≤ c) (hc1 : c < 240)
    (p : Int × Int) (ht1 : tlv l 1 = t1) (hbd1 : t1 = -1 ∨ (0 ≤ t1 ∧ t1 < 64)) (ht2 : tlv l 2 = t2) (hbd2 : t2 = -1 ∨ (0 ≤ t2 ∧ t2 < 64)) (hno : ¬ (0 ≤ t1 ∧ 0 ≤ t2) → p = (-1, 0)) (hyes : 0 ≤ t1 ∧ 0 ≤ t2 → p = fin ((c % 16 * 64 + t1) * 64 + t2) 3) :
    Calls Tryz.prog 166 #[.slice (some ⟨b, o, none⟩) l.length cap] w fun e w' => e = .returned (.tuple #[.int .i64 p.1, .int .i64 p.2]) ∧ w' = w := by
  unfold maxLen at hm
  have hne : ((l.length : Int) == 0) = false := beq_eq_false_iff_ne.2 (by omega)
  have e1 := i64_and224 c (by omega) (by omega)
  have f1 := i64_and240 c (by omega) (by omega)
  have f2 := i64_and248 c (by omega) (by omega)
  have g1 : (c / 32 * 32 == 192) = false := beq_eq_false_iff_ne.2 (by omega)
  have g2 : (c / 16 * 16 == 224) = true := beq_iff_eq.2 (by omega)
  have e2 := i64_and15 c (by omega) (by omega)
  rcases hbd1 with h | ⟨h11, h11'⟩
  · subst h
    have hp := hno (by omega)
    subst hp
    clear hno hyes
    go_enter Tryz.func166, Tryz.ntmps166
    go_wp2
    refine wp_loop_rounds 3 ?_
    rw [rounds_succ]
    go_wp2_with (go_at_call 195; refine (tail_any _ _ _ _ _ (by omega) (by omega) (by unfold maxLen; omega) hb).mono ?_; rintro e w' ⟨rfl, rfl⟩)
    go_ret2
    exact ⟨rfl, rfl⟩
  have j1 := i64_join 6 ((c % 16) * 64) t1 (by omega) (by omega) (by omega) (by omega) (by omega) (by omega)
  rcases hbd2 with h | ⟨h12, h12'⟩
  · subst h
    have hp := hno (by omega)
    subst hp
    clear hno hyes
    go_enter Tryz.func166, Tryz.ntmps166
    go_wp2
    refine wp_loop_rounds 3 ?_
    rw [rounds_succ]
    go_wp2_with (go_at_call 195; refine (tail_any _ _ _ _ _ (by omega) (by omega) (by unfold maxLen; omega) hb).mono ?_; rintro e w' ⟨rfl, rfl⟩)
    rw [rounds_succ]
    go_wp2_with (go_at_call 195; refine (tail_any _ _ _ _ _ (by omega) (by omega) (by unfold maxLen; omega) hb).mono ?_; rintro e w' ⟨rfl, rfl⟩)
    go_ret2
    exact ⟨rfl, rfl⟩
  have j2 := i64_join 6 ((c % 16 * 64 + t1) * 64) t2 (by omega) (by omega) (by omega) (by omega) (by omega) (by omega)
  have hp : Hid _ := hyes (by omega)
  clear hno hyes
  go_enter Tryz.func166, Tryz.ntmps166
  go_wp2
  refine wp_loop_rounds 3 ?_
  rw [rounds_succ]
  go_wp2_with (go_at_call 195; refine (tail_any _ _ _ _ _ (by omega) (by omega) (by unfold maxLen; omega) hb).mono ?_; rintro e w' ⟨rfl, rfl⟩)
  rw [rounds_succ]
  go_wp2_with (go_at_call 195; refine (tail_any _ _ _ _ _ (by omega) (by omega) (by unfold maxLen; omega) hb).mono ?_; rintro e w' ⟨rfl, rfl⟩)
  rw [rounds_succ]
  go_wp2
  all_goals
    go_ret2
    refine ⟨ret_pair ?_, rfl⟩
    rw [hp.out]
    first | exact fin_no (by unfold wid; repeat' split; all_goals omega) | exact fin_yes (by unfold wid; repeat' split; all_goals omega)

set_option maxHeartbeats 1000000 in
theorem rdec_four (b o cap : Nat) (l : List Int) (c t1 t2 t3 : Int) (w : World) (hl : 1 ≤ l.length) (hc : l.length ≤ cap) (hm : cap ≤ maxLen) (hb : Bts w (some ⟨b, o, none⟩) l) (h0 : w.cell? ⟨b, o, none⟩ = some (.int .u8 c)) (hc0 : 240 ≤ c) (hc1 : c < 248)
    (p : Int × Int) (ht1 : tlv l 1 = t1) (hbd1 : t1 = -1 ∨ (0 ≤ t1 ∧ t1 < 64)) (ht2 : tlv l 2 = t2) (hbd2 : t2 = -1 ∨ (0 ≤ t2 ∧ t2 < 64)) (ht3 : tlv l 3 = t3) (hbd3 : t3 = -1 ∨ (0 ≤ t3 ∧ t3 < 64)) (hno : ¬ (0 ≤ t1 ∧ 0 ≤ t2 ∧ 0 ≤ t3) → p = (-1, 0)) (hyes : 0 ≤ t1 ∧ 0 ≤ t2 ∧ 0 ≤ t3 → p = fin (((c % 8 * 64 + t1) * 64 + t2) * 64 + t3) 4) :
    Calls Tryz.prog 166 #[.slice (some ⟨b, o, none⟩) l.length cap] w fun e w' => e = .returned (.tuple #[.int .i64 p.1, .int .i64 p.2]) ∧ w' = w := by
  unfold maxLen at hm
  have hne : ((l.length : Int) == 0) = false := beq_eq_false_iff_ne.2 (by omega)
  have e1 := i64_and224 c (by omega) (by omega)
  have f1 := i64_and240 c (by omega) (by omega)
  have f2 := i64_and248 c (by omega) (by omega)
  have g1 : (c / 32 * 32 == 192) = false := beq_eq_false_iff_ne.2 (by omega)
  have g2 : (c / 16 * 16 == 224) = false := beq_eq_false_iff_ne.2 (by omega)
  have g3 : (c / 8 * 8 == 240) = true := beq_iff_eq.2 (by omega)
  have e2 := i64_and7 c (by omega) (by omega)
  rcases hbd1 with h | ⟨h11, h11'⟩
  · subst h
    have hp := hno (by omega)
    subst hp
    clear hno hyes
    go_enter Tryz.func166, Tryz.ntmps166
    go_wp2
    refine wp_loop_rounds 4 ?_
    rw [rounds_succ]
    go_wp2_with (go_at_call 195; refine (tail_any _ _ _ _ _ (by omega) (by omega) (by unfold maxLen; omega) hb).mono ?_; rintro e w' ⟨rfl, rfl⟩)
    go_ret2
    exact ⟨rfl, rfl⟩
  have j1 := i64_join 6 ((c % 8) * 64) t1 (by omega) (by omega) (by omega) (by omega) (by omega) (by omega)
  rcases hbd2 with h | ⟨h12, h12'⟩
  · subst h
    have hp := hno (by omega)
    subst hp
    clear hno hyes
    go_enter Tryz.func166, Tryz.ntmps166
    go_wp2
    refine wp_loop_rounds 4 ?_
    rw [rounds_succ]
    go_wp2_with (go_at_call 195; refine (tail_any _ _ _ _ _ (by omega) (by omega) (by unfold maxLen; omega) hb).mono ?_; rintro e w' ⟨rfl, rfl⟩)
    rw [rounds_succ]
    go_wp2_with (go_at_call 195; refine (tail_any _ _ _ _ _ (by omega) (by omega) (by unfold maxLen; omega) hb).mono ?_; rintro e w' ⟨rfl, rfl⟩)
    go_ret2
    exact ⟨rfl, rfl⟩
  have j2 := i64_join 6 ((c % 8 * 64 + t1) * 64) t2 (by omega) (by omega) (by omega) (by omega) (by omega) (by omega)
  rcases hbd3 with h | ⟨h13, h13'⟩
  · subst h
    have hp := hno (by omega)
    subst hp
    clear hno hyes
    go_enter Tryz.func166, Tryz.ntmps166
    go_wp2
    refine wp_loop_rounds 4 ?_
    rw [rounds_succ]
    go_wp2_with (go_at_call 195; refine (tail_any _ _ _ _ _ (by omega) (by omega) (by unfold maxLen; omega) hb).mono ?_; rintro e w' ⟨rfl, rfl⟩)
    rw [rounds_succ]
    go_wp2_with (go_at_call 195; refine (tail_any _ _ _ _ _ (by omega) (by omega) (by unfold maxLen; omega) hb).mono ?_; rintro e w' ⟨rfl, rfl⟩)
    rw [rounds_succ]
    go_wp2_with (go_at_call 195; refine (tail_any _ _ _ _ _ (by omega) (by omega) (by unfold maxLen; omega) hb).mono ?_; rintro e w' ⟨rfl, rfl⟩)
    go_ret2
    exact ⟨rfl, rfl⟩
  have j3 := i64_join 6 (((c % 8 * 64 + t1) * 64 + t2) * 64) t3 (by omega) (by omega) (by omega) (by omega) (by omega) (by omega)
  have hp : Hid _ := hyes (by omega)
  clear hno hyes
  go_enter Tryz.func166, Tryz.ntmps166
  go_wp2
  refine wp_loop_rounds 4 ?_
  rw [rounds_succ]
  go_wp2_with (go_at_call 195; refine (tail_any _ _ _ _ _ (by omega) (by omega) (by unfold maxLen; omega) hb).mono ?_; rintro e w' ⟨rfl, rfl⟩)
  rw [rounds_succ]
  go_wp2_with (go_at_call 195; refine (tail_any _ _ _ _ _ (by omega) (by omega) (by unfold maxLen; omega) hb).mono ?_; rintro e w' ⟨rfl, rfl⟩)
  rw [rounds_succ]
  go_wp2_with (go_at_call 195; refine (tail_any _ _ _ _ _ (by omega) (by omega) (by unfold maxLen; omega) hb).mono ?_; rintro e w' ⟨rfl, rfl⟩)
  rw [rounds_succ]
  go_wp2
  all_goals
    go_ret2
    refine ⟨ret_pair ?_, rfl⟩
    rw [hp.out]
    first | exact fin_no (by unfold wid; repeat' split; all_goals omega) | exact fin_yes (by unfold wid; repeat' split; all_goals omega)

set_option maxHeartbeats 400000 in
theorem rdec_empty (a : Option Addr) (cap : Nat) (w : World) :
    Calls Tryz.prog 166 #[.slice a 0 cap] w fun e w' => e = .returned (.tuple #[.int .i64 (-1), .int .i64 0]) ∧ w' = w := by
  go_enter Tryz.func166, Tryz.ntmps166
  go_wp2
  go_ret2
  exact ⟨rfl, rfl⟩

set_option maxHeartbeats 400000 in
theorem rdec_one (b o len cap : Nat) (c : Int) (w : World) (hl : 1 ≤ len) (h0 : w.cell? ⟨b, o, none⟩ = some (.int .u8 c)) (hc0 : 0 ≤ c) (hc1 : c < 128) :
    Calls Tryz.prog 166 #[.slice (some ⟨b, o, none⟩) len cap] w fun e w' => e = .returned (.tuple #[.int .i64 c, .int .i64 1]) ∧ w' = w := by
  have hne : ((len : Int) == 0) = false := beq_eq_false_iff_ne.2 (by omega)
  go_enter Tryz.func166, Tryz.ntmps166
  go_wp2
  go_ret2
  exact ⟨rfl, rfl⟩

set_option maxHeartbeats 400000 in
theorem rdec_none (b o len cap : Nat) (c : Int) (w : World) (hl : 1 ≤ len) (h0 : w.cell? ⟨b, o, none⟩ = some (.int .u8 c)) (hc0 : 128 ≤ c) (hc1 : c < 256) (hn : c < 192 ∨ 248 ≤ c) :
    Calls Tryz.prog 166 #[.slice (some ⟨b, o, none⟩) len cap] w fun e w' => e = .returned (.tuple #[.int .i64 (-1), .int .i64 0]) ∧ w' = w := by
  have hne : ((len : Int) == 0) = false := beq_eq_false_iff_ne.2 (by omega)
  have e1 := i64_and224 c (by omega) (by omega)
  have f1 := i64_and240 c (by omega) (by omega)
  have f2 := i64_and248 c (by omega) (by omega)
  have g1 : (c / 32 * 32 == 192) = false := beq_eq_false_iff_ne.2 (by omega)
  have g2 : (c / 16 * 16 == 224) = false := beq_eq_false_iff_ne.2 (by omega)
  have g3 : (c / 8 * 8 == 240) = false := beq_eq_false_iff_ne.2 (by omega)
  go_enter Tryz.func166, Tryz.ntmps166
  go_wp2
  go_ret2
  exact ⟨rfl, rfl⟩

theorem rdecode_any (a : Option Addr) (l : List Int) (cap : Nat) (w : World) (hc : l.length ≤ cap) (hm : cap ≤ maxLen) (hb : Bts w a l) :
    Calls Tryz.prog 166 #[.slice a l.length cap] w fun e w' => e = .returned (.tuple #[.int .i64 (dec l).1, .int .i64 (dec l).2]) ∧ w' = w := by
  have hb' := hb
  obtain ⟨hby, rfl | ⟨b, o, rfl, hcell⟩⟩ := hb
  · exact rdec_empty a cap w
  by_cases hl : l.length = 0
  · have : l = [] := List.eq_nil_of_length_eq_zero hl
    subst this
    exact rdec_empty _ cap w
  have h0 := hcell 0 (by omega)
  have b0 := hby 0
  by_cases c0 : l.getD 0 0 < 128
  · have hd : dec l = (l.getD 0 0, 1) := by unfold dec; rw [if_neg hl, if_pos c0]
    rw [hd]
    exact rdec_one b o l.length cap _ w (by omega) h0 b0.1 c0
  by_cases c1 : l.getD 0 0 < 192
  · have hd : dec l = (-1, 0) := by unfold dec; rw [if_neg hl, if_neg c0, if_pos c1]
    rw [hd]
    exact rdec_none b o l.length cap _ w (by omega) h0 (by omega) b0.2 (.inl c1)
  by_cases c2 : l.getD 0 0 < 224
  · have hd := dec_2 hl (by omega) c2
    exact rdec_two b o cap l _ _ w (by omega) hc hm hb' h0 (by omega) c2 (dec l) rfl (tlv_bd l 1) (fun h => by rw [hd, if_neg h]) (fun h => by rw [hd, if_pos h])
  by_cases c3 : l.getD 0 0 < 240
  · have hd := dec_3 hl (by omega) c3
    exact rdec_three b o cap l _ _ _ w (by omega) hc hm hb' h0 (by omega) c3 (dec l) rfl (tlv_bd l 1) rfl (tlv_bd l 2) (fun h => by rw [hd, if_neg h]) (fun h => by rw [hd, if_pos h])
  by_cases c4 : l.getD 0 0 < 248
  · have hd := dec_4 hl (by omega) c4
    exact rdec_four b o cap l _ _ _ _ w (by omega) hc hm hb' h0 (by omega) c4 (dec l) rfl (tlv_bd l 1) rfl (tlv_bd l 2) rfl (tlv_bd l 3) (fun h => by rw [hd, if_neg h]) (fun h => by rw [hd, if_pos h])
  have hd : dec l = (-1, 0) := by unfold dec; rw [if_neg hl, if_neg c0, if_neg c1, if_neg c2, if_neg c3, if_neg c4]
  rw [hd]
  exact rdec_none b o l.length cap _ w (by omega) h0 (by omega) b0.2 (.inr (by omega))
end Go.Proofs.YtgaegajcejpmdaaGreatDoor.Ch
namespace Go.Proofs.YtgaegajcejpmdaaGreatDoor.Ch
open Go.RowKit
set_option linter.unusedVariables false

theorem getD_drop (l : List Int) (k i : Nat) : (l.drop k).getD i 0 = l.getD (k + i) 0 := by
  simp [List.getD_eq_getElem?_getD, List.getElem?_drop]
theorem Bts.drop {w : World} {b o : Nat} {l : List Int} (h : Bts w (some ⟨b, o, none⟩) l) (k : Nat) : Bts w (some ⟨b, o + k, none⟩) (l.drop k) := by
  refine ⟨fun i => by rw [getD_drop]; exact h.1 _, ?_⟩
  by_cases hk : k < l.length
  · rcases h.2 with rfl | ⟨b', o', he, hc⟩
    · simp at hk
    · refine .inr ⟨b, o + k, rfl, fun i hi => ?_⟩
      simp at he
      obtain ⟨rfl, rfl⟩ := he
      rw [getD_drop, Nat.add_assoc]
      exact hc (k + i) (by simp at hi; omega)
  · exact .inl (List.drop_eq_nil_of_le (by omega))
theorem decode_at (b o k : Nat) (l : List Int) (len cap : Nat) (w : World) (hl : l.length - k = len) (hc : l.length ≤ cap) (hm : cap ≤ maxLen) (hb : Bts w (some ⟨b, o, none⟩) l) :
    Calls Tryz.prog 144 #[.slice (some ⟨b, o + k, none⟩) len (cap - k)] w fun e w' => e = .returned (.tuple #[.int .i32 (dec (l.drop k)).1, .int .i64 (dec (l.drop k)).2]) ∧ w' = w := by
  have := decode_any _ _ (cap - k) w (by simp; omega) (by omega) (hb.drop k)
  rw [List.length_drop, hl] at this
  exact this
theorem rdecode_at (b o k : Nat) (l : List Int) (len cap : Nat) (w : World) (hl : l.length - k = len) (hc : l.length ≤ cap) (hm : cap ≤ maxLen) (hb : Bts w (some ⟨b, o, none⟩) l) :
    Calls Tryz.prog 166 #[.slice (some ⟨b, o + k, none⟩) len (cap - k)] w fun e w' => e = .returned (.tuple #[.int .i64 (dec (l.drop k)).1, .int .i64 (dec (l.drop k)).2]) ∧ w' = w := by
  have := rdecode_any _ _ (cap - k) w (by simp; omega) (by omega) (hb.drop k)
  rw [List.length_drop, hl] at this
  exact this

end Go.Proofs.YtgaegajcejpmdaaGreatDoor.Ch
namespace Go.Proofs.YtgaegajcejpmdaaGreatDoor.Ch
open Go.RowKit
set_option linter.unusedVariables false

/-- A text's bytes, as numbers. -/
def bl (s : ByteArray) : List Int := s.data.toList.map fun c => (c.toNat : Int)
theorem bl_len (s : ByteArray) : (bl s).length = s.size := by simp [bl]
theorem bl_bd (s : ByteArray) (i : Nat) : 0 ≤ (bl s).getD i 0 ∧ (bl s).getD i 0 < 256 := by
  unfold bl
  rw [List.getD_eq_getElem?_getD, List.getElem?_map]
  cases s.data.toList[i]? with
  | none => simp
  | some c => simp; have := c.toNat_lt; omega

theorem conv_bytes (s : ByteArray) (w : World) (hs : s.size ≤ maxLen) : ∃ cap w1, s.size ≤ cap ∧ cap ≤ maxLen ∧
    (convert 9 32 (.string s)).run Tryz.prog w = .ok (.slice (some ⟨w.heap.size, 0, none⟩) s.size cap) w1 ∧ Below w.heap.size w w1 ∧ w.heap.size < w1.heap.size ∧
    Bts w1 (some ⟨w.heap.size, 0, none⟩) (bl s) := by
  refine ⟨grownCap w s.size 0 5, _, grownCap_ge _ _ _ _, grownCap_le_maxLen _ _ _ _ hs, run_bytes_of_string w 9 32 5 s Tryz.underlying9 Tryz.underlying32 Tryz.underlying5, ?_, ?_, ?_⟩
  · exact (Below.refl _ _).drew.alloc (Nat.le_refl _) _
  · simp
  · refine ⟨bl_bd s, .inr ⟨_, _, rfl, fun i hi => ?_⟩⟩
    rw [bl_len] at hi
    have h := World.cell?_alloc_mark w.drew (bytesRow s (grownCap w s.size 0 5)) 5 ((bytesRow s (grownCap w s.size 0 5)).size, (bytesRow s (grownCap w s.size 0 5)).size + 1) i
    rw [Nat.zero_add]
    refine h.trans ?_
    rw [bytesRow_at s _ i hi]
    simp [bl, List.getD_eq_getElem?_getD, hi]

theorem decode_at0 (b k : Nat) (l : List Int) (len cap : Nat) (w : World) (hl : l.length - k = len) (hc : l.length ≤ cap) (hm : cap ≤ maxLen) (hb : Bts w (some ⟨b, 0, none⟩) l) :
    Calls Tryz.prog 144 #[.slice (some ⟨b, k, none⟩) len (cap - k)] w fun e w' => e = .returned (.tuple #[.int .i32 (dec (l.drop k)).1, .int .i64 (dec (l.drop k)).2]) ∧ w' = w := by
  have := decode_at b 0 k l len cap w hl hc hm hb
  rw [Nat.zero_add] at this
  exact this
theorem rdecode_at0 (b k : Nat) (l : List Int) (len cap : Nat) (w : World) (hl : l.length - k = len) (hc : l.length ≤ cap) (hm : cap ≤ maxLen) (hb : Bts w (some ⟨b, 0, none⟩) l) :
    Calls Tryz.prog 166 #[.slice (some ⟨b, k, none⟩) len (cap - k)] w fun e w' => e = .returned (.tuple #[.int .i64 (dec (l.drop k)).1, .int .i64 (dec (l.drop k)).2]) ∧ w' = w := by
  have := rdecode_at b 0 k l len cap w hl hc hm hb
  rw [Nat.zero_add] at this
  exact this

def tokB (l : List Int) : Bool := tok l.length l && decide (0 < l.length)

set_option maxHeartbeats 400000 in
theorem tok_any (s : ByteArray) (w : World) (hs : s.size ≤ maxLen) :
    Calls Tryz.prog 101 #[.string s] w fun e w' => e = .returned (.bool (tokB (bl s))) ∧ Below w.heap.size w w' := by
  have hm := hs
  unfold maxLen at hm
  obtain ⟨cap, w1, hc, hcm, hrun, hbel, hsz, hb⟩ := conv_bytes s w hs
  have hcm' := hcm
  unfold maxLen at hcm'
  rw [← bl_len] at hrun hc hm
  generalize bl s = l at *
  go_enter Tryz.func101, Tryz.ntmps101
  go_wp2
  go_loop [4] (fun at_ => ∃ k n : Nat, k ≤ l.length ∧ l.length - k ≤ n ∧ at_ = .int .i64 k ∧ tok n (l.drop k) = tok l.length l) (fun i => l.length - (intOf i).toNat)
  case atStart => exact ⟨0, l.length, Nat.zero_le _, Nat.le_refl _, rfl, by simp⟩
  case round =>
    obtain ⟨k, n, hk, hn, rfl, r1⟩ := hrel
    have R1 : Hid _ := r1
    have HB : Hid _ := hbel
    clear r1 hbel hrun
    by_cases hlt : k < l.length
    · have hcp : ¬ cap = k := by omega
      have hd0 : ¬ (l.drop k).length = 0 := by simp; omega
      have hdb := dec_bd (l.drop k)
      obtain ⟨n, rfl⟩ : ∃ m, n = m + 1 := ⟨n - 1, by omega⟩
      by_cases hz : (dec (l.drop k)).2 = 0
      · have hs : Hid _ := tok_bad n _ hd0 (.inl hz)
        go_wp2_with (go_at_call 144; refine (decode_at0 _ k l _ cap _ rfl hc hcm hb).mono ?_; rintro e w' ⟨rfl, rfl⟩)
        go_ret
        exact ⟨ret_bool (by unfold tokB; rw [← R1.out, hs.out]; rfl), HB.out⟩
      · have hzb : ((dec (l.drop k)).2 == 0) = false := beq_eq_false_iff_ne.2 hz
        have hdl : (dec (l.drop k)).2 ≤ l.length - k := by
          rcases hdb with h | h
          · exact absurd h hz
          · have := h.2.2; simp at this; omega
        have hd1 : 1 ≤ (dec (l.drop k)).2 := by omega
        have hd4 : (dec (l.drop k)).2 ≤ 4 := by omega
        clear hdb
        by_cases hch : isPart (dec (l.drop k)).1 = false
        · have hs : Hid _ := tok_bad n _ hd0 (.inr hch)
          go_wp2_with (first | (go_at_call 144; refine (decode_at0 _ k l _ cap _ rfl hc hcm hb).mono ?_; rintro e w' ⟨rfl, rfl⟩) | (go_at_call 145; refine (part_any _ _).mono ?_; rintro e w' ⟨rfl, rfl⟩))
          go_ret
          exact ⟨ret_bool (by unfold tokB; rw [← R1.out, hs.out]; rfl), HB.out⟩
        · have hs : Hid _ := tok_step n _ hd0 (fun h => h.elim hz hch)
          have hch' : isPart (dec (l.drop k)).1 = true := by simpa using hch
          clear hch hz
          go_wp2_with (first | (go_at_call 144; refine (decode_at0 _ k l _ cap _ rfl hc hcm hb).mono ?_; rintro e w' ⟨rfl, rfl⟩) | (go_at_call 145; refine (part_any _ _).mono ?_; rintro e w' ⟨rfl, rfl⟩))
          go_round
          case rel =>
            refine ⟨k + (dec (l.drop k)).2.toNat, n, by omega, by omega, by rw [Int.natCast_add, Int.toNat_of_nonneg (by omega)], ?_⟩
            rw [← R1.out, hs.out, List.drop_drop]
          case measure => simp [intOf]; omega
    · have hs : Hid _ := tok_end n (l.drop k) (by simp; omega)
      go_wp2
      go_ret
      exact ⟨ret_bool (by unfold tokB; rw [← R1.out, hs.out]; simp), HB.out⟩

def nameB (l : List Int) : Bool := isStart (dec l).1 && tokB l

set_option maxHeartbeats 400000 in
theorem name_any (s : ByteArray) (w : World) (hs : s.size ≤ maxLen) :
    Calls Tryz.prog 102 #[.string s] w fun e w' => e = .returned (.bool (nameB (bl s))) ∧ Below w.heap.size w w' := by
  obtain ⟨cap, w1, hc, hcm, hrun, hbel, hsz, hb⟩ := conv_bytes s w hs
  have HB : Hid _ := hbel
  clear hbel
  rw [← bl_len] at hrun hc
  by_cases hst : isStart (dec (bl s)).1 = true
  · go_enter Tryz.func102, Tryz.ntmps102
    go_wp2_with (first | (go_at_call 144; refine (decode_any _ _ cap _ hc hcm hb).mono ?_; rintro e w' ⟨rfl, rfl⟩) | (go_at_call 146; refine (start_any _ _).mono ?_; rintro e w' ⟨rfl, rfl⟩))
    refine (tok_any s _ hs).mono ?_
    rintro e w2 ⟨rfl, hb2⟩
    go_wp2
    go_ret
    exact ⟨ret_bool (by unfold nameB; rw [hst]; rfl), HB.out.trans (hb2.mono (by omega))⟩
  · have hst' : isStart (dec (bl s)).1 = false := by simpa using hst
    clear hst
    go_enter Tryz.func102, Tryz.ntmps102
    go_wp2_with (first | (go_at_call 144; refine (decode_any _ _ cap _ hc hcm hb).mono ?_; rintro e w' ⟨rfl, rfl⟩) | (go_at_call 146; refine (start_any _ _).mono ?_; rintro e w' ⟨rfl, rfl⟩))
    go_ret
    exact ⟨ret_bool (by unfold nameB; rw [hst']; rfl), HB.out⟩

end Go.Proofs.YtgaegajcejpmdaaGreatDoor.Ch
